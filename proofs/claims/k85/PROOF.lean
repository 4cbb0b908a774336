import PyProof.Rows.All
import Wide.All
import OpenK.AllK
import Wide.FinOn
import Lean
import PyProof.EqAt
import PyProof.EqKinds
import PyProof.TupleCall
import KE.KSortTup
import OpenK.KRaise
import OpenK.KOwn
import PyProof.ExcBaseAll.ValueError
import KE.KIsAll
import PyProof.ExcAttrAll.ValueError
import PyProof.NsDelKeeps
import PyProof.RulesAs
import KE.KTryMore
import KE.KLam
import KE.KNestM
import OpenK.KEqL
import PyProof.Rows.EqDataRows
import PyProof.NeKinds
import PyProof.FactsAll.dict
import PyProof.FactsAll.subtypes
import PyProof.ListRange
import PyProof.TupleOfGen
import PyProof.TupleOfSeq
import KE.KTupSum
import PyProof.Rows.SumAny
import PySem.Challenge.RW_tiechances_k85_webs_beside_and_hung
local macro_rules
|`(∅)=>`(by omega)
|`(-0)=>`(by decide)
local macro_rules
|`(tactic|omega)=>`(tactic|lia)
open PySem.W renaming Frag→À,kas_desc→Á0,kas_place→Á6,codeHdIn→Â2,kia_one→Ä5,kas_rev→Å4,kas_asc→Å5,tabObj→Å7,boot_heap→Ç0,keepIn→Ç7,excIn→È6,kitOne→É6,kas_descPart→Ì0,kas_sort→Ì7,nsIn→Ì8,kia_tup→Ð6,kas_count→Õ2
open PySem renaming wpAny_bind→Á,Value→Ã,Shared→Å,Addr→Æ,wpAny_pure→Ç,Expr→Ê,wpAny→Ð,model→Õ,Program→Ø,mainGlobals→Ý,Scope→à,Heap→á,bootBuiltins→é,World→ì,starEach→í,Around→ï,compareOp→ò,FuncData→ø,wpAny_newObj_type→û,Stmt→À0,Paired→À1,mem_of_lookup→À2,wpAny_field→À8,sizeLine_eq→À9,wpAny_truthy_bool→Á1,wpAny_mono→Á2,swappedStores→Â0,wpAny_callSpecial?_slot→Â3,Builtin→Â4,binaryOp→Â6,wpAny_holding→Ã0,wpAny_Call_Name_kw→Ã4,IsPair→Ã5,foldedSetIterable→Ä1,wpAny_seqItems→Ä8,wpAny_call_entry→Ä9,Env→Å0,wpAny_setField_rec→Å3,codeAny_mono→Å6,wpAny_passesOwn→Å8,cLine→Å9,rawInt→Æ0,call_meets→Æ5,assignEach→Æ6,Arguments→Ç2,NameKind→Ç9,codeAny_builtin→È0,wpAny_pyIter_tuple→È2,swapsWith→É4,builtinsNs→É5,sliceBounds→É8,wpAny_execs_nil→Ê3,importedModules→Ê5,wpAny_typeOf→Ë9,codeAny→Ì1,wpAny_call→Ì5,wpAny_Name→Ì6,IsZip→Í0,wpAny_comprehension_free→Î1,backTo→Î2,wpAny_execs_cons→Î9,wpAny_rule→Ï7,IsRange→Ï9,wpAny_updateSeq_pair→Ñ3,wpAny_newFunctionEnv→Ñ4,wpAny_loadName_local→Ñ5,assign→Ñ6,IsPart→Ñ7,getItem→Ñ8,codeAmong→Ñ9,wpAny_standAt→Ò6,wpAny_onRaise→Ò7,wpAny_attempt→Ò8,foldedForSure→Ó0,typeIs_int→Ó2,callerA→Ô2,noFill_tuple_add→Õ1,checkBuiltinCall→Õ3,TriplesOk→Õ4,seqIndex_of→Õ7,letOwnedTupleGo→Ö1,wpAny_newFunctionEnv_cells→Ö7
open Bool renaming and_eq_true→Â,false_ne_true→Ï,not_eq_true'→î,true_and→Â5,or_eq_true→Ã9,false_eq_true→Ç5,and_true→Ì4,false_and→Ï6
open PySem.Heap renaming get?_push_of_some→Ä,get?_push_size→Ì,lt_size→Û,size_push→Ê4,IsTuple→Í9,SameBut→Ò3,get?_update_other→Ö5,get?_update_self→Ø0
open Nat renaming le_refl→È,lt_of_lt_of_le→Ñ,ne_of_lt→â,le_trans→ë,lt_irrefl→ó,lt_of_le_of_lt→Â9,zero_le→Æ3,le_add_right→Æ4,le_of_lt→Ê0,ne_of_gt→Ë3,not_lt_zero→Ð1,lt_succ_of_lt→Ò4,min_eq_right→Ó5,min_eq_left→Ô4
open List renaming length_map→É,mem_cons_of_mem→Î,length_cons→Ò,mem_cons_self→Ó,size_toArray→Ô,getElem?_set_ne→Ö,getElem?_map→Ù,getElem?_eq_some_iff→Ú,mem_of_getElem?→Ü,mem_map→Þ,getElem?_set_self→ß,replicate→ã,mem_append_right→ä,all_eq_true→æ,range→ñ,lookup_cons→ô,length_range→õ,getElem?_eq_getElem→ù,not_mem_nil→ú,mem_cons→ý,filterMap_cons→þ,length_append→ÿ,map_map→À4,length_set→À6,mem_cons→Á7,all_cons→Á8,getElem?_append_right→Â7,getD_eq_getElem?_getD→Â8,map_append→Ã1,length_nil→Ã2,getElem_mem→Ã6,all_eq_true→Ã7,append_nil→Ä0,range'_succ→Ä2,replicate_succ→Ä3,mem_singleton→Ä6,mem_append_left→Å2,mem_append→Ç1,zip_cons_cons→Ç3,getElem?_cons_zero→Ç8,flatten_cons→È4,append_assoc→È5,lookup→É1,length_take→É2,mem_range→Ê2,map_cons→Ë4,map_congr_left→Ë5,getElem?_append_left→Ë6,drop_eq_getElem_cons→Ë7,isEmpty_iff→Í3,getElem?_replicate→Í4,nodup_cons→Î4,mem_filter→Î5,reverse_cons→Î6,contains_iff_mem→Î7,range_eq_range'→Ï3,length_drop→Ð2,pairwise_cons→Ð9,mem_filterMap→Ñ0,getElem_range→Ñ1,zip_nil_left→Ò1,length_eraseIdx_of_lt→Ô9,rel_of_pairwise_cons→Õ5,eq_of_mem_replicate→Õ8,pairwise_singleton→Ö3,take_of_length_le→Ö4,length_singleton→Ö8,length_replicate→Ö9
open Option renaming bind_eq_some_iff→Ë,map_eq_some_iff→Í,map→Æ9,map_eq_some_iff→Ï0,ne_none_iff_exists'→Ô0,isSome_iff_exists→Ô8
open PySem.Value renaming none→å,ref→Á9,type→Ä4,bool→É9,builtin→Ì2,notImplemented→Ï1
open PySem.Challenge renaming pw_tiechances_k85_webs_beside_and_hung→ç
open False renaming elim→è
open PySem.NameKind renaming free→ê,cell→Ã3
open Option.some renaming inj→ð,injEq→Æ7
open PyProof.Rows renaming callWith_type1→ö,slot_tuple_getitem→À7,seqObj→Á5,IntsAre→È1,envOfC→Ê6,IsTup→Í8,AllBare→Î0,listItems_at→Ï8,listUpdate_at→Ò9,assignInOrder_cons→Ó3,SortKind→Ô3,get?_update_seq→Ö2
open PySem.Obj renaming mapSeq→ü
open Ne renaming symm→À3
open PySem.Str renaming ofString→À5
open PySem.Builtin.Range renaming rangeSize→Á3,small→Í1
open PySem.AutoSeq1 renaming wpAny_loadPart'→Á4,wpAny_loadPart'→Â1,idx_int→Ñ2,sub_tuple_tuple→Ô1
open Int renaming toNat_natCast→Ã8,eq_ofNat_of_zero_le→Í7
open PyProof.Rows.KeyOrd renaming kle_refl→Ä7,kle_of_klt→Ë1,kle_trans→Ò2
open Array renaming getElem?_toList→Å1,getElem?_eq_getElem→Æ1,length_toList→Ç4,getD_eq_getD_getElem?→É7,toArray_toList→Ë2
open PySem.F renaming slot_tuple_iterator_next→Æ2,plainAttrs_list→Æ8,type_list_append→Ê7,slot_list_append→Ê8,args_tuple_add_2→Ê9,entry_tuple_add→Ì3,slot_tuple_add→Ì9,called_tuple→Î3,slot_zip_next→Ï4,slot_int_rmul→Ï5,args_tuple_mul_2→Ò5,excBase_ValueError→Ó4,entry_tuple_mul→Ó8,slot_tuple_mul→Ô5,plain_tuple_new→Ô6,plain_list_iadd→Ô7,args_tuple_iterator_next_1→Õ6,entry_tuple_iterator_next→Õ9
open True renaming intro→Ç6
open PySem.Heap.SameBut renaming update→È3
open PySem.Builtin.List renaming listExtendWith→È7,listTooLong→É3
open Array.Perm renaming refl→È8
open PySem.Builtin.Tuple renaming tupleExact→È9
open PySem.Builtin.SmallTypes renaming ownedTupleIsFree→É0
open PySem.Calls renaming Name_function_global→Ê1,spliced_nil→Ë8,spliced_cons→Ð8,loadGlobal_global→Ö0,evalArgs_plain→Ø1
open Prod.mk renaming injEq→Ë0
open Or renaming inl→Í2,inr→Ò0
open PySem.W.KasT renaming ret→Í5
open PySem.PyData renaming depthAll→Í6,eqv→Ó9
open PySem.Around renaming under_plainId→Î8,frames_deeper→Ö6
open PySem.W.Looks renaming ld→Ï2,of_pure→Ó1
open PySem.Builtin.Slice renaming slicePlaces→Ð0
open Sum renaming inr→Ð3,inl→Ð4
open Iff renaming rfl→Ð5
open PySem.SeqAt renaming EqAt→Ð7
open List.Perm renaming eq_of_pairwise→Ó6
open List.Pairwise renaming filter→Ó7
open PySem.Builtin.Int renaming intBits→Õ0
local macro_rules
|`(command|def $i:declId $s:optDeclSig $v)=>`(noncomputable def $i:declId $s:optDeclSig $v)
|`(command|abbrev $i:declId $s:optDeclSig $v)=>`(noncomputable abbrev $i:declId $s:optDeclSig $v)
open PySem.W (methodObj hideAll hideAll_get of_hideAll callWith_K cellsFrom_some fnOf codeRec_of kitx_none kitx_bool kitx_int kitx_str kitx_tuple kitx_list kitx_dict kitAny kia_tup envX kla_fn codeHd_of_K kla_obj callWith_of kla_callFunE kla_codeExpr mg_none_of mg_of view)
open PySem.Heap (lt_size size_push)
open List (range filterMap_cons mem_cons_self mem_cons_of_mem mem_append_left mem_append_right append_nil of_mem_zip replicate length_take mem_of_getElem? length_append length_map size_toArray length_drop map_nil map_cons length_set reverse_cons replicate_succ flatten_cons foldl append_assoc lookup_cons forIn_cons toArray mem_cons not_mem_nil zip_cons_cons length_cons length_nil nil_append all_eq_true all_nil map_congr_left getElem_mem length_range all_cons range' drop_length map_append range_succ)
open Array (length_toList toList getD toArray_toList)
open Nat (ne_of_gt zero_le le_add_right not_lt_zero mul_comm ble zero_add)
open PyProof.Rows (lt_int)
open Int (toNat_natCast gcd emod_nonneg)
open PySem.Builtin.Slice (sliceAdjust slicePlaces sliceApplied)
open PySem.Builtin.Tuple (tupleItemsOf tupleExact tupleCompareSizes tupleTooMany tupleIsExact)
open Bool (and_eq_true false_eq_true not_eq_true' or_eq_true)
open Option (getD_none map_eq_some_iff)
open ForInStep (yield)
open PySem.Builtin.SmallTypes (nextOf ownedTupleIsFree ownedTupleHandOut)
set_option bootstrap.genMatcherCode false
set_option compiler.extract_closed false
set_option genInjectivity false
set_option genSizeOf false
set_option autoImplicit true
set_option relaxedAutoImplicit true
set_option Elab.async false
set_option linter.all false
set_option maxRecDepth 100000
namespace L2
open PySem PySem.Spec PyProof.Rows
abbrev Key:=Sum Int Str
def K41:Key->Ã->Bool
 |.inl k,v=>Ã.isInt k v|.inr x,v=>Ã.isStrOf x v
def n82(w:ì):Key->Int
 |.inl k=>hashInt k|.inr x=>hashStr w x
theorem d10:∀ {k:Key}{v:Ã},K41 k v=true->(∃ i t,k=Ð4 i/\v=Ã.int i t)∨(∃ x t,k=Ð3 x/\v=Ã.str x t)
 |.inl i,v,h=>by
  obtain⟨t,e⟩:=Ã.isInt_shape (k:=i) (v:=v) h;exact .inl ⟨i,t,rfl,e⟩
 |.inr x,v,h=>by
  obtain⟨t,e⟩:=Ã.isStrOf_shape (x:=x) (v:=v) h;exact .inr ⟨x,t,rfl,e⟩
theorem K51(a b:Int):decide ((Ð4 a:Key)=Ð4 b)=(a == b):=by
 by_cases e:a=b
 ·subst e;simp
 ·have h:¬ (Ð4 a:Key)=Ð4 b:=λq=>e (Ð4.inj q);rw[decide_eq_false h];exact(beq_eq_false_iff_ne.mpr e).symm
theorem K61(a b:Str):decide ((Ð3 a:Key)=Ð3 b)=decide (a=b):=by
 by_cases e:a=b
 ·subst e;simp
 ·have h:¬ (Ð3 a:Key)=Ð3 b:=λq=>e (Ð3.inj q);rw[decide_eq_false h,decide_eq_false e]
theorem K71(a:Int)(b:Str):decide ((Ð4 a:Key)=Ð3 b)=false:=decide_eq_false (λq=>nomatch q)
theorem K81(a:Str)(b:Int):decide ((Ð3 a:Key)=Ð4 b)=false:=decide_eq_false (λq=>nomatch q)
def Y00(prog:Ø)(w:ì):PySem.KeyKind prog w Key where
 is:=K41
 hash:=n82 w
 inj:=λv a b ha hb=>by
  rcases d10 ha with ⟨i,t,rfl,rfl⟩ | ⟨x,t,rfl,rfl⟩
  ·rcases d10 hb with ⟨j,u,rfl,e⟩ | ⟨y,u,rfl,e⟩
   ·injection e with e1 _;rw[e1]
   ·exact nomatch e
  ·rcases d10 hb with ⟨j,u,rfl,e⟩ | ⟨y,u,rfl,e⟩
   ·exact nomatch e
   ·injection e with e1 _;rw[e1]
 byValue:=λk v h=>by
  rcases d10 h with ⟨i,t,rfl,rfl⟩ | ⟨x,t,rfl,rfl⟩ <;> rfl
 pyHash:=λhv h=>by
  rcases d10 hv with ⟨i,t,rfl,rfl⟩ | ⟨x,t,rfl,rfl⟩
  ·exact wpAny_pyHash_int h
  ·exact wpAny_pyHash_str h
 eqBool:=λhu hv h=>by
  rcases d10 hu with ⟨i,t,rfl,rfl⟩ | ⟨x,t,rfl,rfl⟩
  ·rcases d10 hv with ⟨j,u,rfl,rfl⟩ | ⟨y,u,rfl,rfl⟩
   ·rw[K51] at h;exact wpAny_eqBool_int h
   ·rw[K71] at h;exact Ð7.int_str i t y u _ _ _ _ h
  ·rcases d10 hv with ⟨j,u,rfl,rfl⟩ | ⟨y,u,rfl,rfl⟩
   ·rw[K81] at h;exact Ð7.str_int x t j u _ _ _ _ h
   ·rw[K61] at h;exact wpAny_eqBool_str h
 «strs»:=λk x t v h=>by
  rcases d10 h with ⟨i,u,rfl,e⟩ | ⟨y,u,rfl,e⟩
  ·exact nomatch e
  ·injection e with e1 _;subst e1;cases v <;> rfl
inductive V where
 |non | bl (b:Bool) | int (i:Int) | str (x:Str) | byt (b:Array UInt8) | flt (b:UInt64) | ref (a:Addr) | ty (n:String)
 deriving DecidableEq
def RelV:V->Ã->Prop
 |.non,u=>u=å|.bl b,u=>u=É9 b|.int i,u=>∃ t,u=Ã.int i t|.str x,u=>∃ t,u=Ã.str x t|.byt b,u=>∃ t,u=Ã.bytes b t|.flt b,u=>∃ t,u=Ã.float b t|.ref a,u=>u=Á9 a|.ty n,u=>u=Ä4 n
abbrev Vals:List V->List Ã->Prop:=À1 RelV
theorem Vals.length{xs:List V}{us:List Ã}(r:Vals xs us):xs.length=us.length:=À1.length r
theorem Vals.get:∀ {xs:List V}{us:List Ã}{i:Nat}{x:V},Vals xs us->xs[i]?=some x->∃ u,us[i]?=some u/\RelV x u
 |_,_,_,_,.nil,e=>by simp at e|_,_,0,_,.cons r _,e=>by simp at e;subst e;exact⟨_,rfl,r⟩
 |_,_,i + 1,x,.cons _ t,e=>by
  obtain⟨u,h1,h2⟩:=Vals.get (i:=i) (x:=x) t (by simpa using e)
  exact⟨u,by simpa using h1,h2⟩
theorem Vals.set{x:V}{u:Ã}(r:RelV x u):∀ {xs:List V}{us:List Ã} (i:Nat),Vals xs us->Vals (xs.set i x) (us.set i u)
 |_,_,_,.nil=>.nil|_,_,0,.cons _ t=>.cons r t|_,_,i + 1,.cons q t=>.cons q (Vals.set r i t)
theorem Vals.append:∀ {xs ys:List V}{us ws:List Ã},Vals xs us->Vals ys ws->Vals (xs++ys) (us++ws)
 |_,_,_,_,.nil,s=>s|_,_,_,_,.cons r t,s=>.cons r (Vals.append t s)
theorem Vals.take:∀ {xs:List V}{us:List Ã} (n:Nat),Vals xs us->Vals (xs.take n) (us.take n)
 |_,_,0,_=>.nil|_,_,_ + 1,.nil=>.nil|_,_,n + 1,.cons r t=>.cons r (Vals.take n t)
theorem Vals.drop:∀ {xs:List V}{us:List Ã} (n:Nat),Vals xs us->Vals (xs.drop n) (us.drop n)
 |_,_,0,r=>r|_,_,_ + 1,.nil=>.nil|_,_,n + 1,.cons _ t=>Vals.drop n t
def l22:Option V->Option Ã->Prop
 |some v,some u=>RelV v u|none,none=>True|_,_=>False
def KV{κ:Type}:List (κ × V)->List (κ × Ã)->Prop:=À1 λ(p:κ × V) (q:κ × Ã)=>p.1=q.1/\RelV p.2 q.2
def kV:Key->V
 |.inl i=>.int i|.inr x=>.str x
inductive HO where
 |lst (xs:List V)
 |tup (xs:List V)
 |dK (kvs:List (Key × V)) | dT (kvs:List (List Key × V))
 |set (S:Int->Bool) (n:Nat)
 |ins (C dx:Addr) (fs:List (Str × V))
 |own (x:Addr)
 |xd (fs:List (Str × V))
 |met (f x:Addr)
 |rng (lo hi:Int)
 |frz (o:Obj) (u:HO)
 |tbl (ps:Array Value)
 |ext (φ:Heap->Prop)
abbrev Hp:=Æ->Option HO
def upd(H:Hp)(a:Æ)(o:HO):Hp:=λb=>if b=a then some o else H b
theorem a90{H:Hp}{a:Æ}{o:HO}:upd H a o a=some o:=by unfold upd;rw[if_pos rfl]
theorem a20{H:Hp}{a b:Æ}{o:HO}(h:b≠a):upd H a o b=H b:=by unfold upd;rw[if_neg h]
theorem a60{H:Hp}{a b:Æ}{o:HO}(h:H a=some o)(h':H b=none):a≠b:=by
 intro e;subst e;rw[h] at h';cases h'
section
variable (P:Ø) (w:ì)
def f90(H:Hp)(h:á)(a:Æ):HO->Prop
 |.lst xs=>xs.length<=sizeLine/\∃ (its:List Ã) (n:Nat),Vals xs its/\h.get? a=some { cls:=.type "list",data:=.seq its.toArray n }|.tup xs=>xs.length<=sizeLine/\∃ its:List Ã,Vals xs its/\Í8 h a its.toArray|.dK kvs=>kvs.length<=sizeLine/\(a == sysModules)=false/\∃ vs,KV kvs vs/\h.DictOf (Y00 P w) a vs
 |.dT kvs=>kvs.length<=sizeLine/\(a == sysModules)=false/\∃ xs:List (List Key × Æ × Ã),
   À1 (λ(p:List Key × V) (q:List Key × Æ × Ã)=>p.1=q.1/\H q.2.1=some (.tup (p.1.map kV))/\RelV p.2 q.2.2) kvs xs /\
   ∃ o es ep,h.get? a=some o/\o.ExactDict/\o.data=.dict es ep/\es.toList=xs.map (entryOfKey (tupleKind (Y00 P w)))/\(xs.map (·.1)).Nodup
 |.set S n=>h.SetOf (intKind P w) a S n
 |.ins C dx fs=>H dx=some (.own a)/\fs.length<=1000/\dx≠a/\h.get? a=some (PySem.W.instObj C dx) /\
   ∃ mA,h.Ns1 dx mA/\(∀ f,l22 (fs.lookup f) (mA f))/\PySem.Within mA (fs.map (·.1))
 |.own _=>∃ o,h.get? a=some o|.xd fs=>∃ mA,h.Ns1 a mA/\∀ f,l22 (fs.lookup f) (mA f)|.rng lo hi=>∃ t u v,h.get? a=some { cls:=.type "range",data:=.fields #[.int lo t,.int hi u,.int 1 v] }|.frz o u=>h.get? a=some o/\f90 H h a u|.tbl ps=>h.get? a=some { cls:=.none,data:=.fields ps }|.met f x=>h.get? a=some (methodObj (.ref f) (.ref x))|.ext φ=>φ h/\(∃ o,h.get? a=some o)/\∀ h1 h2:á,φ h1->(∀ o,h1.get? a=some o->h2.get? a=some o)->φ h2
def HOk(H:Hp)(h:á):Prop:=∀ a o,H a=some o->f90 P w H h a o
end
section
variable {P:Ø}{w:ì}{H H':Hp}{h h':á}{a:Æ}{o:HO}
theorem f90.lt(x:f90 P w H h a o):a < h.objs.size:=by
 cases o with
 |lst xs=>obtain⟨_,_,_,_,e⟩:=x;exact Û e
 |tup xs=>obtain⟨_,_,_,p⟩:=x;exact p.lt
 |dK kvs=>obtain⟨_,_,_,_,o,_,_,e,_⟩:=x;exact Û e
 |dT kvs=>obtain⟨_,_,_,_,o,_,_,e,_⟩:=x;exact Û e
 |set S n=>obtain⟨o,_,_,_,e,_⟩:=x;exact Û e
 |ins C dx fs=>obtain⟨_,_,_,e,_⟩:=x;exact Û e
 |own y=>obtain⟨_,e⟩:=x;exact Û e
 |xd fs=>obtain⟨_,⟨_,_,_,e,_⟩,_⟩:=x;exact Û e
 |rng lo hi=>obtain⟨_,_,_,e⟩:=x;exact Û e
 |frz ob u=>obtain⟨e,_⟩:=x;exact Û e
 |tbl ps=>exact Û (show h.get? a=some _ from x)|met f y=>exact Û (show h.get? a=some _ from x)|ext φ=>obtain⟨_,⟨_,e⟩,_⟩:=x;exact Û e
theorem À1.v01{α β:Type}{F G:α->β->Prop}:∀ {l₁:List α}{l₂:List β},À1 F l₁ l₂->(∀ a b,F a b->G a b)->À1 G l₁ l₂
 |_,_,.nil,_=>.nil|_,_,.cons r t,f=>.cons (f _ _ r) (À1.v01 t f)
theorem f90.U20(x:f90 P w H h a o)(k:∀ b u,(b=a∨H b=some (.own a))->h.get? b=some u->h'.get? b=some u)
  (ho:∀ b,H b=some (.own a)->H' b=some (.own a)) (ht:∀ b xs,H b=some (.tup xs)->H' b=some (.tup xs)):f90 P w H' h' a o:=by
 induction o with
 |lst xs=>obtain⟨z,its,n,r,e⟩:=x;exact⟨z,its,n,r,k _ _ (.inl rfl) e⟩
 |tup xs=>obtain⟨z,its,r,ob,e,c⟩:=x;exact⟨z,its,r,ob,k _ _ (.inl rfl) e,c⟩
 |dK kvs=>obtain⟨z,y,vs,r,ob,es,ep,e,c⟩:=x;exact⟨z,y,vs,r,ob,es,ep,k _ _ (.inl rfl) e,c⟩
 |dT kvs =>
  obtain⟨z,y,xs,r,ob,es,ep,e,c⟩:=x;exact⟨z,y,xs,À1.v01 r λp q z=>⟨z.1,ht _ _ z.2.1,z.2.2⟩,ob,es,ep,k _ _ (.inl rfl) e,c⟩
 |set S n=>obtain⟨ob,es,ep,t,e,c⟩:=x;exact⟨ob,es,ep,t,k _ _ (.inl rfl) e,c⟩
 |ins C dx fs =>
  obtain⟨d,z,ne,e,mA,⟨od,es,ep,e2,c⟩,r⟩:=x;exact⟨ho _ d,z,ne,k _ _ (.inl rfl) e,mA,⟨od,es,ep,k _ _ (.inr d) e2,c⟩,r⟩
 |own y=>obtain⟨ob,e⟩:=x;exact⟨ob,k _ _ (.inl rfl) e⟩
 |xd fs=>obtain⟨mA,⟨od,es,ep,e,c⟩,r⟩:=x;exact⟨mA,⟨od,es,ep,k _ _ (.inl rfl) e,c⟩,r⟩
 |rng lo hi=>obtain⟨t,u,v,e⟩:=x;exact⟨t,u,v,k _ _ (.inl rfl) e⟩
 |frz ob u ih=>obtain⟨e,q⟩:=x;exact⟨k _ _ (.inl rfl) e,ih q⟩
 |tbl ps =>
  have e:h.get? a=some { cls:=.none,data:=.fields ps }:=x;show h'.get? a=some { cls:=.none,data:=.fields ps };exact k a _ (.inl rfl) e
 |met f y =>
  have e:h.get? a=some (methodObj (.ref f) (.ref y)):=x;show h'.get? a=some (methodObj (.ref f) (.ref y));exact k a _ (.inl rfl) e
 |ext φ=>obtain⟨p,⟨o,e⟩,st⟩:=x;exact⟨st _ _ p λo q=>k _ _ (.inl rfl) q,⟨o,k _ _ (.inl rfl) e⟩,st⟩
theorem HOk.lt(x:HOk P w H h)(e:H a=some o):a < h.objs.size:=(x a o e).lt
theorem HOk.fresh(x:HOk P w H h)(e:h.objs.size<=a):H a=none:=by
 cases q:H a with
 |none=>rfl|some u=>exact absurd (Ñ (x.lt q) e) (ó _)
theorem HOk.kept(x:HOk P w H h)(k:∀ b u,h.get? b=some u->h'.get? b=some u):HOk P w H h':=λa o e =>
 (x a o e).U20 (λb u _ q=>k b u q) (λ_ q=>q) λ_ _ q=>q
theorem HOk.laid(x:HOk P w H h)(k:∀ b u,h.get? b=some u->h'.get? b=some u)(hp:h.objs.size<=a)(new:f90 P w (upd H a o) h' a o):HOk P w (upd H a o) h':=λb u e=>by
 have hn:=x.fresh hp;by_cases hb:b=a
 ·subst hb;rw[a90] at e;cases e;exact new
 ·rw[a20 hb] at e;exact(x b u e).U20 (λc v _ q=>k c v q) (λc q=>by rw[a20 (a60 q hn)];exact q) λc xs q=>by rw[a20 (a60 q hn)];exact q
end
def Rd(H:Hp)(a:Æ)(u:HO):Prop:=H a=some u∨∃ o,H a=some (.frz o u)
theorem Rd.ok{P:Ø}{w:ì}{H:Hp}{h:á}{a:Æ}{u:HO}(r:Rd H a u)(x:HOk P w H h):f90 P w H h a u:=by
 rcases r with r | ⟨o,r⟩
 ·exact x a u r
 ·obtain⟨_,q⟩:=x a _ r;exact q
def Mut:Option HO->Prop
 |some (.lst _)=>True|some (.dK _)=>True|some (.dT _)=>True|some (.set _ _)=>True|some (.ins _ _ _)=>True|some (.ext _)=>True|_=>False
section
variable {P:Ø}{w:ì}{H:Hp}{h h':á}{x e:Æ}{o':HO}
theorem HOk.write(ok:HOk P w H h)(mu:Mut (H x))(he:e=x∨H e=some (.own x))(k:∀ b u,b≠e->h.get? b=some u->h'.get? b=some u)(heo:∃ u,h'.get? e=some u)
  (new:f90 P w (upd H x o') h' x o'):HOk P w (upd H x o') h':=λb u q=>by
 have nown:∀ c y,H c=some (.own y)->c≠x:=λc y r z=>by subst z;rw[r] at mu;exact mu
 have ntup:∀ c xs,H c=some (.tup xs)->c≠x:=λc xs r z=>by subst z;rw[r] at mu;exact mu
 by_cases hb:b=x
 ·subst hb;rw[a90] at q;cases q;exact new
 ·rw[a20 hb] at q;by_cases hbe:b=e
  ·have q':H b=some (.own x):=by
    rcases he with z | z
    ·exact absurd (hbe.trans z) hb
    ·rw[hbe];exact z
   rw[q] at q';cases q';obtain⟨v,hv⟩:=heo;exact⟨v,by rw[hbe];exact hv⟩
  ·refine(ok b u q).U20 (λc v hc r=>k c v ?_ r) (λc r=>by rw[a20 (nown c b r)];exact r) λc xs r=>by rw[a20 (ntup c xs r)];exact r
   rcases hc with rfl | hc
   ·exact hbe
   ·rintro rfl;rcases he with z | z
    ·exact nown c b hc z
    ·rw[hc] at z;cases z;exact hb rfl
end
structure Un(fs ex:List Addr)(H H':Hp)(h h':Heap):Prop where
 keep:∀ b o,h.get? b=some o->H b=none->b ∉ fs->b ∉ ex->h'.get? b=some o
 slot:∀ b o,h.get? b=some o->H b=none->b∈fs->b ∉ ex->∃ sl,h'.get? b=some { o with slots:=sl }
 free:∀ b o,h.get? b=some o->H b=none->b ∉ ex->H' b=none
 there:∀ b o,h.get? b=some o->b ∉ ex->∃ o',h'.get? b=some o'
 tups:∀ b xs,H b=some (.tup xs)->H' b=some (.tup xs)
 frzs:∀ b o u,H b=some (.frz o u)->H' b=some (.frz o u)
 tbls:∀ b ps,H b=some (.tbl ps)->∃ more,H' b=some (.tbl (ps++more))
section
variable {fs fs' ex ex':List Æ}{H H1 H2:Hp}{h h1 h2 h':á}{a x e:Æ}{o:HO}
theorem Un.any(u:Un fs ex H H1 h h1){b:Æ}{ob:Obj}(q:h.get? b=some ob)(n:H b=none)(hx:b ∉ ex):∃ sl,h1.get? b=some { ob with slots:=sl }:=by
 by_cases hb:b∈fs
 ·exact u.slot b ob q n hb hx
 ·exact⟨ob.slots,u.keep b ob q n hb hx⟩
theorem Un.trans(a:Un fs ex H H1 h h1)(b:Un fs ex H1 H2 h1 h2):Un fs ex H H2 h h2 where
 keep:=λc ob q n hc hx=>b.keep c ob (a.keep c ob q n hc hx) (a.free c ob q n hx) hc hx
 slot:=λc ob q n hc hx=>by
  obtain⟨sl,e1⟩:=a.slot c ob q n hc hx;obtain⟨sl',e2⟩:=b.slot c _ e1 (a.free c ob q n hx) hc hx;exact⟨sl',e2⟩
 free:=λc ob q n hx=>by
  obtain⟨o',e1⟩:=a.there c ob q hx;exact b.free c o' e1 (a.free c ob q n hx) hx
 there:=λc ob q hx=>by
  obtain⟨o',e1⟩:=a.there c ob q hx;exact b.there c o' e1 hx
 tups:=λc xs q=>b.tups c xs (a.tups c xs q)
 frzs:=λc ob xs q=>b.frzs c ob xs (a.frzs c ob xs q)
 tbls:=λc ps q=>by
  obtain⟨m1,e1⟩:=a.tbls c ps q;obtain⟨m2,e2⟩:=b.tbls c _ e1;exact⟨m1++m2,by rw[e2,Array.append_assoc]⟩
theorem Un.kept(k:∀ b u,h.get? b=some u->h'.get? b=some u):Un fs ex H H h h' :=
 ⟨λb ob q _ _ _=>k b ob q,λb ob q _ _ _=>⟨ob.slots,k b ob q⟩,λ_ _ _ n _=>n,λb ob q _=>⟨ob,k b ob q⟩,λ_ _ q=>q,λ_ _ _ q=>q,λ_ ps q=>⟨#[],by rw[q];simp⟩⟩
theorem Un.refl:Un fs ex H H h h:=Un.kept λ_ _ q=>q
theorem Un.laid(k:∀ b u,h.get? b=some u->h'.get? b=some u)(hp:h.objs.size<=a)(hn:H a=none):Un fs ex H (upd H a o) h h' where
 keep:=λb u q _ _ _=>k b u q
 slot:=λb u q _ _ _=>⟨u.slots,k b u q⟩
 free:=λb u q n _=>by rw[a20 (â (Ñ (Û q) hp))];exact n
 there:=λb u q _=>⟨u,k b u q⟩
 tups:=λb xs q=>by rw[a20 (a60 q hn)];exact q
 frzs:=λb u xs q=>by rw[a20 (a60 q hn)];exact q
 tbls:=λb ps q=>⟨#[],by rw[a20 (a60 q hn),q];simp⟩
theorem Un.write(mu:Mut (H x))(he:e=x∨H e=some (.own x))(k:∀ b u,b≠e->h.get? b=some u->h'.get? b=some u)(heo:∃ u,h'.get? e=some u):Un fs ex H (upd H x o) h h':=by
 have hx:∀ b,H b=none->b≠x:=λb n z=>by subst z;rw[n] at mu;exact mu
 have hb:∀ b,H b=none->b≠e:=λb n z=>by
  subst z;rcases he with r | r
  ·exact hx b n r
  ·rw[n] at r;cases r
 have hm:∀ b u,H b=some u->¬ Mut (some u)->b≠x:=λb u q nm z=>by subst z;rw[q] at mu;exact nm mu
 refine⟨λb u q n _ _=>k b u (hb b n) q,λb u q n _ _=>⟨u.slots,k b u (hb b n) q⟩,λb u q n _=>by rw[a20 (hx b n)];exact n,λb u q _=>?_,
  λb xs q=>by rw[a20 (hm b _ q λz=>z)];exact q,λb u xs q=>by rw[a20 (hm b _ q λz=>z)];exact q,λb ps q=>⟨#[],by rw[a20 (hm b _ q λz=>z),q];simp⟩⟩
 by_cases hbe:b=e
 ·subst hbe;exact heo
 ·exact⟨u,k b u hbe q⟩
theorem Un.mono(u:Un fs ex H H1 h h1)(hs:∀ b∈fs,b∈fs')(hx:∀ b∈ex,b∈ex'):Un fs' ex' H H1 h h1 :=
 ⟨λb ob q n hb he=>u.keep b ob q n (λz=>hb (hs b z)) λz=>he (hx b z),λ_ _ q n _ he=>u.any q n λz=>he (hx _ z),λb ob q n he=>u.free b ob q n λz=>he (hx b z),λb ob q he=>u.there b ob q λz=>he (hx b z),u.tups,u.frzs,u.tbls⟩
end
def trk(h:á)(H:Hp):List Addr:=(ñ h.objs.size).filter λa=>(H a).isSome
def n31(h:á)(H:Hp):Heap:=hideAll h (trk h H)
theorem Y10(h:á)(H:Hp):(n31 h H).objs.size=h.objs.size:=PySem.W.hideAll_size _ _
theorem A40{h:á}{H:Hp}{b:Æ}{o:Obj}(e:h.get? b=some o)(n:H b=none):(n31 h H).get? b=some o :=
 hideAll_get _ e λhm=>by
  have q:(H b).isSome=true:=(Î5.mp hm).2;rw[n] at q;simp at q
theorem A21{h:á}{H:Hp}{b:Æ}{o:Obj}(e:(n31 h H).get? b=some o):h.get? b=some o/\H b=none:=by
 have e':h.get? b=some o:=of_hideAll (trk h H) e;refine⟨e',?_⟩;cases q:H b with
 |none=>rfl
 |some x =>
  have hm:b∈trk h H:=Î5.mpr ⟨Ê2.mpr (Û e'),by simp[q]⟩
  have z:(n31 h H).get? b=none:=PySem.W.hideAll_none (trk h H) hm;rw[z] at e;cases e
structure Mod(K:PySem.W.Frag)(mg:Str->Option Value)(base:Heap):Prop where
 kin:K.In base
 glob:base.Ns mainGlobals mg
 blt:∃ mb,base.Ns builtinsNs mb/\∀ x:Str,x≠"__name__"->mb x=bootBuiltins x
 nolimit:base.NoLimit
structure Cx where
 prog:Program
 w:World
 K:PySem.W.Frag
 mg:Str->Option Value
 base:Heap
 A:Around
 N:List Str
 s₀:Shared
 H₀:Hp
 env:Env
 outer:List Env
 stack:List Env
 ex:List Addr
 fn:Str->Bool
 calm:Bool
 pn:List (Addr × Obj)
 xe:Value->Shared->Prop
def frs(l:List Env):List Addr:=l.filterMap (·.frame)
abbrev Cx.fs(X:Cx):List Addr:=frs X.outer
def Vis(sc:à)(x:Str):Prop:=sc.names.lookup x=some .local∨sc.names.lookup x=some .cell∨sc.names.lookup x=some .free
def Loc(sc:à)(x:Str):Prop:=sc.names.lookup x=some .local∨sc.names.lookup x=some .cell
def Look(env:Env)(h:á)(m:Str->Option Ã)(x:Str)(u:Ã):Prop :=
 (env.kindOf x=some .local/\m x=some u)∨((env.kindOf x=some .cell∨env.kindOf x=some .free)/\∃ c,env.cells.lookup x=some c/\h.IsCell c (some u))
structure Cx.Ok(X:Cx):Prop where
 mod:Mod X.K X.mg X.base
 kind:X.env.scope.kind=.function
 glob:X.env.globals=mainGlobals
 blt:X.env.builtins=builtinsNs
 above:X.s₀.heap.objs.size<=X.env.locals
 inj:∀ x y c,X.env.cells.lookup x=some c->X.env.cells.lookup y=some c->x=y
 has:∀ x,(X.env.kindOf x=some .cell∨X.env.kindOf x=some .free)->∃ c,X.env.cells.lookup x=some c
 cab:∀ x c,X.fn x=true->X.env.cells.lookup x=some c->X.s₀.heap.objs.size<=c
 hd:X.calm=true->X.A.handled=none
 frames:X.A.frames=some X.stack
 stk:X.stack=X.outer∨(X.stack=X.env::X.outer/\X.env.frame=some X.env.locals)
 exf:∀ b∈X.ex,b≠X.env.locals/\∀ x c,X.env.cells.lookup x=some c->c≠b
 bs:∀ b o,X.base.get? b=some o->X.s₀.heap.get? b=some o/\X.H₀ b=none
 bsz:X.base.objs.size<=X.s₀.heap.objs.size
 noex:∀ b o,X.base.get? b=some o->b ∉ X.ex
 exfs:∀ b∈X.ex,b ∉ X.fs
 U30:X.s₀.heap.FunFrames X.base X.outer
 frf:∀ b∈X.fs,X.H₀ b=none
structure Inv(X:Cx)(pins:List (Addr × Obj))(σ:List (Option V))(H:Hp)(s:Shared):Prop where
 ok:X.Ok
 os:s.os=X.s₀.os
 bare:AllBare s.gens
 base:Un X.fs X.ex X.H₀ H X.s₀.heap s.heap
 loc:∃ m,s.heap.Ns X.env.locals m/\∀ (i:Nat) (x:Str) (v:V),X.N[i]?=some x->σ[i]?=some (some v)->Vis X.env.scope x->∃ u,RelV v u/\Look X.env s.heap m x u
 cell:∀ x c,X.env.cells.lookup x=some c->∃ v,s.heap.IsCell c v
 free:H X.env.locals=none
 freeC:∀ x c,X.env.cells.lookup x=some c->H c=none
 pin:∀ p∈X.pn++pins,s.heap.get? p.1=some p.2/\H p.1=none/\p.1≠X.env.locals/\p.1 ∉ X.fs/\∀ v,p.2.data≠.cell v
 hok:HOk X.prog X.w H s.heap
 len:σ.length=X.N.length
section
variable {X:Cx}{pins:List (Æ × Obj)}{σ:List (Option V)}{H H':Hp}{s:Å}{h':á}
theorem Cx.Ok.n92(ok:X.Ok){b:Æ}{o:Obj}(e:X.base.get? b=some o):b ∉ X.fs:=λhb=>by
 have:=(ok.U30.mem hb).1;rw[e] at this;cases this
theorem Inv.bs(I:Inv X pins σ H s):∀ b o,X.base.get? b=some o->s.heap.get? b=some o/\H b=none:=λb o e =>
 ⟨I.base.keep b o (I.ok.bs b o e).1 (I.ok.bs b o e).2 (I.ok.n92 e) (I.ok.noex b o e),I.base.free b o (I.ok.bs b o e).1 (I.ok.bs b o e).2 (I.ok.noex b o e)⟩
theorem Inv.bk(I:Inv X pins σ H s):∀ b o,X.base.get? b=some o->s.heap.get? b=some o:=λb o e=>(I.bs b o e).1
theorem Inv.mod(I:Inv X pins σ H s):Mod X.K X.mg X.base:=I.ok.mod
theorem Inv.kIn(I:Inv X pins σ H s):X.K.In s.heap:=I.ok.mod.kin.keeps I.bk
theorem Inv.lt(I:Inv X pins σ H s):X.env.locals < s.heap.objs.size:=let ⟨_,hn,_⟩:=I.loc;hn.lt
theorem Inv.sz(I:Inv X pins σ H s):X.s₀.heap.objs.size<=s.heap.objs.size:=ë I.ok.above (Ê0 I.lt)
theorem Inv.o02(I:Inv X pins σ H s){a:Æ}(h:s.heap.objs.size<=a):a ∉ X.fs:=λhb=>by
 obtain⟨_,o,ho,_⟩:=I.ok.U30.mem hb;exact absurd (Ñ (Û ho) (ë I.sz h)) (ó _)
theorem Inv.cne(I:Inv X pins σ H s):∀ x c,X.env.cells.lookup x=some c->c≠X.env.locals:=λx c e z=>by
 obtain⟨v,o,ho,hd⟩:=I.cell x c e;obtain⟨m,⟨o',es,ep,ho',hd',_⟩,_⟩:=I.loc;rw[z,ho'] at ho;cases ho;rw[hd'] at hd;cases hd
theorem Inv.U30(I:Inv X pins σ H s):s.heap.FunFrames X.base X.outer:=by
 have all:∀ (l:List Env),(∀ b∈frs l,b∈X.fs)->X.s₀.heap.FunFrames X.base l->s.heap.FunFrames X.base l:=by
  intro l
  induction l with
  |nil=>intro _ _;trivial
  |cons env r ih =>
   intro hs hl;obtain⟨hk,⟨L,o,hf,hn,ho,hd⟩,hr⟩:=hl;have hL:L∈X.fs:=hs L (by unfold frs;rw[þ,hf];exact Ó)
   obtain⟨sl,e⟩:=I.base.slot L o ho (I.ok.frf L hL) hL λz=>I.ok.exfs L z hL;exact⟨hk,⟨L,_,hf,hn,e,hd⟩,ih (λb hb=>hs b (by unfold frs;rw[þ,hf];exact Î _ hb)) hr⟩
 exact all X.outer (λ_ hb=>hb) I.ok.U30
theorem Inv.stack(I:Inv X pins σ H s):s.heap.FunFrames X.base X.stack:=by
 rcases I.ok.stk with e | ⟨e,hf⟩
 ·rw[e];exact I.U30
 ·rw[e];obtain⟨m,hn,_⟩:=I.loc;refine .cons (by rw[I.ok.kind];decide) hf hn ?_ I.U30
  exact á.get?_none_of_le (ë I.ok.bsz I.ok.above)
theorem Inv.Y20(I:Inv X pins σ H s):∀ b∈frs X.stack,b∈X.env.locals::X.fs:=λb hb=>by
 rcases I.ok.stk with e | ⟨e,hf⟩
 ·rw[e] at hb;exact Î _ hb
 ·rw[e] at hb;unfold frs at hb;rw[þ,hf] at hb;exact hb
theorem Inv.q50(I:Inv X pins σ H s):∀ b∈frs X.stack,H b=none:=λb hb=>by
 rcases ý.mp (I.Y20 b hb) with e | hb
 ·rw[e];exact I.free
 ·obtain⟨_,o,ho,_⟩:=I.ok.U30.mem hb;exact I.base.free b o ho (I.ok.frf b hb) λz=>I.ok.exfs b z hb
theorem Inv.step{g':Array GenState}{t':Nat}{d':Drawn}{ch:List Æ}(I:Inv X pins σ H s)
  (hch:∀ b∈ch,(b∈X.ex∨X.s₀.heap.objs.size<=b)/\b≠X.env.locals/\(∀ x c,X.env.cells.lookup x=some c->c≠b)/\∀ p∈X.pn++pins,p.1≠b)
  (keep:∀ b o,b≠X.env.locals->b ∉ X.fs->b ∉ ch->s.heap.get? b=some o->H b=none->h'.get? b=some o)
  (slot:∀ b o,b≠X.env.locals->b∈X.fs->b ∉ ch->s.heap.get? b=some o->H b=none->∃ sl,h'.get? b=some { o with slots:=sl }) (free:∀ b o,b ∉ ch->s.heap.get? b=some o->H b=none->H' b=none)
  (there:∀ b o,b ∉ ch->s.heap.get? b=some o->∃ o',h'.get? b=some o')
  (tups:∀ b xs,H b=some (.tup xs)->H' b=some (.tup xs)) (frzs:∀ b o u,H b=some (.frz o u)->H' b=some (.frz o u)) (tbls:∀ b ps,H b=some (.tbl ps)->∃ more,H' b=some (.tbl (ps++more)))
  (ns:∀ m,s.heap.Ns X.env.locals m->h'.Ns X.env.locals m) (hok:HOk X.prog X.w H' h') (hg:Î0 g') :
  Inv X pins σ H' { s with heap:=h',gens:=g',drawn:=d',toks:=t' }:=by
 have neL:∀ b o,X.s₀.heap.get? b=some o->b≠X.env.locals:=λb o e=>â (Ñ (Û e) I.ok.above);have neC:∀ b o,X.s₀.heap.get? b=some o->b ∉ X.ex->b ∉ ch:=λb o e hx hb=>by
  rcases (hch b hb).1 with z | z
  ·exact hx z
  ·exact absurd (Ñ (Û e) z) (ó _)
 have cellK:∀ x c,X.env.cells.lookup x=some c->∀ v,s.heap.IsCell c v->h'.IsCell c v:=λx c e v ⟨o,ho,hd⟩=>by
  have nch:c ∉ ch:=λz=>(hch c z).2.2.1 x c e rfl;by_cases hc:c∈X.fs
  ·obtain⟨sl,q⟩:=slot c o (I.cne x c e) hc nch ho (I.freeC x c e);exact⟨_,q,hd⟩
  ·exact⟨o,keep c o (I.cne x c e) hc nch ho (I.freeC x c e),hd⟩
 refine⟨I.ok,I.os,hg,⟨λb o e n hb hx=>?_,λb o e n hb hx=>?_,λb o e n hx=>?_,λb o e hx=>?_,λb xs e=>tups b xs (I.base.tups b xs e),λb o xs e=>frzs b o xs (I.base.frzs b o xs e),λb ps e=>?_⟩,?_,λx c e=>?_,?_,λx c e=>?_,λp hp=>?_,hok,I.len⟩
 ·exact keep b o (neL b o e) hb (neC b o e hx) (I.base.keep b o e n hb hx) (I.base.free b o e n hx)
 ·obtain⟨sl,e1⟩:=I.base.slot b o e n hb hx;obtain⟨sl',e2⟩:=slot b _ (neL b o e) hb (neC b o e hx) e1 (I.base.free b o e n hx);exact⟨sl',e2⟩
 ·obtain⟨o',e1⟩:=I.base.there b o e hx;exact free b o' (neC b o e hx) e1 (I.base.free b o e n hx)
 ·obtain⟨o',e1⟩:=I.base.there b o e hx;exact there b o' (neC b o e hx) e1
 ·obtain⟨m1,e1⟩:=I.base.tbls b ps e;obtain⟨m2,e2⟩:=tbls b _ e1;exact⟨m1++m2,by rw[e2,Array.append_assoc]⟩
 ·obtain⟨m,hn,hl⟩:=I.loc;refine⟨m,ns m hn,λi x v e1 e2 e3=>?_⟩;obtain⟨u,r,l⟩:=hl i x v e1 e2 e3;refine⟨u,r,?_⟩;rcases l with l | ⟨k,c,e,z⟩
  ·exact .inl l
  ·exact .inr ⟨k,c,e,cellK x c e _ z⟩
 ·obtain⟨v,z⟩:=I.cell x c e;exact⟨v,cellK x c e v z⟩
 ·obtain⟨m,⟨o,_,_,ho,_⟩,_⟩:=I.loc;exact free _ o (λz=>(hch _ z).2.1 rfl) ho I.free
 ·obtain⟨v,o,ho,hd⟩:=I.cell x c e;exact free c o (λz=>(hch c z).2.2.1 x c e rfl) ho (I.freeC x c e)
 ·obtain⟨e,n,ne,nf,d⟩:=I.pin p hp;have nch:p.1 ∉ ch:=λz=>(hch p.1 z).2.2.2 p hp rfl;exact⟨keep p.1 p.2 ne nf nch e n,free p.1 p.2 nch e n,ne,nf,d⟩
theorem Inv.un{t':Nat}(I:Inv X pins σ H s)(u:Un X.fs [] H H' s.heap h')(hok:HOk X.prog X.w H' h'):Inv X pins σ H' { s with heap:=h',toks:=t' }:=by
 obtain⟨m,⟨o,es,ep,ho,r⟩,_⟩:=id I.loc;obtain⟨sl,hL⟩:=u.any ho I.free (by simp)
 exact I.step (g':=s.gens) (d':=s.drawn) (ch:=[]) (λ_ z=>nomatch z) (λb o _ hb _ e n=>u.keep b o e n hb (by simp)) (λb o _ hb _ e n=>u.slot b o e n hb (by simp)) (λb o _ e n=>u.free b o e n (by simp)) (λb o _ e=>u.there b o e (by simp)) u.tups u.frzs u.tbls (λm' hm=>by
  obtain⟨o',es',ep',ho',r'⟩:=hm;rw[ho] at ho';cases ho';exact⟨_,es',ep',hL,r'⟩) hok I.bare
theorem Inv.call{g':Array GenState}{t':Nat}{d':Drawn}{ch:List Æ}(I:Inv X pins σ H s)(u:Un (frs X.stack) ch H H' s.heap h')(hok:HOk X.prog X.w H' h')(hg:Î0 g')
  (hch:∀ b∈ch,(b∈X.ex∨X.s₀.heap.objs.size<=b)/\b≠X.env.locals/\(∀ x c,X.env.cells.lookup x=some c->c≠b)/\∀ p∈X.pn++pins,p.1≠b) :
  Inv X pins σ H' { s with heap:=h',gens:=g',drawn:=d',toks:=t' }:=by
 obtain⟨m,⟨o,es,ep,ho,r⟩,_⟩:=id I.loc;obtain⟨sl,hL⟩:=u.any ho I.free λz=>(hch _ z).2.1 rfl;exact I.step (ch:=ch) hch (λb o hL hb hc e n=>u.keep b o e n (λz=>(ý.mp (I.Y20 b z)).elim hL hb) hc) (λb o _ _ hc e n=>u.any e n hc) (λb o hc e n=>u.free b o e n hc) (λb o hc e=>u.there b o e hc) u.tups u.frzs u.tbls (λm' hm=>by
  obtain⟨o',es',ep',ho',r'⟩:=hm;rw[ho] at ho';cases ho';exact⟨_,es',ep',hL,r'⟩) hok hg
theorem Inv.turned{t':Nat}{it:Æ}(I:Inv X pins σ H s)(k:∀ b o,b≠it->s.heap.get? b=some o->h'.get? b=some o)(hn:H it=none)(hL:it≠X.env.locals)
  (h1:it∈X.ex∨X.s₀.heap.objs.size<=it) (h2:∀ x c,X.env.cells.lookup x=some c->c≠it) (h3:∀ p∈X.pn++pins,p.1≠it):Inv X pins σ H { s with heap:=h',toks:=t' }:=by
 have nit:∀ b u,H b=some u->b≠it:=λb u e z=>by rw[z,hn] at e;cases e
 refine I.step (g':=s.gens) (d':=s.drawn) (ch:=[it]) (λb hb=>?_) (λb o _ _ hc e _=>k b o (λz=>hc (by simp[z])) e) (λb o _ _ hc e _=>⟨o.slots,k b o (λz=>hc (by simp[z])) e⟩) (λ_ _ _ _ n=>n)
  (λb o hc e=>⟨o,k b o (λz=>hc (by simp[z])) e⟩) (λ_ _ e=>e) (λ_ _ _ e=>e) (λb ps e=>⟨#[],by rw[e];simp⟩) (λm hm=>?_) (λb u e=>?_) I.bare
 ·have e:b=it:=by simpa using hb
  subst e;exact⟨h1,hL,h2,h3⟩
 ·obtain⟨o,es,ep,ho,r⟩:=hm;exact⟨o,es,ep,k _ o (À3 hL) ho,r⟩
 ·refine(I.hok b u e).U20 (λc v hc q=>k c v ?_ q) (λ_ q=>q) λ_ _ q=>q;rcases hc with z | z
  ·rw[z];exact nit b u e
  ·exact nit c _ z
theorem Inv.tok(I:Inv X pins σ H s)(t:Nat):Inv X pins σ H { s with toks:=t }:=I.un (h':=s.heap) (t':=t) Un.refl I.hok
theorem Inv.kept{t':Nat}(I:Inv X pins σ H s)(k:∀ b u,s.heap.get? b=some u->h'.get? b=some u):Inv X pins σ H { s with heap:=h',toks:=t' }:=I.un (Un.kept k) (I.hok.kept k)
theorem Inv.laid{a:Æ}{o:HO}{t':Nat}(I:Inv X pins σ H s)(k:∀ b u,s.heap.get? b=some u->h'.get? b=some u)(hp:s.heap.objs.size<=a)(new:f90 X.prog X.w (upd H a o) h' a o) :
  Inv X pins σ (upd H a o) { s with heap:=h',toks:=t' }:=I.un (Un.laid k hp (I.hok.fresh hp)) (I.hok.laid k hp new)
theorem Inv.write{x e:Æ}{o:HO}{t':Nat}(I:Inv X pins σ H s)(mu:Mut (H x))(he:e=x∨H e=some (.own x))(k:∀ b u,b≠e->s.heap.get? b=some u->h'.get? b=some u)(heo:∃ u,h'.get? e=some u)
  (new:f90 X.prog X.w (upd H x o) h' x o):Inv X pins σ (upd H x o) { s with heap:=h',toks:=t' }:=I.un (Un.write mu he k heo) (I.hok.write mu he k heo new)
theorem Inv.u10{pins':List (Æ × Obj)}(I:Inv X pins σ H s)(h:∀ p∈pins',s.heap.get? p.1=some p.2/\H p.1=none/\p.1≠X.env.locals/\p.1 ∉ X.fs/\∀ v,p.2.data≠.cell v):Inv X pins' σ H s :=
 ⟨I.ok,I.os,I.bare,I.base,I.loc,I.cell,I.free,I.freeC,λp hp=>(Ç1.mp hp).elim (λz=>I.pin p (Å2 _ z)) (h p),I.hok,I.len⟩
theorem O20{N:List Str}(hN:N.Nodup){i j:Nat}{x:Str}(a:N[i]?=some x)(b:N[j]?=some x):i=j:=by
 obtain⟨h1,e1⟩:=Ú.mp a;obtain⟨h2,e2⟩:=Ú.mp b;exact(List.getElem_inj hN).mp (e1.trans e2.symm)
theorem u20{M:Model}{A:ï}{E:Ã->Å->Prop}{i:Nat}{x:Str}{v:V}{u:Ã}{Q:Unit->Å->Prop}(I:Inv X pins σ H s)(hN:X.N.Nodup)(hi:X.N[i]?=some x)(hx:Loc X.env.scope x)(r:RelV v u)
  (h:∀ s',Inv X pins (σ.set i (some v)) H s'->(∃ a,Ò3 a s.heap s'.heap/\(a=X.env.locals∨X.env.cells.lookup x=some a))->Q () s') (hf:X.fn x=true∨X.env.scope.names.lookup x=some .local:=by first | exact .inl rfl | exact .inr rfl | assumption):Ð M A (storeName X.env x u) Q E s:=by
 obtain⟨m,hn,hl⟩:=id I.loc;have hcls:(X.env.scope.kind == .class || (X.env.scope.kind == .module&&X.env.locals != X.env.globals))=false:=by rw[I.ok.kind];rfl
 have hiσ:i < σ.length:=by rw[I.len];exact(Ú.mp hi).1
 have cne:=I.cne;have tracked:∀ {a:Æ}{h':á},(∃ o,s.heap.get? a=some o/\H a=none)->Ò3 a s.heap h'->HOk X.prog X.w H h':=λ{a h'} ha hs b ob e=>by
  obtain⟨_,_,hfree⟩:=ha;refine(I.hok b ob e).U20 (λc w' hc q=>(hs.2 c ?_).trans q) (λ_ q=>q) λ_ _ q=>q;rintro rfl;rcases hc with rfl | hc
  ·rw[hfree] at e;cases e
  ·rw[hfree] at hc;cases hc
 rcases hx with hk | hk
 ·refine wpAny_storeName_local hk hn (λh' hn' hs=>?_) hcls;obtain⟨oL,_,_,hoL,_⟩:=id hn;refine h _ ⟨I.ok,I.os,I.bare,⟨λb o e n hb hx=>?_,λb o e n hb hx=>?_,I.base.free,λb o e hx=>?_,I.base.tups,I.base.frzs,I.base.tbls⟩,⟨_,hn',λj y v' e1 e2 e3=>?_⟩,λy c e=>?_,I.free,I.freeC,λp hp=>?_,tracked ⟨oL,hoL,I.free⟩ hs,by simpa using I.len⟩ ⟨_,hs,.inl rfl⟩
  ·exact(hs.2 b (â (Ñ (Û e) I.ok.above))).trans (I.base.keep b o e n hb hx)
  ·obtain⟨sl,e1⟩:=I.base.slot b o e n hb hx;exact⟨sl,(hs.2 b (â (Ñ (Û e) I.ok.above))).trans e1⟩
  ·obtain⟨o',e1⟩:=I.base.there b o e hx;exact⟨o',(hs.2 b (â (Ñ (Û e) I.ok.above))).trans e1⟩
  ·by_cases hj:j=i
   ·subst hj;rw[hi] at e1;cases e1;rw[ß hiσ] at e2;cases e2;exact⟨u,r,.inl ⟨hk,by simp⟩⟩
   ·rw[Ö (À3 hj)] at e2;obtain⟨u',r',q⟩:=hl j y v' e1 e2 e3;refine⟨u',r',?_⟩;rcases q with ⟨k,e⟩ | ⟨k,c,e,z⟩
    ·refine .inl ⟨k,?_⟩;have:y≠x:=λe=>hj (O20 hN e1 (e ▸ hi));simp[this,e]
    ·exact .inr ⟨k,c,e,z.sameBut hs (cne y c e)⟩
  ·obtain⟨w',z⟩:=I.cell y c e;exact⟨w',z.sameBut hs (cne y c e)⟩
  ·obtain⟨e,n,ne,nf,d⟩:=I.pin p hp;exact⟨(hs.2 p.1 ne).trans e,n,ne,nf,d⟩
 ·have hfn:X.fn x=true:=by
   rcases hf with z | z
   ·exact z
   ·rw[z] at hk;cases hk
  obtain⟨c,hc⟩:=I.ok.has x (.inl hk);obtain⟨w',z⟩:=I.cell x c hc;refine wpAny_storeName_cell I.ok.kind hk hc z (λh' hc' hs=>?_);obtain⟨oc,hoc,hocd⟩:=id z;refine h { s with heap:=h' } ⟨I.ok,I.os,I.bare,⟨λb o e n hb hx=>?_,λb o e n hb hx=>?_,I.base.free,λb o e hx=>?_,I.base.tups,I.base.frzs,I.base.tbls⟩,⟨m,hn.sameBut hs (À3 (cne x c hc)),λj y v' e1 e2 e3=>?_⟩,λy c' e=>?_,I.free,I.freeC,λp hp=>?_,tracked ⟨oc,hoc,I.freeC x c hc⟩ hs,by simpa using I.len⟩ ⟨c,hs,.inr hc⟩
  ·exact(hs.2 b (â (Ñ (Û e) (I.ok.cab x c hfn hc)))).trans (I.base.keep b o e n hb hx)
  ·obtain⟨sl,e1⟩:=I.base.slot b o e n hb hx;exact⟨sl,(hs.2 b (â (Ñ (Û e) (I.ok.cab x c hfn hc)))).trans e1⟩
  ·obtain⟨o',e1⟩:=I.base.there b o e hx;exact⟨o',(hs.2 b (â (Ñ (Û e) (I.ok.cab x c hfn hc)))).trans e1⟩
  ·by_cases hj:j=i
   ·subst hj;rw[hi] at e1;cases e1;rw[ß hiσ] at e2;cases e2;exact⟨u,r,.inr ⟨.inl hk,c,hc,hc'⟩⟩
   ·rw[Ö (À3 hj)] at e2;obtain⟨u',r',q⟩:=hl j y v' e1 e2 e3;refine⟨u',r',?_⟩;rcases q with q | ⟨k,c',e,z'⟩
    ·exact .inl q
    ·refine .inr ⟨k,c',e,z'.sameBut hs ?_⟩;rintro rfl;exact hj (O20 hN e1 (I.ok.inj _ _ _ e hc ▸ hi))
  ·by_cases hcc:c'=c
   ·subst hcc;exact⟨_,hc'⟩
   ·obtain⟨w2,z2⟩:=I.cell y c' e;exact⟨w2,z2.sameBut hs hcc⟩
  ·obtain⟨e,n,ne,nf,d⟩:=I.pin p hp;refine⟨(hs.2 p.1 ?_).trans e,n,ne,nf,d⟩;intro q;rw[q,hoc] at e;have q':oc=p.2:=ð e;exact d w' (by rw[← q'];exact hocd)
theorem t50{M:Model}{A:ï}{E:Ã->Å->Prop}{i:Nat}{x:Str}{v:V}{u:Ã}{Q:Unit->Å->Prop}(I:Inv X pins σ H s)(hN:X.N.Nodup)(hi:X.N[i]?=some x)(hx:Loc X.env.scope x)(r:RelV v u)
  (h:∀ s',Inv X pins (σ.set i (some v)) H s'->Q () s') (hf:X.fn x=true∨X.env.scope.names.lookup x=some .local:=by first | exact .inl rfl | exact .inr rfl | assumption):Ð M A (storeName X.env x u) Q E s :=
 u20 I hN hi hx r (λs' I' _=>h s' I') hf
theorem Inv.K91{s':Å}{ch:List Æ}(I:Inv X pins σ H s)(ho:s'.os=s.os)(u:Un (frs X.stack) ch H H' s.heap s'.heap)(hok:HOk X.prog X.w H' s'.heap)(hg:Î0 s'.gens)
  (hch:∀ b∈ch,(b∈X.ex∨X.s₀.heap.objs.size<=b)/\b≠X.env.locals/\(∀ x c,X.env.cells.lookup x=some c->c≠b)/\∀ p∈X.pn++pins,p.1≠b):Inv X pins σ H' s':=by
 obtain⟨h',g',d',t',o'⟩:=s';have e:o'=s.os:=ho;subst e;exact I.call (g':=g') (t':=t') (d':=d') u hok hg hch
end
abbrev XK:=Ã->Option Æ->Hp->Prop
abbrev St:=List (Option V)
abbrev VK:=V->Hp->Prop
abbrev TE:=St->Hp->VK->Prop
abbrev TT:=St->Hp->(Bool->Hp->Prop)->Prop
abbrev TA:=St->Hp->(List V->Hp->Prop)->Prop
structure Ends where
 nx:St->Hp->Prop
 rt:VK
 bk:St->Hp->Prop:=λ_ _=>False
 ct:St->Hp->Prop:=λ_ _=>False
abbrev TS:=Ends->St->Hp->Prop
def EP(X:Cx)(pins:List (Æ × Obj))(σ:St)(Q:VK)(u:Ã)(s':Å):Prop:=∃ v H',Inv X pins σ H' s'/\RelV v u/\Q v H'
def TP(X:Cx)(pins:List (Æ × Obj))(σ:St)(Q:Bool->Hp->Prop)(b:Bool)(s':Å):Prop:=∃ H',Inv X pins σ H' s'/\Q b H'
def AP(X:Cx)(pins:List (Æ × Obj))(σ:St)(Q:List V->Hp->Prop)(us:List Ã)(s':Å):Prop:=∃ vs H',Inv X pins σ H' s'/\Vals vs us/\Q vs H'
def SP(X:Cx)(pins:List (Æ × Obj))(D:Ends)(f:Flow)(s':Å):Prop :=
 match f with
 |.next=>∃ σ' H',Inv X pins σ' H' s'/\D.nx σ' H'
 |.brk=>∃ σ' H',Inv X pins σ' H' s'/\D.bk σ' H'|.cont=>∃ σ' H',Inv X pins σ' H' s'/\D.ct σ' H'|.ret u=>∃ v σ' H',Inv X pins σ' H' s'/\RelV v u/\D.rt v H'
def PE(X:Cx)(e:Ê)(t:TE):Prop :=
 ∀ (pins:List (Æ × Obj)) (s:Å) (σ:St) (H:Hp) (Q:VK),Inv X pins σ H s->t σ H Q->Ð (Õ X.prog X.w) X.A (eval e X.env) (EP X pins σ Q) X.xe s
def PT(X:Cx)(e:Ê)(t:TT):Prop :=
 ∀ (pins:List (Æ × Obj)) (s:Å) (σ:St) (H:Hp) (Q:Bool->Hp->Prop),Inv X pins σ H s->t σ H Q->Ð (Õ X.prog X.w) X.A (isTrue e X.env (eval e X.env)) (TP X pins σ Q) X.xe s
def PW(X:Cx)(e:Ê)(t:TT):Prop :=
 ∀ (whole:Sem Ã) (pins:List (Æ × Obj)) (s:Å) (σ:St) (H:Hp) (Q:Bool->Hp->Prop),Inv X pins σ H s->t σ H Q->Ð (Õ X.prog X.w) X.A (isTrue e X.env whole) (TP X pins σ Q) X.xe s
theorem PW.pt{X:Cx}{e:Ê}{t:TT}(h:PW X e t):PT X e t:=h _
def PA(X:Cx)(es:List Ê)(t:TA):Prop :=
 ∀ (pos:Pos) (pins:List (Æ × Obj)) (s:Å) (σ:St) (H:Hp) (Q:List V->Hp->Prop),Inv X pins σ H s->t σ H Q->Ð (Õ X.prog X.w) X.A (spliced (Î2 pos (í es X.env))) (AP X pins σ Q) X.xe s
def PS(X:Cx)(st:À0)(t:TS):Prop :=
 ∀ (pins:List (Æ × Obj)) (s:Å) (σ:St) (H:Hp) (D:Ends),Inv X pins σ H s->t D σ H->Ð (Õ X.prog X.w) X.A (exec st X.env) (SP X pins D) X.xe s
def PSs(X:Cx)(st:List À0)(t:TS):Prop :=
 ∀ (pins:List (Æ × Obj)) (s:Å) (σ:St) (H:Hp) (D:Ends),Inv X pins σ H s->t D σ H->Ð (Õ X.prog X.w) X.A (execs st X.env) (SP X pins D) X.xe s
theorem thn{α:Type}{t:Sem α}{Q Q':α->Å->Prop}{M:Model}{A:ï}{E:Ã->Å->Prop}{s:Å}(h:Ð M A t Q E s)(hQ:∀ a s,Q a s->Q' a s):Ð M A t Q' E s:=Á2 h hQ λ_ _ x=>x
section
variable {X:Cx}
def J61(i:Nat):TE:=λσ H Q=>∃ v,σ[i]?=some (some v)/\Q v H
def tC(v:V):TE:=λ_ H Q=>Q v H
theorem e20{i:Nat}{x:Str}{pos:Pos}(hN:X.N[i]?=some x)(hv:Vis X.env.scope x)(hd:(x == ("__debug__":Str))=false:=by decide)(hcd:(x == ("__classdict__":Str))=false:=by decide):PE X (.Name x pos) (J61 i):=by
 intro pins s σ H Q I h;obtain⟨v,e,h⟩:=h;obtain⟨m,hn,hl⟩:=I.loc;obtain⟨u,r,l⟩:=hl i x v hN e hv;have fin:EP X pins σ Q u s:=⟨v,H,I,r,h⟩;rcases l with ⟨hk,hm⟩ | ⟨hk,c,hc,hcell⟩
 ·exact Ì6 (Ñ5 I.ok.kind hk hn hm fin) hd
 ·rcases hk with hk | hk
  ·exact Ì6 (wpAny_loadName_cell I.ok.kind hk hc hcell fin) hd
  ·exact Ì6 (wpAny_loadName_free I.ok.kind hk hc hcell fin hcd) hd
theorem F50{i j pos}:PE X (.Constant (.int i) j pos) (tC (.int i)):=λ_ _ _ H _ I h=>wpAny_Constant_int ⟨.int i,H,I.tok _,⟨_,rfl⟩,h⟩
theorem a72{b j pos}:PE X (.Constant (.bool b) j pos) (tC (.bl b)):=λ_ _ _ H _ I h=>Constant_bool ⟨.bl b,H,I,rfl,h⟩
theorem O30{j pos}:PE X (.Constant .none j pos) (tC .non):=λ_ _ _ H _ I h=>Constant_none ⟨.non,H,I,rfl,h⟩
theorem v21{x j pos}:PE X (.Constant (.str x) j pos) (tC (.str x)):=λ_ _ _ H _ I h=>Calls.Constant_str ⟨.str x,H,I.tok _,⟨_,rfl⟩,h⟩
def Gl(X:Cx)(x:Str):Prop:=X.env.kindOf x=some .globalImplicit
theorem u30{E:Ã->Å->Prop}{pins:List (Æ × Obj)}{s:Å}{σ:St}{H:Hp}{x:Str}{u:Ã}{pos:Pos}{Q:Ã->Å->Prop}(I:Inv X pins σ H s)(hg:Gl X x)(hm:X.mg x=some u)(h:Q u s)
  (hd:(x == ("__debug__":Str))=false:=by decide):Ð (Õ X.prog X.w) X.A (eval (.Name x pos) X.env) Q E s :=
 Ê1 I.ok.kind hg (Ö0 (by rw[I.ok.glob];exact I.mod.glob.keeps I.bk) hm h) hd
theorem p00{E:Ã->Å->Prop}{pins:List (Æ × Obj)}{s:Å}{σ:St}{H:Hp}{x:Str}{u:Ã}{pos:Pos}{Q:Ã->Å->Prop}(I:Inv X pins σ H s)(hg:Gl X x)(hm:X.mg x=none)(hv:é x=some u)(h:Q u s)
  (hn:x≠"__name__":=by decide) (hd:(x == ("__debug__":Str))=false:=by decide):Ð (Õ X.prog X.w) X.A (eval (.Name x pos) X.env) Q E s:=by
 obtain⟨mb,h1,h2⟩:=I.mod.blt;exact Ê1 I.ok.kind hg (Calls.loadGlobal_builtin (by rw[I.ok.glob];exact I.mod.glob.keeps I.bk) hm (by rw[I.ok.blt];exact h1.keeps I.bk) ((h2 x hn).trans hv) h) hd
theorem e50{x:Str}{v:V}{u:Ã}{pos:Pos}(hg:Gl X x)(hm:X.mg x=some u)(r:RelV v u)(hd:(x == ("__debug__":Str))=false:=by decide):PE X (.Name x pos) (tC v) :=
 λ_ _ _ H _ I h=>u30 I hg hm ⟨v,H,I,r,h⟩ hd
theorem A50{x:Str}{v:V}{u:Ã}{pos:Pos}(hg:Gl X x)(hm:X.mg x=none)(hv:é x=some u)(r:RelV v u)(hn:x≠"__name__":=by decide)(hd:(x == ("__debug__":Str))=false:=by decide):PE X (.Name x pos) (tC v) :=
 λ_ _ _ H _ I h=>p00 I hg hm hv ⟨v,H,I,r,h⟩ hn hd
variable {a b:Ê}{ta tb:TE}{pos:Pos}
def tB(t:TE):TT:=λσ H Q=>t σ H λx H1=>∃ c,x=.bl c/\Q c H1
theorem O40{e:Ê}{t:TE}(h:PE X e t)(he:∀ whole,isTrue e X.env whole=(do let v ← whole;standAt e.pos;holding [v] (truthy v)):=by intro _;rfl):PT X e (tB t):=by
 intro pins s σ H Q I hw;refine isTrue_plain (thn (h pins s σ H _ I hw) λv s1 ⟨x,H1,I1,r1,q1⟩=>?_) (he _);obtain⟨d,rfl,q⟩:=q1;cases r1;exact Á1 ⟨H1,I1,q⟩
variable {tA tB':TT}{rest:List Ê}
def o22(t u:TT):TT:=λσ H Q=>t σ H λc H1=>if c=true then u σ H1 Q else Q false H1
def tOr(t u:TT):TT:=λσ H Q=>t σ H λc H1=>if c=true then Q true H1 else u σ H1 Q
def o32(t:TT):TT:=λσ H Q=>t σ H λc H1=>Q (!c) H1
theorem Y30(ha:PT X a tA):PW X (.BoolOp .And [a] pos) tA:=by
 intro wh pins s σ H Q I h;refine isTrue_and (thn (ha pins s σ H Q I h) λc s1 e=>?_);cases c with
 |true=>exact isTrue_and_nil e|false=>exact e
theorem L01(ha:PT X a tA):PW X (.BoolOp .Or [a] pos) tA:=by
 intro wh pins s σ H Q I h;refine isTrue_or (thn (ha pins s σ H Q I h) λc s1 e=>?_);cases c with
 |false=>exact isTrue_or_nil e|true=>exact e
theorem v31(ha:PT X a tA)(hb:PW X (.BoolOp .And (b::rest) pos) tB'):PW X (.BoolOp .And (a::b::rest) pos) (o22 tA tB'):=by
 intro wh pins s σ H Q I h;refine isTrue_and (thn (ha pins s σ H _ I h) λc s1 ⟨H1,I1,q1⟩=>?_);cases c with
 |true=>exact hb wh pins s1 σ H1 Q I1 q1|false=>exact⟨H1,I1,q1⟩
theorem a82(ha:PT X a tA)(hb:PW X (.BoolOp .Or (b::rest) pos) tB'):PW X (.BoolOp .Or (a::b::rest) pos) (tOr tA tB'):=by
 intro wh pins s σ H Q I h;refine isTrue_or (thn (ha pins s σ H _ I h) λc s1 ⟨H1,I1,q1⟩=>?_);cases c with
 |true=>exact⟨H1,I1,q1⟩|false=>exact hb wh pins s1 σ H1 Q I1 q1
theorem v41(ha:PT X a tA):PT X (.UnaryOp .Not a pos) (o32 tA):=by
 intro pins s σ H Q I h;exact isTrue_not (ha pins s σ H (λc H1=>Q (!c) H1) I h)
def a92(ta tb:TE):TE:=λσ H Q=>ta σ H λx H1=>∃ c,x=.bl c/\if c=true then tb σ H1 Q else Q (.bl false) H1
def o42(ta tb:TE):TE:=λσ H Q=>ta σ H λx H1=>∃ c,x=.bl c/\if c=true then Q (.bl true) H1 else tb σ H1 Q
def b02(ta:TE):TE:=λσ H Q=>ta σ H λx H1=>∃ c,x=.bl c/\Q (.bl (!c)) H1
theorem L11{op}{t:TE}(h:PE X a t):PE X (.BoolOp op [a] pos) t:=λpins s σ H Q I hw=>BoolOp_one (h pins s σ H Q I hw)
theorem L21(ha:PE X a ta)(hb:PE X (.BoolOp .And (b::rest) pos) tb):PE X (.BoolOp .And (a::b::rest) pos) (a92 ta tb):=by
 intro pins s σ H Q I h;refine BoolOp_and (thn (ha pins s σ H _ I h) λv s1 ⟨x,H1,I1,r1,q1⟩=>?_);obtain⟨c,rfl,q1⟩:=q1;cases r1;refine Á1 ?_;cases c with
 |true=>exact hb pins s1 σ H1 Q I1 q1|false=>exact⟨.bl false,H1,I1,rfl,q1⟩
theorem b12(ha:PE X a ta)(hb:PE X (.BoolOp .Or (b::rest) pos) tb):PE X (.BoolOp .Or (a::b::rest) pos) (o42 ta tb):=by
 intro pins s σ H Q I h;refine BoolOp_or (thn (ha pins s σ H _ I h) λv s1 ⟨x,H1,I1,r1,q1⟩=>?_);obtain⟨c,rfl,q1⟩:=q1;cases r1;refine Á1 ?_;cases c with
 |false=>exact hb pins s1 σ H1 Q I1 q1|true=>exact⟨.bl true,H1,I1,rfl,q1⟩
theorem L31(ha:PE X a ta):PE X (.UnaryOp .Not a pos) (b02 ta):=by
 intro pins s σ H Q I h;refine UnaryOp_ (thn (ha pins s σ H _ I h) λv s1 ⟨x,H1,I1,r1,q1⟩=>?_);obtain⟨c,rfl,q1⟩:=q1;cases r1;exact not_of (Á1 ⟨.bl (!c),H1,I1,rfl,q1⟩)
def tIf(t:TT)(ta tb:TE):TE:=λσ H Q=>t σ H λc H1=>if c=true then ta σ H1 Q else tb σ H1 Q
theorem n41{c:Ê}(hc:PT X c tA)(ha:PE X a ta)(hb:PE X b tb):PE X (.IfExp c a b pos) (tIf tA ta tb):=by
 intro pins s σ H Q I h;refine wpAny_IfExp (thn (hc pins s σ H _ I h) λd s1 ⟨H1,I1,q1⟩=>?_);cases d with
 |true=>exact ha pins s1 σ H1 Q I1 q1|false=>exact hb pins s1 σ H1 Q I1 q1
end
def SqL(K:À)(H:Hp)(a:Æ)(xs:List V):Prop :=
 Rd H a (.lst xs) ∨
  ∃ (o:Obj) (its:Array Ã) (n:Nat),K.lookup a=some o/\o.cls=.type "list"/\o.dict=none/\o.data=.seq its n/\its.size<=sizeLine/\Vals xs its.toList
def SqT(K:À)(H:Hp)(a:Æ)(xs:List V):Prop :=
 Rd H a (.tup xs) ∨
  ∃ (o:Obj) (its:Array Ã) (n:Nat),K.lookup a=some o/\o.cls=.type "tuple"/\o.data=.seq its n/\its.size<=sizeLine/\Vals xs its.toList
def o52:Ã->Option V
 |.none=>some .non|.bool b=>some (.bl b)|.int i _=>some (.int i)|.str x _=>some (.str x)|.bytes b _=>some (.byt b)|.float b _=>some (.flt b)|.ref a=>some (.ref a)|.type n=>some (.ty n)|_=>none
theorem RelV.abs{x:V}{u:Ã}(r:RelV x u):o52 u=some x:=by
 cases x with
 |non=>cases r;rfl
 |bl _=>cases r;rfl
 |int _=>obtain⟨t,rfl⟩:=r;rfl
 |str _=>obtain⟨t,rfl⟩:=r;rfl
 |byt _=>obtain⟨t,rfl⟩:=r;rfl
 |flt _=>obtain⟨t,rfl⟩:=r;rfl
 |ref _=>cases r;rfl
 |ty _=>cases r;rfl
theorem RelV.inj{x y:V}{u:Ã}(r:RelV x u)(q:RelV y u):x=y:=ð (r.abs.symm.trans q.abs)
theorem Vals.inj:∀ {xs ys:List V}{us:List Ã},Vals xs us->Vals ys us->xs=ys
 |_,_,_,.nil,.nil=>rfl|_,_,_,.cons r t,.cons r' t'=>by rw[r.inj r',Vals.inj t t']
section
variable {X:Cx}{pins:List (Æ × Obj)}{σ:St}{H:Hp}{s:Å}{a:Æ}{xs ys:List V}
theorem SqL.of{K:À}(h:H a=some (.lst xs)):SqL K H a xs:=.inl (.inl h)
theorem SqT.of{K:À}(h:H a=some (.tup xs)):SqT K H a xs:=.inl (.inl h)
theorem Inv.list(I:Inv X pins σ H s)(h:SqL X.K H a xs):∃ its:List Ã,Vals xs its/\PlainL s.heap a its.toArray/\xs.length<=sizeLine:=by
 rcases h with h | ⟨o,its,n,hk,hc,hd,hs,hz,r⟩
 ·obtain⟨z,its,n,r,e⟩:=h.ok I.hok;exact⟨its,r,⟨_,n,e,rfl,rfl,rfl⟩,z⟩
 ·refine⟨its.toList,r,⟨o,n,I.kIn a o hk,hc,hd,by simpa using hs⟩,?_⟩
  have e:=r.length;simp only[Ç4] at e;omega
theorem Inv.tuple(I:Inv X pins σ H s)(h:SqT X.K H a xs):∃ its:List Ã,Vals xs its/\Í8 s.heap a its.toArray/\xs.length<=sizeLine:=by
 rcases h with h | ⟨o,its,n,hk,hc,hs,hz,r⟩
 ·obtain⟨z,its,r,p⟩:=h.ok I.hok;exact⟨its,r,p,z⟩
 ·refine⟨its.toList,r,⟨o,I.kIn a o hk,hc,n,by simpa using hs⟩,?_⟩
  have e:=r.length;simp only[Ç4] at e;omega
theorem Inv.O50(I:Inv X pins σ H s)(h:SqL X.K H a xs)(h':SqL X.K H a ys):xs=ys:=by
 obtain⟨its,r,⟨o,n,e,_,_,d⟩,_⟩:=I.list h;obtain⟨its',r',⟨o',n',e',_,_,d'⟩,_⟩:=I.list h';rw[e] at e';cases e';rw[d] at d';injection d' with d1 _;have:its=its':=by simpa using congrArg toList d1
 subst this;exact r.inj r'
theorem Inv.F60(I:Inv X pins σ H s)(h:SqT X.K H a xs)(h':SqT X.K H a ys):xs=ys:=by
 obtain⟨its,r,⟨o,e,_,n,d⟩,_⟩:=I.tuple h;obtain⟨its',r',⟨o',e',_,n',d'⟩,_⟩:=I.tuple h';rw[e] at e';cases e';rw[d] at d';injection d' with d1 _;have:its=its':=by simpa using congrArg toList d1
 subst this;exact r.inj r'
end
abbrev Cx.m81(X:Cx)(E:Ã->Å->Prop):Cx:={ X with xe:=E }
abbrev Cx.nox(X:Cx):Cx:=X.m81 λ_ _=>False
theorem Cx.Ok.m81{X:Cx}(ok:X.Ok)(E:Ã->Å->Prop):(X.m81 E).Ok :=
 ⟨ok.mod,ok.kind,ok.glob,ok.blt,ok.above,ok.inj,ok.has,ok.cab,ok.hd,ok.frames,ok.stk,ok.exf,ok.bs,ok.bsz,ok.noex,ok.exfs,ok.U30,ok.frf⟩
theorem Cx.Ok.s10{X:Cx}{E:Ã->Å->Prop}(ok:(X.m81 E).Ok):X.Ok :=
 ⟨ok.mod,ok.kind,ok.glob,ok.blt,ok.above,ok.inj,ok.has,ok.cab,ok.hd,ok.frames,ok.stk,ok.exf,ok.bs,ok.bsz,ok.noex,ok.exfs,ok.U30,ok.frf⟩
section
variable {X:Cx}{pins:List (Æ × Obj)}{σ:St}{H:Hp}{s:Å}{E:Ã->Å->Prop}
theorem Inv.m81(I:Inv X pins σ H s)(E:Ã->Å->Prop):Inv (X.m81 E) pins σ H s:=⟨I.ok.m81 E,I.os,I.bare,I.base,I.loc,I.cell,I.free,I.freeC,I.pin,I.hok,I.len⟩
theorem Inv.s10(I:Inv (X.m81 E) pins σ H s):Inv X pins σ H s:=⟨I.ok.s10,I.os,I.bare,I.base,I.loc,I.cell,I.free,I.freeC,I.pin,I.hok,I.len⟩
theorem SP.s10{D:Ends}{f:Flow}{s':Å}(h:SP (X.m81 E) pins D f s'):SP X pins D f s':=by
 cases f with
 |next=>obtain⟨σ',H',I,q⟩:=h;exact⟨σ',H',I.s10,q⟩
 |brk=>obtain⟨σ',H',I,q⟩:=h;exact⟨σ',H',I.s10,q⟩
 |cont=>obtain⟨σ',H',I,q⟩:=h;exact⟨σ',H',I.s10,q⟩
 |ret u=>obtain⟨v,σ',H',I,r,q⟩:=h;exact⟨v,σ',H',I.s10,r,q⟩
theorem PSs.nox{st:List À0}{t:TS}(h:PSs X.nox st t):PSs X st t:=λpins s σ H D I hw =>
 Á2 (h pins s σ H D (I.m81 _) hw) (λ_ _ q=>q.s10) λ_ _ z=>è z
end
section
variable {X:Cx}{st:À0}{rest:List À0}{t u:TS}{e:Ê}{te:TE}{pos:Pos}
def b22:TS:=λD σ H=>D.nx σ H
def o62(t u:TS):TS:=λD σ H=>t { D with nx:=u D } σ H
theorem u40:PSs X [] b22:=λ_ _ σ H _ I h=>Ê3 ⟨σ,H,I,h⟩
theorem d50(h1:PS X st t)(h2:PSs X rest u):PSs X (st::rest) (o62 t u):=by
 intro pins s σ H D I h;refine Î9 (thn (h1 pins s σ H { D with nx:=u D } I h) λf s1 q=>?_);cases f with
 |next =>
  obtain⟨σ',H',I',q⟩:=q;exact h2 pins s1 σ' H' D I' q
 |ret v=>exact q|brk=>exact q|cont=>exact q
theorem A60(h1:PS X st t):PSs X [st] t:=by
 intro pins s σ H D I h;refine Î9 (thn (h1 pins s σ H D I h) λf s1 q=>?_);cases f with
 |next=>exact Ê3 q
 |ret v=>exact q|brk=>exact q|cont=>exact q
theorem Inv.quiet{pins:List (Æ × Obj)}{σ:St}{H:Hp}{s:Å}(I:Inv X pins σ H s):interactive X.env=false:=by simp[interactive,I.ok.kind]
def L41(te:TE):TS:=λD σ H=>te σ H λ_ H1=>D.nx σ H1
theorem A70(he:PE X e te)(hs:É4 e none pos.line X.env=pure false:=by rfl):PS X (.Expr e pos) (L41 te):=by
 intro pins s σ H D I h;exact wpAny_Expr_any (thn (he pins s σ H _ I h) λv s1 ⟨x,H1,I1,r1,q1⟩=>⟨σ,H1,I1,q1⟩) I.quiet hs
def o72(te:TE):TS:=λD σ H=>te σ H D.rt
theorem y50(he:PE X e te):PS X (.Return (some e) pos) (o72 te):=by
 intro pins s σ H D I h;exact wpAny_Return_some (thn (he pins s σ H _ I h) λv s1 ⟨x,H1,I1,r1,q1⟩=>⟨x,σ,H1,I1,r1,q1⟩)
def b32:TS:=λD _ H=>D.rt .non H
theorem A31:PS X (.Return none pos) b32:=λ_ _ σ H _ I h=>wpAny_Return_none ⟨.non,σ,H,I,rfl,h⟩
def o82(c:TT)(t u:TS):TS:=λD σ H=>c σ H λb H1=>if b=true then t D σ H1 else u D σ H1
theorem Y40{c:Ê}{a b:List À0}{tc:TT}(hc:PT X c tc)(ha:PSs X a t)(hb:PSs X b u):PS X (.If c a b pos) (o82 tc t u):=by
 intro pins s σ H D I h;refine wpAny_If (thn (hc pins s σ H _ I h) λd s1 ⟨H1,I1,q1⟩=>?_);cases d with
 |true=>exact ha pins s1 σ H1 D I1 q1|false=>exact hb pins s1 σ H1 D I1 q1
end
abbrev TG:=V->St->Hp->(St->Hp->Prop)->Prop
abbrev TGs:=List V->St->Hp->(St->Hp->Prop)->Prop
def PG(X:Cx)(target:Ê)(t:TG):Prop :=
 ∀ (pins:List (Æ × Obj)) (s:Å) (σ:St) (H:Hp) (v:V) (u:Ã) (Q:St->Hp->Prop),Inv X pins σ H s->RelV v u->t v σ H Q ->
  Ð (Õ X.prog X.w) X.A (Ñ6 target X.env u) (λ_ s'=>∃ σ' H',Inv X pins σ' H' s'/\Q σ' H') X.xe s
def PGs(X:Cx)(ts:List Ê)(t:TGs):Prop :=
 ∀ (pins:List (Æ × Obj)) (s:Å) (σ:St) (H:Hp) (vs:List V) (us:List Ã) (Q:St->Hp->Prop),Inv X pins σ H s->Vals vs us->t vs σ H Q ->
  Ð (Õ X.prog X.w) X.A (assignInOrder ((Æ6 ts X.env).map (·.2)) us) (λ_ s'=>∃ σ' H',Inv X pins σ' H' s'/\Q σ' H') X.xe s
abbrev Z01:=V->V->V->Hp->(Hp->Prop)->Prop
def l32(X:Cx)(t:Z01):Prop :=
 ∀ (pins:List (Æ × Obj)) (s:Å) (σ:St) (H:Hp) (o i v:V) (ov iv u:Ã) (Q:Hp->Prop),Inv X pins σ H s->RelV o ov->RelV i iv->RelV v u->t o i v H Q ->
  Ð (Õ X.prog X.w) X.A (setItem ov iv u) (λ_ s'=>∃ H',Inv X pins σ H' s'/\Q H') X.xe s
abbrev TIp:=V->V->Hp->VK->Prop
def PIp(X:Cx)(op:Operator)(t:TIp):Prop :=
 ∀ (pins:List (Æ × Obj)) (s:Å) (σ:St) (H:Hp) (x y:V) (v u:Ã) (Q:VK),Inv X pins σ H s->RelV x v->RelV y u->t x y H Q ->
  Ð (Õ X.prog X.w) X.A (inplaceOp op v u) (EP X pins σ Q) X.xe s
section
variable {X:Cx}{pos:Pos}
def A80(i:Nat):TG:=λv σ H Q=>Q (σ.set i (some v)) H
theorem K20{i:Nat}{x:Str}(hN:X.N.Nodup)(hi:X.N[i]?=some x)(hx:Loc X.env.scope x)(hf:X.fn x=true∨X.env.scope.names.lookup x=some .local:=by first | exact .inl rfl | exact .inr rfl | assumption):PG X (.Name x pos) (A80 i):=by
 intro pins s σ H v u Q I r h;exact wpAny_assign_Name (t50 I hN hi hx r (λs' I'=>⟨_,H,I',h⟩) hf)
def l42:TGs:=λvs σ H Q=>vs=[]/\Q σ H
def L51(t:TG)(u:TGs):TGs:=λvs σ H Q=>∃ v r,vs=v::r/\t v σ H λσ' H'=>u r σ' H' Q
theorem A41:PGs X [] l42:=by
 intro pins s σ H vs us Q I r h;obtain⟨e,h⟩:=h;subst e;cases r;exact assignInOrder_nil ⟨σ,H,I,h⟩
theorem n51{e:Ê}{es:List Ê}{t:TG}{u:TGs}(h1:PG X e t)(h2:PGs X es u)
  (hs:(Æ6 (e::es) X.env).map (·.2)=Ñ6 e X.env::(Æ6 es X.env).map (·.2):=by rfl):PGs X (e::es) (L51 t u):=by
 intro pins s σ H vs us Q I r h;obtain⟨v,vr,e1,h⟩:=h;subst e1;cases r with
 |cons r rr =>
  rw[hs];refine Ó3 (thn (h1 pins s σ H _ _ _ I r h) λ_ s1 ⟨σ1,H1,I1,q1⟩=>?_);exact h2 pins s1 σ1 H1 _ _ Q I1 rr q1
def l52(K:À)(n:Nat)(t:TGs):TG:=λv σ H Q=>∃ a xs,v=.ref a/\SqT K H a xs/\xs.length=n/\t xs σ H Q
theorem L61{es:List Ê}{k:Nat}{t:TGs}{n:Nat}(hc:X.calm=true)(h:PGs X es t)
  (hn:(Æ6 es X.env).length=n:=by rfl) (hst:(Æ6 es X.env).findIdx? (·.1)=none:=by rfl):PG X (.Tuple es k pos) (l52 X.K n t):=by
 intro pins s σ H v u Q I r hw;obtain⟨a,xs,e1,hq,hl,hw⟩:=hw;subst e1;cases r;obtain⟨its,rv,ht,hz⟩:=I.tuple hq;refine assign_Tuple_tuple (I.ok.hd hc) ht (by simp[hn,← hl,rv.length]) hst λh' hx=>?_
 have I1:Inv X pins σ H { s with heap:=h' }:=I.kept (t':=s.toks) λb o e=>hx b o (â (Û e)) e;exact h pins _ σ H xs _ Q I1 (by simpa using rv) hw
def o92(to ti:TE)(t:Z01):TG:=λv σ H Q=>to σ H λo H1=>ti σ H1 λi H2=>t o i v H2 λH3=>Q σ H3
theorem v51{o i:Ê}{to ti:TE}{t:Z01}(ho:PE X o to)(hi:PE X i ti)(hs:l32 X t)
  (ha:∀ v,Ñ6 (.Subscript o i pos) X.env v=(do
   let ov ← holding [v] (eval o X.env)
   let iv ← holding [v,ov] (eval i X.env)
   standAt pos
   holding [v,ov,iv] (setItem ov iv v)
   release [v,ov,iv] []):=by intro _;rfl):PG X (.Subscript o i pos) (o92 to ti t):=by
 intro pins s σ H v u Q I r h;rw[ha];refine Á (Ã0 (thn (ho pins s σ H _ I h) λov s1 ⟨x,H1,I1,r1,q1⟩=>?_));refine Á (Ã0 (thn (hi pins s1 σ H1 _ I1 q1) λiv s2 ⟨y,H2,I2,r2,q2⟩=>?_));refine Á (Ò6 (Á (Ã0 (thn (hs pins s2 σ H2 x y v ov iv u _ I2 r1 r2 r q2) λ_ s3 ⟨H3,I3,q3⟩=>?_))));exact wpAny_release ⟨σ,H3,I3,q3⟩
def L71(te:TE)(g:TG):TS:=λD σ H=>te σ H λx H1=>g x σ H1 D.nx
theorem Y50{tg e:Ê}{te:TE}{g:TG}(he:PE X e te)(hg:PG X tg g)(hs:swapsWithSole [tg] e pos.line X.env=pure false:=by rfl)(hw:Â0 [tg] e X.env=pure none:=by rfl)
  (h1:(Æ6 [tg] X.env).map (·.2)=[Ñ6 tg X.env]:=by rfl):PS X (.Assign [tg] e pos) (L71 te g):=by
 intro pins s σ H D I h;refine wpAny_Assign_stores (thn (he pins s σ H _ I h) λv s1 ⟨x,H1,I1,r1,q1⟩=>?_) hs hw;rw[h1];exact thn (hg pins s1 σ H1 x v _ I1 r1 q1) λ_ s2 q=>q
theorem n50{i:Nat}{x:Str}{e:Ê}{te:TE}{pos':Pos}(hN:X.N.Nodup)(hi:X.N[i]?=some x)(hx:Loc X.env.scope x)(he:PE X e te)(hs:É4 e (some (.Name x pos')) pos.line X.env=pure false:=by rfl)(hf:X.fn x=true∨X.env.scope.names.lookup x=some .local:=by first | exact .inl rfl | exact .inr rfl | assumption) :
  PS X (.Assign [.Name x pos'] e pos) (L71 te (A80 i)):=by
 intro pins s σ H D I h;refine wpAny_Assign_Name (thn (he pins s σ H _ I h) λv s1 ⟨y,H1,I1,r1,q1⟩=>?_) hs;exact t50 I1 hN hi hx r1 (λs2 I2=>⟨_,H1,I2,q1⟩) hf
def p02(i j:Nat)(ta:TA):TS:=λD σ H=>ta σ H λvs H1=>∃ v w,vs=[v,w]/\D.nx ((σ.set i (some v)).set j (some w)) H1
theorem L81{i j:Nat}{x y:Str}{a b:Ê}{ta:TA}{px py pt:Pos}{kt k2 pt2}(hc:X.calm=true)(hN:X.N.Nodup)(hi:X.N[i]?=some x)(hj:X.N[j]?=some y)(hij:i≠j)
  (hx:X.env.scope.names.lookup x=some .local) (hy:X.env.scope.names.lookup y=some .local) (ha:PA X [a,b] ta)
  (hw:Â0 [.Tuple [.Name x px,.Name y py] kt pt] (.Tuple [a,b] k2 pt2) X.env=pure (some [x,y]))
  (hs:swapsWithSole [.Tuple [.Name x px,.Name y py] kt pt] (.Tuple [a,b] k2 pt2) pos.line X.env=pure false:=by rfl) :
  PS X (.Assign [.Tuple [.Name x px,.Name y py] kt pt] (.Tuple [a,b] k2 pt2) pos) (p02 i j ta):=by
 intro pins s σ H D I h;rw[exec_Assign_arm];refine Á (Ò6 ?_);rw[hs];refine Á (Ç ?_);rw[if_neg (-0)]
 refine Á (Tuple_ (thn (ha _ pins s σ H _ I h) λus s1 ⟨vs,H1,I1,r1,q1⟩=>?_));obtain⟨v,w,e1,q1⟩:=q1;subst e1;obtain⟨u1,u2,rfl,rv,rw'⟩:∃ u1 u2,us=[u1,u2]/\RelV v u1/\RelV w u2:=by
  cases r1 with
  |cons p q =>
   cases q with
   |cons p' q' =>
    cases q';exact⟨_,_,rfl,p,p'⟩
 refine û ?_ (by show 2<=sizeLine;decide)
 have I2:Inv X pins σ H1 { s1 with heap:=s1.heap.push { cls:=.type "tuple",data:=.seq [u1,u2].toArray } }:=I1.kept (t':=s1.toks) λb o e=>Ä _ e;rw[hw];refine Á (Ç ?_);show Ð (Õ X.prog X.w) X.A (do rule "assign.swapped-stores";let items ← unpackItems (.ref s1.heap.objs.size) 2 none;assignInOrder [λv=>bindName X.env y v,λv=>bindName X.env x v] items.reverse;pure Flow.next) _ _ _;refine Á (Ï7 (Á (unpackItems_tuple (items:=#[u1,u2]) (I.ok.hd hc) (Í8.new s1.heap _) λh' hx'=>?_)));have I3:=I2.kept (h':=h') (t':=s1.toks) λb o e=>hx' b o (â (Û e)) e;show Ð _ _ (assignInOrder [λv=>bindName X.env y v,λv=>bindName X.env x v] [u2,u1] >>= λ_=>pure Flow.next) _ _ _;refine Á (Ó3 (wpAny_bindName (t50 I3 hN hj (.inl hy) rw' (λs2 I4=>?_) (.inr hy))));refine Ó3 (wpAny_bindName (t50 I4 hN hi (.inl hx) rv (λs3 I5=>assignInOrder_nil (Ç ?_)) (.inr hx)));rw[List.set_comm _ _ (À3 hij)] at I5;exact⟨_,H1,I5,q1⟩
def u12(i:Nat)(te:TE)(ti:TIp):TS:=λD σ H=>∃ x,σ[i]?=some (some x)/\te σ H λy H1=>ti x y H1 λz H2=>D.nx (σ.set i (some z)) H2
def p22(to ti te:TE)(tget:V->V->Hp->VK->Prop)(tip:TIp)(tset:Z01):TS:=λD σ H=>to σ H λo H1=>ti σ H1 λi H2=>tget o i H2 λx H3=>te σ H3 λy H4=>tip x y H4 λz H5=>tset o i z H5 λH6=>D.nx σ H6
def u22(X:Cx)(t:V->V->Hp->VK->Prop):Prop :=
 ∀ (pins:List (Æ × Obj)) (s:Å) (σ:St) (H:Hp) (o i:V) (ov iv:Ã) (Q:VK),Inv X pins σ H s->RelV o ov->RelV i iv->t o i H Q ->
  Ð (Õ X.prog X.w) X.A (Ñ8 ov iv) (EP X pins σ Q) X.xe s
def ipI(f:Int->Int->Int):TIp:=λx y H Q=>∃ i j,x=.int i/\y=.int j/\Q (.int (f i j)) H
def L91(c:TT)(tb:TS):TS:=λD σ H=>∃ W:Nat->St->Hp->Prop,(∃ m,W m σ H)/\∀ m σ H,W m σ H ->
 c σ H λb H1=>if b=true then ∃ N:St->Hp->Prop,(∀ σ' H',N σ' H'->∃ m',m' < m/\W m' σ' H')/\tb { D with nx:=N,ct:=N,bk:=D.nx } σ H1 else D.nx σ H1
theorem n61{c:Ê}{body:List À0}{tc:TT}{tb:TS}(hp:PassesOwn (Õ X.prog X.w) X.A X.env X.xe)(hc:PT X c tc)(hb:PSs X body tb):PS X (.While c body [] pos) (L91 tc tb):=by
 intro pins s σ H D I h;obtain⟨W,⟨m0,w0⟩,turn⟩:=h;refine wpAny_While (codeAny_whileLoop (λn s'=>∃ σ' H',Inv X pins σ' H' s'/\W n σ' H') ?_ m0 ⟨σ,H,I,w0⟩);rintro n s1 ⟨σ1,H1,I1,w1⟩;refine Å8 hp (thn (hc pins s1 σ1 H1 _ I1 (turn n σ1 H1 w1)) λb s2 ⟨H2,I2,q2⟩=>?_);cases b with
 |true =>
  obtain⟨N,hN,q2⟩:=q2;rw[if_pos rfl];refine Å8 hp (thn (hb pins s2 σ1 H2 _ I2 q2) λf s3 q3=>?_);cases f with
  |next =>
   obtain⟨σ3,H3,I3,n3⟩:=q3;obtain⟨m',hm,w3⟩:=hN σ3 H3 n3;exact⟨m',hm,σ3,H3,I3,w3⟩
  |cont =>
   obtain⟨σ3,H3,I3,n3⟩:=q3;obtain⟨m',hm,w3⟩:=hN σ3 H3 n3;exact⟨m',hm,σ3,H3,I3,w3⟩
  |brk=>exact q3|ret v=>exact q3
 |false =>
  rw[if_neg Ï];exact Ê3 ⟨σ1,H2,I2,q2⟩
end
structure It where
 go:Nat->Hp->Prop
 yld:Nat->Hp->V->Hp->Prop
 stop:Nat->Hp->Prop
def K30(X:Cx)(pins:List (Æ × Obj))(H:Hp)(b:Æ):Prop :=
 H b=none/\b≠X.env.locals/\b ∉ X.fs/\(b∈X.ex∨X.s₀.heap.objs.size<=b)/\(∀ x c,X.env.cells.lookup x=some c->c≠b)/\∀ p∈X.pn++pins,p.1≠b
theorem Inv.X90{X:Cx}{pins:List (Æ × Obj)}{σ:St}{H H':Hp}{s:Å}{b:Æ}(I:Inv X pins σ H s)(hb:s.heap.objs.size<=b)(hn:H' b=none):K30 X pins H' b:=by
 refine⟨hn,Ë3 (Ñ I.lt hb),I.o02 hb,.inr (ë I.sz hb),λx c e z=>?_,λp hp z=>?_⟩
 ·obtain⟨v,q⟩:=I.cell x c e;exact absurd (Ñ q.lt (by rw[z];exact hb)) (ó _)
 ·exact absurd (Ñ (Û (I.pin p hp).1) (by rw[z];exact hb)) (ó _)
structure Turn(P:Program)(w:World)(K:PySem.W.Frag)(tg:Expr)(J:It)(fp:List Addr)(it:Addr)(tn:Nat->Heap->Prop):Prop where
 mem:it∈fp
 obj:∀ i h,tn i h->∀ b∈fp,∃ o,h.get? b=some o/\∀ v,o.data≠.cell v
 keep:∀ i h h',tn i h->(∀ b∈fp,∀ o,h.get? b=some o->h'.get? b=some o)->tn i h'
 item:∀ (X:Cx),X.prog=P->X.w=w->X.K=K->X.calm=true->∀ (i:Nat) (pins:List (Addr × Obj)) (s:Shared) (σ:St) (H:Hp) (E:Value->Shared->Prop),Inv X pins σ H s->(∀ b∈fp,K30 X pins H b)->tn i s.heap->J.go i H ->
  wpAny (model P w) X.A (pyNext (.ref it)) (λr s1=>∃ u,r=some u /\
   wpAny (model P w) X.A (letOwnedTupleGo tg (.ref it) u) (λ_ s2=>∃ x H',Inv X pins σ H' s2/\RelV x u/\J.yld i H x H'/\tn (i + 1) s2.heap/\∀ b∈fp,H' b=none) E s1) E s
 done:∀ (X:Cx),X.prog=P->X.w=w->X.K=K->X.calm=true->∀ (i:Nat) (pins:List (Addr × Obj)) (s:Shared) (σ:St) (H:Hp) (E:Value->Shared->Prop),Inv X pins σ H s->(∀ b∈fp,K30 X pins H b)->tn i s.heap->J.stop i H ->
  wpAny (model P w) X.A (pyNext (.ref it)) (λr s1=>r=none/\Inv X pins σ H s1) E s
 self:∀ (A:Around) (i:Nat) (s:Shared) (Q:Value->Shared->Prop) (E:Value->Shared->Prop),tn i s.heap->Q (.ref it) s->wpAny (model P w) A (pyIter (.ref it)) Q E s
abbrev TI:=St->Hp->(It->Hp->Prop)->Prop
def PIE(X:Cx)(pins:List (Æ × Obj))(σ:St)(tg:Ê)(R:It->Hp->Prop)(itv:Ã)(s2:Å):Prop :=
 ∃ (it:Æ) (fp:List Æ) (tn:Nat->á->Prop) (J:It) (H':Hp),itv=.ref it/\Inv X pins σ H' s2/\Turn X.prog X.w X.K tg J fp it tn/\tn 0 s2.heap/\(∀ b∈fp,K30 X pins H' b)/\R J H'
def PI(X:Cx)(tg iter:Ê)(wi:TI):Prop :=
 ∀ (pins:List (Æ × Obj)) (s:Å) (σ:St) (H:Hp) (R:It->Hp->Prop),Inv X pins σ H s->wi σ H R ->
  Ð (Õ X.prog X.w) X.A (eval iter X.env) (λv s1=>Ð (Õ X.prog X.w) X.A (pyIter v) (PIE X pins σ tg R) X.xe s1) X.xe s
theorem A51{M:Model}{A:ï}{E:Ã->Å->Prop}{s:Å}{tg:Ê}{it:Æ}{u:Ã}{o:Obj}{n:String}{vs:Array Ã}{Q:Unit->Å->Prop}(ho:s.heap.get? it=some o)(hc:o.cls=.type n)(hd:o.data=.fields vs)
  (hn:["enumerate","zip","dict_itemiterator","dict_reverseitemiterator","odict_iterator","itertools.zip_longest","itertools.pairwise"].contains n=false) (hQ:Q () s):Ð M A (Ö1 tg (.ref it) u) Q E s:=by
 unfold Ö1;cases tg <;> first
  |exact Ç hQ
  |(cases u <;> first
    |exact Ç hQ
    |(refine Á (wpAny_load ho ?_)
      rw[hc,hd];show Ð M A (if (["enumerate","zip","dict_itemiterator","dict_reverseitemiterator","odict_iterator","itertools.zip_longest","itertools.pairwise"].contains n&&vs[0]? == some (Æ0 _))=true then _ else _) Q E s;rw[if_neg (by intro h;rw[hn,Ï6] at h;cases h)]
      exact Ç hQ))
def Itl(K:À)(a:Æ):It :=
 ⟨λi H=>∃ xs x,SqL K H a xs/\xs[i]?=some x,λi H x H'=>H'=H/\∀ xs,SqL K H a xs->xs[i]?=some x,λi H=>∃ xs,SqL K H a xs/\xs.length<=i⟩
def Itt(K:À)(a:Æ):It :=
 ⟨λi H=>∃ xs x,SqT K H a xs/\xs[i]?=some x,λi H x H'=>H'=H/\∀ xs,SqT K H a xs->xs[i]?=some x,λi H=>∃ xs,SqT K H a xs/\xs.length<=i⟩
def Itr(lo:Int)(n:Nat):It:=⟨λi _=>i < n,λi H x H'=>H'=H/\x=.int (lo + i),λi _=>n<=i⟩
theorem Y60{P:Ø}{w:ì}{K:À}{tg:Ê}(a it:Æ):Turn P w K tg (Itl K a) [it] it (λi h=>h.IsListIter it a i) where
 mem:=by simp
 obj:=λi h st b hb=>by
  have e:b=it:=by simpa using hb
  subst e;obtain⟨o,e,c,d⟩:=st;exact⟨o,e,λv z=>by rw[d] at z;cases z⟩
 keep:=λi h h' st k=>st.at λo e=>k it (by simp) o e
 item:=by
  intro X hP hw hK hc i pins s σ H E I hf st hg;subst hP hw hK;obtain⟨xs,x,hq,hx⟩:=hg;obtain⟨its,rv,p,hz⟩:=I.list hq;obtain⟨u,hu,ru⟩:=rv.get hx;obtain⟨f0,f1,f2,f3,f4,f5⟩:=hf it (by simp)
  refine wpAny_pyNext_list_item st p.isList (x:=u) (by simpa using hu) λh' st' sb=>?_
  have I1:Inv X pins σ H { s with heap:=h' }:=I.turned (t':=s.toks) (λb o hb e=>(sb.2 b hb).trans e) f0 f1 f3 f4 f5;obtain⟨o,e,c,d⟩:=id st';exact⟨u,rfl,A51 (s:={ s with heap:=h' }) e c d (-0) ⟨x,H,I1,ru,⟨rfl,λys hy=>by rw[I.O50 hy hq];exact hx⟩,st',λb hb=>(hf b hb).1⟩⟩
 done:=by
  intro X hP hw hK hc i pins s σ H E I hf st hg;subst hP hw hK;obtain⟨xs,hq,hx⟩:=hg;obtain⟨its,rv,p,hz⟩:=I.list hq;obtain⟨f0,f1,f2,f3,f4,f5⟩:=hf it (by simp)
  have hl:=rv.length;exact wpAny_pyNext_list_end (I.ok.hd hc) st p.isList (by simp;omega) λh' eb=>⟨rfl,I.turned (t':=s.toks) (λb o hb e=>eb b o hb e) f0 f1 f3 f4 f5⟩
 self:=λ_ _ _ _ _ st h=>wpAny_pyIter_listiter st h
theorem U40{P:Ø}{w:ì}{K:À}{tg:Ê}(a it:Æ):Turn P w K tg (Itt K a) [it] it (λi h=>h.IsTupleIter it a i) where
 mem:=by simp
 obj:=λi h st b hb=>by
  have e:b=it:=by simpa using hb
  subst e;obtain⟨o,e,c,d⟩:=st;exact⟨o,e,λv z=>by rw[d] at z;cases z⟩
 keep:=λi h h' st k=>st.at λo e=>k it (by simp) o e
 item:=by
  intro X hP hw hK hc i pins s σ H E I hf st hg;subst hP hw hK;obtain⟨xs,x,hq,hx⟩:=hg;obtain⟨its,rv,p,hz⟩:=I.tuple hq;obtain⟨u,hu,ru⟩:=rv.get hx;obtain⟨f0,f1,f2,f3,f4,f5⟩:=hf it (by simp)
  refine wpAny_pyNext_tuple_item st (show s.heap.IsTuple a its.toArray from p) (x:=u) (by simpa using hu) λh' st' sb=>?_
  have I1:Inv X pins σ H { s with heap:=h' }:=I.turned (t':=s.toks) (λb o hb e=>(sb.2 b hb).trans e) f0 f1 f3 f4 f5;obtain⟨o,e,c,d⟩:=id st';exact⟨u,rfl,A51 (s:={ s with heap:=h' }) e c d (-0) ⟨x,H,I1,ru,⟨rfl,λys hy=>by rw[I.F60 hy hq];exact hx⟩,st',λb hb=>(hf b hb).1⟩⟩
 done:=by
  intro X hP hw hK hc i pins s σ H E I hf st hg;subst hP hw hK;obtain⟨xs,hq,hx⟩:=hg;obtain⟨its,rv,p,hz⟩:=I.tuple hq;obtain⟨f0,f1,f2,f3,f4,f5⟩:=hf it (by simp)
  have hl:=rv.length;exact wpAny_pyNext_tuple_end (I.ok.hd hc) st (show s.heap.IsTuple a its.toArray from p) (by simp;omega) λh' eb=>⟨rfl,I.turned (t':=s.toks) (λb o hb e=>eb b o hb e) f0 f1 f3 f4 f5⟩
 self:=λ_ _ _ _ _ st h=>wpAny_pyIter_tupleiter st h
theorem U50{P:Ø}{w:ì}{K:À}{tg:Ê}(it:Æ)(lo:Int)(n:Nat):Turn P w K tg (Itr lo n) [it] it (λi h=>IsRangeIter h it (lo + (i:Nat) * 1) ((n:Int) - (i:Nat)) 1) where
 mem:=by simp
 obj:=λi h st b hb=>by
  have e:b=it:=by simpa using hb
  subst e;exact⟨_,st,λv z=>by
   have z':Data.fields _=Data.cell v:=z;cases z'⟩
 keep:=λi h h' st k=>k it (by simp) _ st
 item:=by
  intro X hP hw hK hc i pins s σ H E I hf st hg;subst hP hw hK;obtain⟨f0,f1,f2,f3,f4,f5⟩:=hf it (by simp)
  have W:=Walks.range (prog:=X.prog) (w:=X.w) (I.ok.hd hc) it lo 1 n;refine W.item i s _ _ hg st λv h' tk hv st' kk=>?_;obtain⟨t,rfl⟩:=hv;have I1:Inv X pins σ H { s with heap:=h',toks:=tk }:=I.turned (λb o hb e=>kk b o (by simpa using hb) e) f0 f1 f3 f4 f5
  refine⟨_,rfl,A51 (s:={ s with heap:=h',toks:=tk }) (n:="range_iterator") st' rfl rfl (-0) ⟨.int (lo + i),H,I1,⟨t,?_⟩,⟨rfl,rfl⟩,st',λb hb=>(hf b hb).1⟩⟩
  rw[Int.mul_one]
 done:=by
  intro X hP hw hK hc i pins s σ H E I hf st hg;subst hP hw hK;obtain⟨f0,f1,f2,f3,f4,f5⟩:=hf it (by simp)
  exact wpAny_pyNext_range_end (I.ok.hd hc) st (by have:n<=i:=hg;omega) λh' eb=>⟨rfl,I.turned (t':=s.toks) (λb o hb e=>eb b o hb e) f0 f1 f3 f4 f5⟩
 self:=λ_ _ _ _ _ st h=>wpAny_pyIter_rangeiter st h
section
variable {X:Cx}{tg:Ê}
def M01(K:À)(tl:TE):TI:=λσ H R=>tl σ H λx H1=>∃ a,x=.ref a/\(∃ xs,SqL K H1 a xs)/\R (Itl K a) H1
def p32(K:À)(tl:TE):TI:=λσ H R=>tl σ H λx H1=>∃ a,x=.ref a/\(∃ xs,SqT K H1 a xs)/\R (Itt K a) H1
theorem A90{l:Ê}{tl:TE}(hl:PE X l tl):PI X tg l (M01 X.K tl):=by
 intro pins s σ H R I h;refine thn (hl pins s σ H _ I h) λv s1 ⟨x,H1,I1,r1,q1⟩=>?_;obtain⟨a,e,⟨xs,hq⟩,q⟩:=q1;subst e;cases r1;obtain⟨its,rv,p,hz⟩:=I1.list hq;refine wpAny_pyIter_list p.isList ?_;refine⟨s1.heap.objs.size,[s1.heap.objs.size],_,_,H1,rfl,I1.kept (t':=s1.toks) λb o e=>Ä _ e,Y60 a _,⟨_,Ì _ rfl,rfl,rfl⟩,λb hb=>?_,q⟩;have e:b=s1.heap.objs.size:=by simpa using hb
 subst e;exact I1.X90 (È _) (I1.hok.fresh (È _))
theorem v61{l:Ê}{tl:TE}(hl:PE X l tl):PI X tg l (p32 X.K tl):=by
 intro pins s σ H R I h;refine thn (hl pins s σ H _ I h) λv s1 ⟨x,H1,I1,r1,q1⟩=>?_;obtain⟨a,e,⟨xs,hq⟩,q⟩:=q1;subst e;cases r1;obtain⟨its,rv,p,hz⟩:=I1.tuple hq;refine È2 (show s1.heap.IsTuple a its.toArray from p) ?_;refine⟨s1.heap.objs.size,[s1.heap.objs.size],_,_,H1,rfl,I1.kept (t':=s1.toks) λb o e=>Ä _ e,U40 a _,⟨_,Ì _ rfl,rfl,rfl⟩,λb hb=>?_,q⟩;have e:b=s1.heap.objs.size:=by simpa using hb
 subst e;exact I1.X90 (È _) (I1.hok.fresh (È _))
theorem O60{pins:List (Æ × Obj)}{σ:St}{H:Hp}{s:Å}{R:It->Hp->Prop}{E:Ã->Å->Prop}{lo hi:Int}{t u v:Tok}{tk:Nat}(I:Inv X pins σ H s)(h1:-(2 ^ 62)<=lo)(h2:lo < 2 ^ 62)(h3:-(2 ^ 62)<=hi)(h4:hi < 2 ^ 62)
  (q:R (Itr lo (hi - lo).toNat) H):Ð (Õ X.prog X.w) X.A (pyIter (.ref s.heap.objs.size)) (PIE X pins σ tg R) E { s with heap:=s.heap.push { cls:=.type "range",data:=.fields #[.int lo t,.int hi u,.int 1 v] },toks:=tk }:=by
 refine wpAny_pyIter_range (Ï9.new ..) (small_one h1 h2 h3 h4) ?_;have I1:Inv X pins σ H { s with heap:=s.heap.push { cls:=.type "range",data:=.fields #[.int lo t,.int hi u,.int 1 v] },toks:=tk }:=I.kept λb o e=>Ä _ e;refine⟨(s.heap.push { cls:=.type "range",data:=.fields #[.int lo t,.int hi u,.int 1 v] }).objs.size,[(s.heap.push { cls:=.type "range",data:=.fields #[.int lo t,.int hi u,.int 1 v] }).objs.size],_,_,H,rfl,
  I1.kept (t':=tk) λb o e=>Ä _ e,U50 _ lo (hi - lo).toNat,?_,λb hb=>?_,q⟩
 ·have e1:lo + ((0:Nat):Int) * 1=lo:=by simp
  have e2:(((hi - lo).toNat:Nat):Int) - ((0:Nat):Int)=Á3 lo hi 1:=by rw[rangeSize_one];split <;> omega
  show IsRangeIter _ _ (lo + ((0:Nat):Int) * 1) ((((hi - lo).toNat:Nat):Int) - ((0:Nat):Int)) 1;rw[e1,e2];exact Ì _ rfl
 ·have e:b=(s.heap.push { cls:=.type "range",data:=.fields #[.int lo t,.int hi u,.int 1 v] }).objs.size:=by simpa using hb
  subst e;exact I1.X90 (È _) (I1.hok.fresh (È _))
def b42(ta:TA):TI:=λσ H R=>ta σ H λvs H1=>∃ j:Int,vs=[.int j]/\-(2 ^ 62)<=j/\j < 2 ^ 62/\R (Itr 0 j.toNat) H1
def b52(ta:TA):TI:=λσ H R=>ta σ H λvs H1=>∃ i j:Int,vs=[.int i,.int j]/\(-(2 ^ 62)<=i/\i < 2 ^ 62/\-(2 ^ 62)<=j/\j < 2 ^ 62)/\R (Itr i (j - i).toNat) H1
theorem F70{a:Ê}{ta:TA}{p pos:Pos}(hg:Gl X "range")(hm:X.mg "range"=none)(ha:PA X [a] ta)(hs:í [a] X.env=[(false,eval a X.env)]:=by rfl):PI X tg (.Call (.Name "range" p) [a] [] pos) (b42 ta):=by
 intro pins s σ H R I h;refine Call_ (p00 I hg hm boot_range (ö (thn (ha pos pins s σ H _ I h) λus s1 ⟨vs,H1,I1,r1,q1⟩=>?_) hs rfl));obtain⟨j,e,q1,q2,q⟩:=q1;subst e;cases r1 with
 |cons r rr =>
  cases rr;obtain⟨t,rfl⟩:=r;exact call_range_1 (O60 I1 ∅ ∅ q1 q2 (by simpa using q))
theorem Y70{a b:Ê}{ta:TA}{p pos:Pos}(hg:Gl X "range")(hm:X.mg "range"=none)(ha:PA X [a,b] ta)(hs:í [a,b] X.env=[(false,eval a X.env),(false,eval b X.env)]:=by rfl)(hs2:í [b] X.env=[(false,eval b X.env)]:=by rfl) :
  PI X tg (.Call (.Name "range" p) [a,b] [] pos) (b52 ta):=by
 intro pins s σ H R I h;refine Call_ (p00 I hg hm boot_range (ö (thn (ha pos pins s σ H _ I h) λus s1 ⟨vs,H1,I1,r1,q1⟩=>?_) (by rw[hs,hs2]) (by rw[hs2];rfl)))
 obtain⟨i,j,e,⟨q1,q2,q3,q4⟩,q⟩:=q1;subst e;cases r1 with
 |cons r rr =>
  cases rr with
  |cons r' rr =>
   cases rr;obtain⟨t,rfl⟩:=r;obtain⟨t',rfl⟩:=r';exact call_range_2 (O60 I1 q1 q2 q3 q4 q)
def p42(wi:TI)(g:TG)(tb:TS):TS:=λD σ H=>wi σ H λJ H1=>∃ W:Nat->Nat->St->Hp->Prop,(∃ m,W 0 m σ H1)/\∀ i m σ H,W i m σ H ->
 (J.stop i H/\D.nx σ H)∨(J.go i H/\∃ N:St->Hp->Prop,(∀ σ' H',N σ' H'->∃ m',m' < m/\W (i + 1) m' σ' H')/\∀ x H',J.yld i H x H'->g x σ H' λσ2 H2=>tb { D with nx:=N,ct:=N,bk:=D.nx } σ2 H2)
def u50(fp:List Æ)(h:á):List (Æ × Obj):=fp.filterMap λb=>(h.get? b).map λo=>(b,o)
theorem j30{fp:List Æ}{h:á}{b:Æ}{o:Obj}(hb:b∈fp)(e:h.get? b=some o):(b,o)∈u50 fp h:=Ñ0.mpr ⟨b,hb,by rw[e];rfl⟩
theorem F80{fp:List Æ}{h:á}{p:Æ × Obj}(hp:p∈u50 fp h):p.1∈fp/\h.get? p.1=some p.2:=by
 obtain⟨b,hb,e⟩:=Ñ0.mp hp;cases q:h.get? b with
 |none=>rw[q] at e;cases e
 |some o =>
  rw[q] at e;have e':(b,o)=p:=ð e;subst e';exact⟨hb,q⟩
theorem Inv.pinned{pins:List (Æ × Obj)}{σ:St}{H:Hp}{s:Å}{fp:List Æ}(I:Inv X pins σ H s)(hf:∀ b∈fp,K30 X pins H b)(ho:∀ b∈fp,∃ o,s.heap.get? b=some o/\∀ v,o.data≠.cell v):Inv X (pins++u50 fp s.heap) σ H s :=
 I.u10 λp hp=>(Ç1.mp hp).elim (λz=>I.pin p (ä _ z)) λz=>by
  obtain⟨hb,e⟩:=F80 z;obtain⟨f0,f1,f2,_⟩:=hf p.1 hb;obtain⟨o,e',d⟩:=ho p.1 hb;rw[e] at e';cases e';exact⟨e,f0,f1,f2,d⟩
theorem Inv.B00{pins pl:List (Æ × Obj)}{σ:St}{H:Hp}{s:Å}(I:Inv X (pins++pl) σ H s):Inv X pins σ H s:=I.u10 λp hp=>I.pin p (ä _ (Å2 _ hp))
theorem v71{iter:Ê}{body:List À0}{wi:TI}{g:TG}{tb:TS}{pos:Pos}(hp:PassesOwn (Õ X.prog X.w) X.A X.env X.xe)(hc:X.calm=true)(hi:PI X tg iter wi)(hg:PG X tg g)(hb:PSs X body tb)
  (hs:∀ x,Ä1 iter X.env x=pure x:=by intro _;rfl):PS X (.For tg iter body [] pos) (p42 wi g tb):=by
 intro pins s σ H D I h;refine wpAny_For (thn (hi pins s σ H _ I h) λv s1 h1=>thn h1 λitv s2 h2=>?_) hs;obtain⟨it,fp,tn,J,H2,e,I2,T,st2,f2,W,⟨m0,w0⟩,turn⟩:=h2;subst e;have stat:∀ {H':Hp},(∀ b∈fp,H' b=none)->∀ b∈fp,K30 X pins H' b:=λhn b hb=>⟨hn b hb,(f2 b hb).2⟩;refine codeAny_forLoop_any (λn s'=>∃ i σ' H',Inv X pins σ' H' s'/\tn i s'.heap/\(∀ b∈fp,H' b=none)/\W i n σ' H') ?_ m0 ⟨0,σ,H2,I2,st2,λb hb=>(f2 b hb).1,w0⟩;rintro n s3 ⟨i,σ3,H3,I3,st3,fr3,w3⟩;rcases turn i n σ3 H3 w3 with ⟨stop,qn⟩ | ⟨go,N,hN,step⟩
 ·refine Å8 hp (thn (T.done X rfl rfl rfl hc i pins s3 σ3 H3 X.xe I3 (stat fr3) st3 stop) λr s4 ⟨hr,I4⟩=>?_);subst hr;exact Ê3 ⟨σ3,H3,I4,qn⟩
 ·refine Å8 hp (thn (T.item X rfl rfl rfl hc i pins s3 σ3 H3 X.xe I3 (stat fr3) st3 go) λr s4 ⟨u,hr,h4⟩=>?_);subst hr;refine Å8 hp (thn h4 λ_ s5 ⟨x,H5,I5,r5,y5,st5,fr5⟩=>?_);have I5':=I5.pinned (stat fr5) (T.obj _ _ st5);refine Å8 hp (thn (hg _ s5 σ3 H5 x u _ I5' r5 (step x H5 y5)) λ_ s6 ⟨σ6,H6,I6,q6⟩=>?_);refine Å8 hp (thn (hb _ s6 σ6 H6 _ I6 q6) λf s7 q7=>?_);have again:∀ {σ7:St}{H7:Hp},Inv X (pins++u50 fp s5.heap) σ7 H7 s7->N σ7 H7->∃ m,m < n/\∃ i σ' H',Inv X pins σ' H' s7/\tn i s7.heap/\(∀ b∈fp,H' b=none)/\W i m σ' H':=λ{σ7 H7} I7 n7=>by
   obtain⟨m',hm,w7⟩:=hN σ7 H7 n7;refine⟨m',hm,i + 1,σ7,H7,I7.B00,T.keep _ _ _ st5 λb hb o e=>(I7.pin (b,o) (ä _ (ä _ (j30 hb e)))).1,λb hb=>?_,w7⟩;obtain⟨o,e,d⟩:=T.obj _ _ st5 b hb;exact(I7.pin (b,o) (ä _ (ä _ (j30 hb e)))).2.1
  cases f with
  |next=>obtain⟨σ7,H7,I7,n7⟩:=q7;exact again I7 n7
  |cont=>obtain⟨σ7,H7,I7,n7⟩:=q7;exact again I7 n7
  |brk=>obtain⟨σ7,H7,I7,q7⟩:=q7;exact⟨σ7,H7,I7.B00,q7⟩
  |ret v=>obtain⟨x7,σ7,H7,I7,r7,q7⟩:=q7;exact⟨x7,σ7,H7,I7.B00,r7,q7⟩
end
abbrev R2:=V->V->Hp->VK->Prop
def OpR(X:Cx)(f:Ã->Ã->Sem Ã)(r:R2):Prop :=
 ∀ (pins:List (Æ × Obj)) (s:Å) (σ:St) (H:Hp) (x y:V) (v u:Ã) (Q:VK),Inv X pins σ H s->RelV x v->RelV y u->r x y H Q ->
  Ð (Õ X.prog X.w) X.A (f v u) (EP X pins σ Q) X.xe s
def UnR(X:Cx)(f:Ã->Sem Ã)(r:V->Hp->VK->Prop):Prop :=
 ∀ (pins:List (Æ × Obj)) (s:Å) (σ:St) (H:Hp) (x:V) (v:Ã) (Q:VK),Inv X pins σ H s->RelV x v->r x H Q ->
  Ð (Õ X.prog X.w) X.A (f v) (EP X pins σ Q) X.xe s
def g90(X:Cx)(f:Ã)(r:List V->Hp->VK->Prop):Prop :=
 ∀ (pins:List (Æ × Obj)) (s:Å) (σ:St) (H:Hp) (xs:List V) (us:List Ã) (Q:VK),Inv X pins σ H s->Vals xs us->r xs H Q ->
  Ð (Õ X.prog X.w) X.A (call f us) (EP X pins σ Q) X.xe s
def tOp(r:R2)(ta tb:TE):TE:=λσ H Q=>ta σ H λx H1=>tb σ H1 λy H2=>r x y H2 Q
def tUn(r:V->Hp->VK->Prop)(ta:TE):TE:=λσ H Q=>ta σ H λx H1=>r x H1 Q
def rI(C:Int->Int->Prop)(g:Int->Int->V):R2:=λx y H Q=>∃ i j,x=.int i/\y=.int j/\C i j/\Q (g i j) H
def rI0(g:Int->Int->V):R2:=λx y H Q=>∃ i j,x=.int i/\y=.int j/\Q (g i j) H
def rU(g:Int->V):V->Hp->VK->Prop:=λx H Q=>∃ i,x=.int i/\Q (g i) H
section
variable {X:Cx}{a b c:Ê}{ta tb tc:TE}{pos:Pos}
theorem b62(ha:PE X a ta)(hb:PE X b tb){pins:List (Æ × Obj)}{s:Å}{σ:St}{H:Hp}{R:V->V->Hp->Prop}(I:Inv X pins σ H s)
  (h:ta σ H λx H1=>tb σ H1 λy H2=>R x y H2) {Q:Ã->Å->Prop}{f:Ã->Ã->Sem Ã}
  (hf:∀ v u s2 x y H2,Inv X pins σ H2 s2->RelV x v->RelV y u->R x y H2->Ð (Õ X.prog X.w) X.A (f v u) Q X.xe s2) :
  Ð (Õ X.prog X.w) X.A (eval a X.env) (λv s₁=>Ð (Õ X.prog X.w) X.A (eval b X.env) (λu s₂=>Ð (Õ X.prog X.w) X.A (f v u) Q X.xe s₂) X.xe s₁) X.xe s:=by
 refine thn (ha pins s σ H _ I h) λv s1 ⟨x,H1,I1,r1,q1⟩=>?_;refine thn (hb pins s1 σ H1 _ I1 q1) λu s2 ⟨y,H2,I2,r2,q2⟩=>?_;exact hf v u s2 x y H2 I2 r1 r2 q2
theorem n71{op:Operator}{r:R2}(ho:OpR X (Â6 op) r)(ha:PE X a ta)(hb:PE X b tb):PE X (.BinOp a op b pos) (tOp r ta tb):=by
 intro pins s σ H Q I h;exact wpAny_BinOp (b62 ha hb I h λv u s2 x y H2 I2 rx ry q=>ho pins s2 σ H2 x y v u Q I2 rx ry q)
theorem b72{op:UnaryOp}{r:V->Hp->VK->Prop}(ho:UnR X (unaryOp op) r)(ha:PE X a ta):PE X (.UnaryOp op a pos) (tUn r ta):=by
 intro pins s σ H Q I h;exact UnaryOp_ (thn (ha pins s σ H _ I h) λv s1 ⟨x,H1,I1,r1,q1⟩=>ho pins s1 σ H1 x v Q I1 r1 q1)
theorem opI{f:Ã->Ã->Sem Ã}{C:Int->Int->Prop}{g:Int->Int->Int}
  (rule:∀ (i j:Int) (t u:Tok) (s:Å) (Q:Ã->Å->Prop) (E:Ã->Å->Prop),C i j->Q (.int (g i j) s.toks) { s with toks:=s.toks + 1 }->Ð (Õ X.prog X.w) X.A (f (.int i t) (.int j u)) Q E s) :
  OpR X f (rI C λi j=>.int (g i j)):=by
 intro pins s σ H x y v u Q I rx ry h;obtain⟨i,j,rfl,rfl,hc,q⟩:=h;obtain⟨t,rfl⟩:=rx;obtain⟨t',rfl⟩:=ry;exact rule i j t t' s _ _ hc ⟨.int (g i j),H,I.tok _,⟨_,rfl⟩,q⟩
theorem l62{f:Ã->Ã->Sem Ã}{g:Int->Int->Int}
  (rule:∀ (i j:Int) (t u:Tok) (s:Å) (Q:Ã->Å->Prop) (E:Ã->Å->Prop),Q (.int (g i j) s.toks) { s with toks:=s.toks + 1 }->Ð (Õ X.prog X.w) X.A (f (.int i t) (.int j u)) Q E s) :
  OpR X f (rI0 λi j=>.int (g i j)):=by
 intro pins s σ H x y v u Q I rx ry h;obtain⟨i,j,rfl,rfl,q⟩:=h;obtain⟨t,rfl⟩:=rx;obtain⟨t',rfl⟩:=ry;exact rule i j t t' s _ _ ⟨.int (g i j),H,I.tok _,⟨_,rfl⟩,q⟩
theorem b82{f:Ã->Ã->Sem Ã}{g:Int->Int->Bool}
  (rule:∀ (i j:Int) (t u:Tok) (s:Å) (Q:Ã->Å->Prop) (E:Ã->Å->Prop),Q (.bool (g i j)) s->Ð (Õ X.prog X.w) X.A (f (.int i t) (.int j u)) Q E s) :
  OpR X f (rI0 λi j=>.bl (g i j)):=by
 intro pins s σ H x y v u Q I rx ry h;obtain⟨i,j,rfl,rfl,q⟩:=h;obtain⟨t,rfl⟩:=rx;obtain⟨t',rfl⟩:=ry;exact rule i j t t' s _ _ ⟨.bl (g i j),H,I,rfl,q⟩
def p52(i j:Int):Prop:=0<=j/\j<=1000000/\i.natAbs < 2 ^ 64
theorem M11:OpR X (Â6 .Add) (rI0 λi j=>.int (i + j)):=l62 λ_ _ _ _ _ _ _ q=>add_int q
theorem M21:OpR X (Â6 .Sub) (rI0 λi j=>.int (i - j)):=l62 λ_ _ _ _ _ _ _ q=>sub_int q
theorem M31:OpR X (binaryOp .Mod) (rI (λ_ j=>0 < j) λi j=>.int (i % j)):=opI λi j _ _ _ _ _ hc q=>by
 have h1:(0:Int) < j:=hc;exact mod_int' ∅ (by rw[Int.fmod_eq_emod_of_nonneg i ∅];exact q)
theorem M41:OpR X (Â6 .Pow) (rI p52 λi j=>.int (i ^ j.toNat)):=opI λ_ _ _ _ _ _ _ hc q=>pow_int_small hc.1 hc.2.1 hc.2.2 q
theorem unI{f:Ã->Sem Ã}{g:Int->Int}
  (rule:∀ (i:Int) (t:Tok) (s:Å) (Q:Ã->Å->Prop) (E:Ã->Å->Prop),Q (.int (g i) s.toks) { s with toks:=s.toks + 1 }->Ð (Õ X.prog X.w) X.A (f (.int i t)) Q E s) :
  UnR X f (rU λi=>.int (g i)):=by
 intro pins s σ H x v Q I rx h;obtain⟨i,rfl,q⟩:=h;obtain⟨t,rfl⟩:=rx;exact rule i t s _ _ ⟨.int (g i),H,I.tok _,⟨_,rfl⟩,q⟩
theorem M51:UnR X (unaryOp .USub) (rU λi=>.int (-i)):=unI λ_ _ _ _ _ q=>neg_int q
theorem v81{pins:List (Æ × Obj)}{σ:St}{H:Hp}{s:Å}{Q:VK}{k k':Bool}(I:Inv X pins σ H s)(q:Q (.bl k) H)(e:k=k'):EP X pins σ Q (.bool k') s:=by
 subst e;exact⟨.bl k,H,I,rfl,q⟩
theorem b92:OpR X (ò .LtE) (rI0 λi j=>.bl (decide (i<=j))):=b82 λ_ _ _ _ _ _ _ q=>le_int q
theorem c02:OpR X (ò .Gt) (rI0 λi j=>.bl (decide (j < i))):=b82 λ_ _ _ _ _ _ _ q=>gt_int q
theorem c12:OpR X (ò .GtE) (rI0 λi j=>.bl (decide (j<=i))):=b82 λ_ _ _ _ _ _ _ q=>ge_int q
theorem M61:OpR X (ò .Is) (λx y H Q=>y=.non/\Q (.bl (decide (x=.non))) H):=by
 intro pins s σ H x y v u Q I rx ry h;obtain⟨rfl,q⟩:=h;cases ry;refine is_none_gen (v81 I q ?_);cases x <;> first
  |(cases rx;rfl)
  |(obtain⟨t,rfl⟩:=rx;rfl)
theorem Y80{op:CmpOp}{r:R2}(ho:OpR X (ò op) r)(ha:PE X a ta)(hb:PE X b tb)(hm:behindInMarks op b=false):PE X (.Compare a [op] [b] pos) (tOp r ta tb):=by
 intro pins s σ H Q I h;exact wpAny_Compare1 (b62 ha hb I h λv u s2 x y H2 I2 rx ry q=>ho pins s2 σ H2 x y v u Q I2 rx ry q) hm
def A61(t:TE):TT:=λσ H Q=>t σ H λx H'=>∃ k,x=.bl k/\Q k H'
theorem B10{op:CmpOp}{r:R2}(ho:OpR X (ò op) r)(ha:PE X a ta)(hb:PE X b tb)(hm:behindInMarks op b=false):PT X (.Compare a [op] [b] pos) (A61 (tOp r ta tb)):=by
 intro pins s σ H Q I h;refine wpAny_isTrue_Compare1 (thn (ha pins s σ H _ I h) λv s1 ⟨x,H1,I1,r1,q1⟩=>thn (hb pins s1 σ H1 _ I1 q1) λu s2 ⟨y,H2,I2,r2,q2⟩ =>
  thn (ho pins s2 σ H2 x y v u _ I2 r1 r2 q2) λc s3 ⟨z,H3,I3,r3,k,e,q3⟩=>?_) hm
 subst e;cases r3;exact Á1 ⟨H3,I3,q3⟩
def Y90(r r':R2)(ta tb tc:TE):TE:=λσ H Q=>ta σ H λx H1=>tb σ H1 λy H2=>r x y H2 λz H3=>∃ k,z=.bl k /\
 (if k=true then tc σ H3 λw' H4=>r' y w' H4 Q else Q (.bl false) H3)
theorem n81{op op':CmpOp}{r r':R2}(ho:OpR X (ò op) r)(ho':OpR X (ò op') r')(ha:PE X a ta)(hb:PE X b tb)(hc:PE X c tc)
  (hm:lastMarks [op,op'] [b,c]=false:=by with_unfolding_all rfl):PE X (.Compare a [op,op'] [b,c] pos) (Y90 r r' ta tb tc):=by
 intro pins s σ H Q I h;refine Compare_chain (thn (ha pins s σ H _ I h) λv s1 ⟨x,H1,I1,r1,q1⟩=>chain_link (thn (hb pins s1 σ H1 _ I1 q1) λu s2 ⟨y,H2,I2,r2,q2⟩ =>
  thn (ho pins s2 σ H2 x y v u _ I2 r1 r2 q2) λd s3 ⟨z,H3,I3,r3,k,e,q3⟩=>?_)) hm
 subst e;cases r3;refine Á1 ?_;cases k with
 |false=>exact ite_ff ⟨.bl false,H3,I3,rfl,q3⟩|true=>exact ite_tt (chain_last (thn (hc pins s3 σ H3 _ I3 q3) λw' s4 ⟨z',H4,I4,r4,q4⟩=>ho' pins s4 σ H4 y z' u w' Q I4 r2 r4 q4))
theorem n91{op op':CmpOp}{r r':R2}(ho:OpR X (ò op) r)(ho':OpR X (ò op') r')(ha:PE X a ta)(hb:PE X b tb)(hc:PE X c tc)
  (hm:lastMarks [op,op'] [b,c]=false:=by with_unfolding_all rfl):PT X (.Compare a [op,op'] [b,c] pos) (A61 (Y90 r r' ta tb tc)):=by
 intro pins s σ H Q I h;refine isTrue_chain (thn (ha pins s σ H _ I h) λv s1 ⟨x,H1,I1,r1,q1⟩=>test_link (thn (hb pins s1 σ H1 _ I1 q1) λu s2 ⟨y,H2,I2,r2,q2⟩ =>
  thn (ho pins s2 σ H2 x y v u _ I2 r1 r2 q2) λd s3 ⟨z,H3,I3,r3,k,e,q3⟩=>?_)) hm
 subst e;cases r3;refine Á1 ?_;cases k with
 |false =>
  obtain⟨k',e',q'⟩:=q3;cases e';exact ite_ff ⟨H3,I3,q'⟩
 |true =>
  refine ite_tt (test_last (thn (hc pins s3 σ H3 _ I3 q3) λw' s4 ⟨z',H4,I4,r4,q4⟩=>thn (ho' pins s4 σ H4 y z' u w' _ I4 r2 r4 q4) λd' s5 ⟨z2,H5,I5,r5,k2,e2,q5⟩=>?_));subst e2;cases r5;exact Á1 ⟨H5,I5,q5⟩
theorem O70:(sizeLine:Nat) < 2 ^ 63:=by rw[À9];decide
theorem vals1{x:V}{us:List Ã}(r:Vals [x] us):∃ u,us=[u]/\RelV x u:=by
 cases r with
 |cons r1 r2=>cases r2;exact⟨_,rfl,r1⟩
theorem vals2{x y:V}{us:List Ã}(r:Vals [x,y] us):∃ u w',us=[u,w']/\RelV x u/\RelV y w':=by
 cases r with
 |cons r1 r2 =>
  cases r2 with
  |cons r3 r4=>cases r4;exact⟨_,_,rfl,r1,r3⟩
theorem Z00(hc:X.calm=true):g90 X (.builtin "max") (λxs H Q=>∃ i j,xs=[.int i,.int j]/\Q (.int (if j > i then j else i)) H):=by
 intro pins s σ H xs us Q I r h;obtain⟨i,j,rfl,q⟩:=h;obtain⟨u,w',rfl,⟨t,rfl⟩,⟨t',rfl⟩⟩:=vals2 r;refine max_two_ints (I.ok.hd hc) λh' tk k=>⟨_,H,I.kept k,?_,q⟩;by_cases hj:j > i
 ·rw[if_pos hj,if_pos hj];exact⟨_,rfl⟩
 ·rw[if_neg hj,if_neg hj];exact⟨_,rfl⟩
theorem Z10(hc:X.calm=true):g90 X (.builtin "min") (λxs H Q=>∃ i j,xs=[.int i,.int j]/\Q (.int (if j < i then j else i)) H):=by
 intro pins s σ H xs us Q I r h;obtain⟨i,j,rfl,q⟩:=h;obtain⟨u,w',rfl,⟨t,rfl⟩,⟨t',rfl⟩⟩:=vals2 r;refine min_two_ints (I.ok.hd hc) λh' tk k=>⟨_,H,I.kept k,?_,q⟩;by_cases hj:j < i
 ·rw[if_pos hj,if_pos hj];exact⟨_,rfl⟩
 ·rw[if_neg hj,if_neg hj];exact⟨_,rfl⟩
theorem F90:g90 X (.type "int") (λxs H Q=>(∃ i,xs=[.int i]/\Q (.int i) H)∨∃ k,xs=[.bl k]/\Q (.int (if k then 1 else 0)) H):=by
 intro pins s σ H xs us Q I r h;rcases h with ⟨i,rfl,q⟩ | ⟨k,rfl,q⟩
 ·obtain⟨u,rfl,t,rfl⟩:=vals1 r;exact call_int_int ⟨.int i,H,I,⟨_,rfl⟩,q⟩
 ·obtain⟨u,rfl,r1⟩:=vals1 r;cases r1;exact call_int_bool ⟨.int (if k then 1 else 0),H,I.tok _,⟨_,rfl⟩,q⟩
end
structure l20(k:Nat)(A:Around):Prop where
 hd:A.handled=none
 dp:A.depth + 3 * k + 5 < recursionLimit
 un:A.units + 16 * k + 200 < cLine
theorem l20.mono{j k:Nat}{A:ï}(r:l20 k A)(h:j<=k):l20 j A:=⟨r.hd,by have:=r.dp;omega,by have:=r.un;omega⟩
theorem l20.deeper{k:Nat}{A:ï}(r:l20 (k + 1) A)(env:Env):l20 k (A.deeper env) :=
 ⟨r.hd,by have:=r.dp;show A.depth + 1 + 3 * k + 5 < _;omega,by have:=r.un;show A.units + 3 + 16 * k + 200 < _;omega⟩
theorem l20.depth{k:Nat}{A:ï}(r:l20 k A):A.depth < recursionLimit:=by have:=r.dp;omega
theorem l20.units{k:Nat}{A:ï}(r:l20 k A):A.units + 64 < cLine:=by have:=r.un;omega
def l72:TA:=λ_ H Q=>Q [] H
def M71(ta:TE)(tr:TA):TA:=λσ H Q=>ta σ H λx H1=>tr σ H1 λxs H2=>Q (x::xs) H2
section
variable {X:Cx}{e:Ê}{es:List Ê}{te:TE}{t:TA}{pos:Pos}
theorem h80:PA X [] l72:=λ_ _ _ _ H Q I h=>Ë8 ⟨[],H,I,.nil,h⟩
theorem c40(ha:PE X e te)(hr:PA X es t)(hs:í (e::es) X.env=(false,eval e X.env)::í es X.env:=by rfl):PA X (e::es) (M71 te t):=by
 intro pos pins s σ H Q I h;rw[hs];show Ð _ _ (spliced ((false,eval e X.env)::Î2 pos (í es X.env))) _ _ s;refine Ð8 (thn (ha pins s σ H _ I h) λu s1 ⟨x,H1,I1,r1,q1⟩=>?_);exact thn (hr pos pins s1 σ H1 _ I1 q1) λus s2 ⟨xs,H2,I2,r2,q2⟩=>⟨x::xs,H2,I2,.cons r1 r2,q2⟩
def p62(t:TA):TE:=λσ H Q=>t σ H λxs H1=>xs.length<=sizeLine/\∀ p,H1 p=none->Q (.ref p) (upd H1 p (.tup xs))
def l82(t:TA):TE:=λσ H Q=>t σ H λxs H1=>xs.length<=sizeLine/\∀ p,H1 p=none->Q (.ref p) (upd H1 p (.lst xs))
theorem v91{x1}(h:PA X es t):PE X (.Tuple es x1 pos) (p62 t):=by
 intro pins s σ H Q I hq;refine wpAny_Tuple_spliced (thn (h pos pins s σ H _ I hq) λus s1 ⟨xs,H1,I1,r,z,q⟩=>⟨by rw[← r.length];exact z,?_⟩)
 have hf:H1 s1.heap.objs.size=none:=I1.hok.fresh (È _);refine⟨.ref s1.heap.objs.size,upd H1 s1.heap.objs.size (.tup xs),I1.laid (t':=s1.toks) (λb u e=>Ä _ e) (È _) ?_,rfl,q _ hf⟩;exact⟨z,us,r,⟨_,Ì _ rfl,rfl,_,rfl⟩⟩
theorem O80(h:PA X es t):PE X (.List es pos) (l82 t):=by
 intro pins s σ H Q I hq;refine wpAny_List_spliced (thn (h pos pins s σ H _ I hq) λus s1 ⟨xs,H1,I1,r,z,q⟩=>⟨by rw[← r.length];exact z,?_⟩)
 have hf:H1 s1.heap.objs.size=none:=I1.hok.fresh (È _);refine⟨.ref s1.heap.objs.size,upd H1 s1.heap.objs.size (.lst xs),I1.laid (t':=s1.toks) (λb u e=>Ä _ e) (È _) ?_,rfl,q _ hf⟩;exact⟨z,us,0,r,Ì _ rfl⟩
end
abbrev Sp:=List V->Hp->VK->XK->Prop
abbrev CXT:=List Env->Hp->Å->XK->Ã->Å->Prop
structure w01(P:Program)(w:World)(K:PySem.W.Frag)(mg:Str->Option Value)(base:Heap)(A:Around)(outer:List Env)(s:Shared)(H:Hp):Prop where
 frames:A.frames=some outer
 mod:Mod K mg base
 bs:∀ b o,base.get? b=some o->s.heap.get? b=some o/\H b=none
 bsz:base.objs.size<=s.heap.objs.size
 U30:s.heap.FunFrames base outer
 frf:∀ b∈frs outer,H b=none
 hok:HOk P w H s.heap
 bare:AllBare s.gens
def CE(outer:List Env)(P:Ø)(w:ì)(H:Hp)(s:Å)(Q:VK)(u:Ã)(s':Å):Prop :=
 ∃ v H',s'.os=s.os/\Î0 s'.gens/\Un (frs outer) [] H H' s.heap s'.heap/\HOk P w H' s'.heap/\RelV v u/\Q v H'
def CR(CX:CXT)(outer:List Env)(P:Ø)(w:ì)(H:Hp)(s:Å)(Q:VK)(E:XK)(r:Result)(s':Å):Prop :=
 match r with
 |.ok (.ret u)=>CE outer P w H s Q u s'|.ok _=>False|.error e=>CX outer H s E e s'
structure y10(P:Program)(w:World)(K:PySem.W.Frag)(mg:Str->Option Value)(base:Heap)(CX:CXT)(k:Nat)(f:Addr)(fd:FuncData)(ps:List Str)(sp:Sp):Prop where
 len:∀ vs H Q E,sp vs H Q E->vs.length=ps.length
 run:∀ (A:Around) (outer:List Env) (s:Shared) (H:Hp) (args:Args) (us:List Value) (vs:List V) (Q:VK) (E:XK),l20 k A->w01 P w K mg base A outer s H->BindsTo s fd args (ps.zip us)->Vals vs us->sp vs H Q E ->
  codeAny (model P w) A (.call (.ref f) args) (CR CX outer P w H s Q E) s
theorem y10.mono{P:Ø}{w:ì}{K:À}{mg:Str->Option Ã}{base:á}{CX:CXT}{j k:Nat}{f:Æ}{fd:ø}{ps:List Str}{sp:Sp}(F:y10 P w K mg base CX j f fd ps sp)(h:j<=k) :
  y10 P w K mg base CX k f fd ps sp:=⟨F.len,λA outer s H args us vs Q E hr=>F.run A outer s H args us vs Q E (hr.mono h)⟩
section
variable {X:Cx}{pins:List (Æ × Obj)}{σ:St}{H:Hp}{s s':Å}
theorem Inv.M81(I:Inv X pins σ H s):w01 X.prog X.w X.K X.mg X.base X.A X.stack s H :=
 ⟨I.ok.frames,I.ok.mod,I.bs,ë I.ok.bsz I.sz,I.stack,I.q50,I.hok,I.bare⟩
theorem Inv.after{Q:VK}{u:Ã}(I:Inv X pins σ H s)(h:CE X.stack X.prog X.w H s Q u s'):EP X pins σ Q u s':=by
 obtain⟨v,H',os,bare,un,hok,r,q⟩:=h;obtain⟨hh,g,d,t,os'⟩:=s';obtain rfl:os'=s.os:=os;exact⟨v,H',I.call (h':=hh) (g':=g) (d':=d) (t':=t) (ch:=[]) un hok bare (λb z=>absurd z (by simp)),r,q⟩
end
def c22(sp:Sp)(dvs:List V)(E:XK)(t:TA):TE:=λσ H Q=>t σ H λvs H1=>sp (vs++dvs) H1 Q E
def Binds(K:À)(fd:ø)(ps:List Str)(ds:List Ã):Prop :=
 ∀ (s:Å) (us:List Ã),K.In s.heap->(us++ds).length=ps.length->BindsTo s fd ⟨us,[]⟩ (ps.zip (us++ds))
theorem Binds.all{K:À}{fd:ø}{ps:List Str}(h:∀ us:List Ã,us.length=ps.length->bindArgs fd ⟨us,[]⟩=pure (ps.zip us)):Binds K fd ps []:=λs us _ hl=>by
 rw[Ä0] at hl ⊢;exact .of_eq (h us hl)
def Passes(CX:CXT)(X:Cx)(E:XK):Prop:=∀ (pins:List (Æ × Obj)) (σ:St) (H:Hp) (s:Å) (e:Ã) (s':Å),Inv X pins σ H s->CX X.stack H s E e s'->X.xe e s'
section
variable {X:Cx}{CX:CXT}{k:Nat}{f C:Æ}{fd:ø}{ps:List Str}{sp:Sp}{dvs:List V}{ds:List Ã}{E:XK}{x m:Str}{p pos apos:Pos}{e o:Ê}{es:List Ê}{ta:TE}{t:TA}
theorem M91{pins:List (Æ × Obj)}{σ:St}{H:Hp}{s:Å}{Q:VK}{us:List Ã}{vs:List V}(F:y10 X.prog X.w X.K X.mg X.base CX k f fd ps sp)(hr:l20 k X.A)(hb:Binds X.K fd ps ds)(hd:Vals dvs ds)(hx:Passes CX X E)
  (I:Inv X pins σ H s) (r:Vals vs us) (h:sp (vs++dvs) H Q E):Ð (Õ X.prog X.w) X.A (call (.ref f) us) (EP X pins σ Q) X.xe s:=by
 have r2:Vals (vs++dvs) (us++ds):=r.append hd;have hl:(us++ds).length=ps.length:=by rw[← r2.length];exact F.len _ _ _ _ h
 refine Ì5 (Å6 (F.run X.A X.stack s H ⟨us,[]⟩ (us++ds) (vs++dvs) Q E hr I.M81 (hb s us I.kIn hl) r2 h) λr s' hq=>?_);cases r with
 |error e=>exact hx pins σ H s e s' I hq
 |ok fl =>
  cases fl with
  |ret u=>exact I.after hq|next=>exact è hq
  |brk=>exact è hq|cont=>exact è hq
theorem Z20(F:y10 X.prog X.w X.K X.mg X.base CX k f fd ps sp)(hr:l20 k X.A)(hg:Gl X x)(hm:X.mg x=some (.ref f))(hk:Ç7 X.K (.ref f)=true)(hb:Binds X.K fd ps ds)(hd:Vals dvs ds)(hx:Passes CX X E)
  (ha:PA X (e::es) t) (hdb:(x == ("__debug__":Str))=false:=by decide) (he:í (e::es) X.env=(false,eval e X.env)::í es X.env:=by rfl) (hpl:(Î2 pos (í es X.env)).any (·.1)=false:=by rfl) :
  PE X (.Call (.Name x p) (e::es) [] pos) (c22 sp dvs E t):=by
 intro pins s σ H Q I h;refine Ã4 (u30 I hg hm ?_ hdb);refine callWith_K (h₀:=X.base) I.ok.mod.kin hk (thn (ha pos pins s σ H _ I h) λus s1 ⟨vs,H1,I1,r,q⟩=>⟨I1.kIn,?_⟩) he hpl;exact M91 F hr hb hd hx I1 r q
end
structure h00(N P:List Str)(sc:Scope):Prop where
 kind:sc.kind=.function
 co:sc.isCoroutine=false
 gen:sc.isGenerator=false
 nd:N.Nodup
 pre:N.take P.length=P
 par:∀ x∈P,sc.names.lookup x=some .local∨sc.names.lookup x=some .cell
 nofree:∀ y∈sc.names,y.2≠.free
theorem G00{kindOf:Str->Option Ç9}{x:Str}:∀ {binds:List (Str × Ã)}{m:Str->Option Ã},(∀ v,(x,v) ∉ binds)->bindL kindOf binds m x=m x
 |[],_,_=>rfl
 |(n,v)::r,m,h=>by
  unfold bindL;rw[G00 λw hw=>h w (Î _ hw)];split
  ·have:x≠n:=by rintro rfl;exact h v Ó
   simp[this]
  ·rfl
theorem G10{kindOf:Str->Option Ç9}{x:Str}:∀ {binds:List (Str × Ã)}{m:Str->Option Ã},(∀ v,(x,v) ∉ binds)->bindC kindOf binds m x=m x
 |[],_,_=>rfl
 |(n,v)::r,m,h=>by
  unfold bindC;rw[G10 λw hw=>h w (Î _ hw)];split
  ·rfl
  ·have:x≠n:=by rintro rfl;exact h v Ó
   simp[this]
theorem G20{kindOf:Str->Option Ç9}{x:Str}{v:Ã}:∀ {P:List Str}{vs:List Ã}{i:Nat}{m:Str->Option Ã},P.Nodup->P[i]?=some x->vs[i]?=some v->kindOf x=some .local ->
  bindL kindOf (P.zip vs) m x=some v
 |[],_,_,_,_,h,_,_=>by simp at h|_::_,[],_,_,_,_,h,_=>by simp at h
 |p::P,w::vs,0,m,nd,h1,h2,hk=>by
  simp at h1 h2;subst h1;subst h2;show bindL kindOf ((p,w)::P.zip vs) m p=_;unfold bindL;rw[G00 λv hv=>(Î4.mp nd).1 (of_mem_zip hv).1,if_pos hk];simp
 |p::P,w::vs,i + 1,m,nd,h1,h2,hk=>by
  show bindL kindOf ((p,w)::P.zip vs) m x=_;unfold bindL;exact G20 (i:=i) (Î4.mp nd).2 (by simpa using h1) (by simpa using h2) hk
theorem G30{kindOf:Str->Option Ç9}{x:Str}{v:Ã}:∀ {P:List Str}{vs:List Ã}{i:Nat}{m:Str->Option Ã},P.Nodup->P[i]?=some x->vs[i]?=some v->kindOf x≠some .local ->
  bindC kindOf (P.zip vs) m x=some v
 |[],_,_,_,_,h,_,_=>by simp at h|_::_,[],_,_,_,_,h,_=>by simp at h
 |p::P,w::vs,0,m,nd,h1,h2,hk=>by
  simp at h1 h2;subst h1;subst h2;show bindC kindOf ((p,w)::P.zip vs) m p=_;unfold bindC;rw[G10 λv hv=>(Î4.mp nd).1 (of_mem_zip hv).1,if_neg hk];simp
 |p::P,w::vs,i + 1,m,nd,h1,h2,hk=>by
  show bindC kindOf ((p,w)::P.zip vs) m x=_;unfold bindC;exact G30 (i:=i) (Î4.mp nd).2 (by simpa using h1) (by simpa using h2) hk
def start(N:List Str)(vs:List V):St:=vs.map some++ã (N.length - vs.length) none
def x90(CX:CXT)(P:Ø)(w:ì)(K:À)(mg:Str->Option Ã)(base:á)(N:List Str)(qual:Str)(scope:à)(f:Æ)(cd:Ã)(A:ï)(outer:List Env)(s:Å)(H:Hp)(E:XK):Cx where
 prog:=P
 w:=w
 K:=K
 mg:=mg
 base:=base
 A:=A.deeper (Ê6 qual scope s.heap.objs.size f cd)
 N:=N
 s₀:=s
 H₀:=H
 env:=Ê6 qual scope s.heap.objs.size f cd
 outer:=outer
 stack:=Ê6 qual scope s.heap.objs.size f cd::outer
 ex:=[]
 calm:=true
 fn:=λ_=>true
 pn:=[]
 xe:=λe s'=>Ð (Õ P w) (A.deeper (Ê6 qual scope s.heap.objs.size f cd)) (leaving (Ê6 qual scope s.heap.objs.size f cd) e) (λ_ s''=>CX outer H s E e s'') (λe' s''=>CX outer H s E e' s'') s'
theorem O90{sc:à}{n:Nat}{x:Str}(h:sc.names.lookup x=some .cell):∃ c,(cellsFrom n sc.names []).lookup x=some c:=by
 have q:=cellsFrom_some sc.names n [] (.inl h);exact Ô8.mp q
theorem G40{CX:CXT}{P:Ø}{w:ì}{K:À}{mg:Str->Option Ã}{base:á}{N ps:List Str}{qual:Str}{scope:à}{f:Æ}{cd:Ã}{A:ï}{outer:List Env}{s s1:Å}{H:Hp}{E:XK}{us:List Ã}{vs:List V}
  (S:h00 N ps scope) (hd:A.handled=none) (e0:w01 P w K mg base A outer s H) (hl:vs.length=ps.length) (r:Vals vs us)
  (x:InCallC s s.heap.objs.size (bindL (Ê6 qual scope s.heap.objs.size f cd).kindOf (ps.zip us) λ_=>none) (cellsFrom (s.heap.objs.size + 1) scope.names []) (bindC (Ê6 qual scope s.heap.objs.size f cd).kindOf (ps.zip us) λ_=>none) s1) :
  Inv (x90 CX P w K mg base N qual scope f cd A outer s H E) [] (start N vs) H s1:=by
 have hpl:ps.length<=N.length:=by have:=congrArg List.length S.pre;rw[É2] at this;omega
 obtain⟨h1,tk,rfl,hk⟩:=x.done;have noA:∀ b:Æ,b ∉ (x90 CX P w K mg base N qual scope f cd A outer s H E).ex:=λb z=>absurd (show b∈([]:List Æ) from z) (by simp)
 refine⟨⟨e0.mod,S.kind,rfl,rfl,È _,λy z c h1 h2=>?_,λy hy=>?_,λy c _ h=>?_,λ_=>hd,Ö6 e0.frames,.inr ⟨rfl,rfl⟩,λb z=>absurd z (noA b),e0.bs,e0.bsz,λb _ _=>noA b,λb z=>absurd z (noA b),e0.U30,e0.frf⟩,
  rfl,e0.bare,Un.kept hk,⟨_,x.toInCall.ns,λi y v h1 h2 h3=>?_⟩,λy c h=>⟨_,x.cell y c h⟩,e0.hok.fresh (È _),λy c h=>?_,λp hp=>absurd (show p∈([]:List (Æ × Obj)) from hp) (by simp),e0.hok.kept hk,?_⟩
 ·exact name_of_addr x.apart (À2 h1) (À2 h2)
 ·have hy:scope.names.lookup y=some .cell∨scope.names.lookup y=some .free:=hy;rcases hy with hy | hy
  ·exact O90 hy
  ·exact absurd rfl (S.nofree _ (À2 hy))
 ·exact Ê0 (x.above y c (À2 h))
 ·have hi:i < vs.length:=by
   unfold start at h2;by_cases hi:i < vs.length
   ·exact hi
   ·rw[Â7 (by simpa using hi)] at h2
    rw[Í4] at h2;split at h2 <;> cases h2
  have ha:vs[i]?=some v:=by
   unfold start at h2;rw[Ë6 (by simpa using hi),Ù] at h2
   cases e:vs[i]? with
   |none=>rw[e] at h2;cases h2
   |some a=>rw[e] at h2;cases h2;rfl
  obtain⟨u,hu,rv⟩:=r.get ha;have hp:ps[i]?=some y:=by
   rw[← S.pre,List.getElem?_take_of_lt ∅];exact h1
  have ndP:ps.Nodup:=by rw[← S.pre];exact S.nd.sublist (List.take_sublist _ _)
  refine⟨u,rv,?_⟩;rcases S.par y (Ü hp) with k | k
  ·exact .inl ⟨k,G20 ndP hp hu k⟩
  ·obtain⟨c,e⟩:=O90 (n:=s.heap.objs.size + 1) k;refine .inr ⟨.inl k,c,e,?_⟩;have q:=x.cell y c e;rw[G30 ndP hp hu (by show scope.names.lookup y≠_;rw[k];decide)] at q
   exact q
 ·exact e0.hok.fresh (Ê0 (x.above y c (À2 h)))
 ·unfold start;show _=N.length;rw[ÿ,É,Ö9];omega
theorem c32{CX:CXT}{P:Ø}{w:ì}{K:À}{mg:Str->Option Ã}{base:á}{k:Nat}{f:Æ}{name qual:Str}{params:Ç2}{body:List À0}{scope:à}{dV kV doc pm cdv ct oc:Ã}{an od:Option Æ}
  {osl:Array (Option Ã)}{N ps:List Str}{sp:Sp} (lk:K.lookup f=some ⟨oc,od,.func (fnOf name qual params body scope dV kV doc pm an cdv ct),osl⟩) (hcd:PySem.W.codeIn K cdv qual=true) (S:h00 N ps scope)
  (len:∀ vs H Q E,sp vs H Q E->vs.length=ps.length)
  (hbody:∀ (A:ï) (outer:List Env) (s:Å) (H:Hp) (vs:List V) (Q:VK) (E:XK),l20 k (A.deeper (Ê6 qual scope s.heap.objs.size f cdv))->sp vs H Q E ->
   ∃ t,PSs (x90 CX P w K mg base N qual scope f cdv A outer s H E) body t/\t { nx:=λ_ H'=>Q .non H',rt:=Q } (start N vs) H) :
  y10 P w K mg base CX (k + 1) f (fnOf name qual params body scope dV kV doc pm an cdv ct) ps sp:=by
 refine⟨len,λA outer s H args us vs Q E hr e0 hb r hsp=>?_⟩;have hl:=len _ _ _ _ hsp;have KX:K.In s.heap:=e0.mod.kin.keeps λb o e=>(e0.bs b o e).1;have lim:s.heap.NoLimit:=e0.mod.nolimit.keeps λb o e=>(e0.bs b o e).1;have hkind:∀ y∈ps.zip us,scope.names.lookup y.1=some .local∨(scope.names.lookup y.1=some .cell/\((cellsFrom (s.heap.objs.size + 1) scope.names []).lookup y.1).isSome=true):=λ⟨n,v⟩ hy=>by
  rcases S.par n (of_mem_zip hy).1 with q | q
  ·exact .inl q
  ·exact .inr ⟨q,cellsFrom_some _ _ _ (.inl q)⟩
 refine codeAny_call_function hr.depth (KX _ _ lk) rfl S.co S.gen rfl (codeRec_of KX hcd) (hb _ _ _ _ ?_);refine Ö7 S.kind hkind λenv he s1 x=>?_;subst he;refine⟨lim.keeps x.toInCall.keep,codeAny_func ?_⟩;obtain⟨t,ht,hq⟩:=hbody A outer s H vs Q E (hr.deeper _) hsp;have I:Inv (x90 CX P w K mg base N qual scope f cdv A outer s H E) [] (start N vs) H s1:=G40 S hr.hd e0 hl r x;refine Á2 (ht [] s1 (start N vs) H _ I hq) (λfl s' hs=>?_) λe s' hs=>hs;have fin:∀ {σ':St}{H':Hp}{v:V}{u:Ã},Inv (x90 CX P w K mg base N qual scope f cdv A outer s H E) [] σ' H' s'->RelV v u->Q v H'->CE outer P w H s Q u s' :=
  λ{σ' H' v u} J rv q=>⟨v,H',J.os,J.bare,J.base,J.hok,rv,q⟩
 cases fl with
 |ret u =>
  obtain⟨v,σ',H',J,rv,q⟩:=hs;exact fin J rv q
 |next =>
  obtain⟨σ',H',J,q⟩:=hs;exact fin (v:=V.non) (u:=å) J rfl q
 |brk =>
  obtain⟨_,_,_,q⟩:=hs;exact è q
 |cont =>
  obtain⟨_,_,_,q⟩:=hs;exact è q
section
variable {X:Cx}{x:Str}{p pos:Pos}{e:Ê}{es:List Ê}{t:TA}{id T:String}{r:List V->Hp->VK->Prop}
def tCB(r:List V->Hp->VK->Prop)(t:TA):TE:=λσ H Q=>t σ H λvs H1=>r vs H1 Q
theorem t60(hc:g90 X (.builtin id) r)(hg:Gl X x)(hm:X.mg x=none)(hv:é x=some (.builtin id))(ha:PA X (e::es) t)(hn:x≠"__name__":=by decide)(hdb:(x == ("__debug__":Str))=false:=by decide)
  (he:í (e::es) X.env=(false,eval e X.env)::í es X.env:=by rfl) (hpl:(Î2 pos (í es X.env)).any (·.1)=false:=by rfl):PE X (.Call (.Name x p) (e::es) [] pos) (tCB r t):=by
 intro pins s σ H Q I h;refine Ã4 (p00 I hg hm hv ?_ hn hdb);exact PyProof.Rows.callWith_builtin1 (thn (ha pos pins s σ H _ I h) λus s1 ⟨vs,H1,I1,r1,q1⟩=>hc pins s1 σ H1 vs us Q I1 r1 q1) he hpl
theorem Z30(hc:g90 X (.type T) r)(hg:Gl X x)(hm:X.mg x=none)(hv:é x=some (.type T))(ha:PA X (e::es) t)(hn:x≠"__name__":=by decide)(hdb:(x == ("__debug__":Str))=false:=by decide)
  (he:í (e::es) X.env=(false,eval e X.env)::í es X.env:=by rfl) (hpl:(Î2 pos (í es X.env)).any (·.1)=false:=by rfl):PE X (.Call (.Name x p) (e::es) [] pos) (tCB r t):=by
 intro pins s σ H Q I h;refine Ã4 (p00 I hg hm hv ?_ hn hdb);exact ö (thn (ha pos pins s σ H _ I h) λus s1 ⟨vs,H1,I1,r1,q1⟩=>hc pins s1 σ H1 vs us Q I1 r1 q1) he hpl
end
end L2
namespace HT
open PySem PyProof.Rows
theorem o01(A:ï)(s:Å)(a:Int)(t:Tok)(c:Int)(u:Tok):∃ e,Ð7 A s (.int a t) (.int c u) e/\(e=true↔a=c) :=
 ⟨(a == c),Ð7.int_int a t c u,by simp⟩
theorem P00(A:ï)(s:Å)(a:Int)(t:Tok)(c:Int)(u:Tok)(prog:Ø)(w:ì)(E:Ã->Å->Prop)(Q:Ã->Å->Prop)(h:Q (.bool (decide (a < c))) s) :
  Ð (Õ prog w) A (richCompare .Lt (.int a t) (.int c u)) Q E s :=
 (lt_int h:Ð (Õ prog w) A (ò .Lt (.int a t) (.int c u)) Q E s)
section
variable {prog:Ø}{w:ì}{A:ï}{E:Ã->Å->Prop}{s:Å}
theorem A71{t b:Æ}{vs ws:List Ã}{Q:Ã->Å->Prop}(ht:Í8 s.heap t vs.toArray)(hb:Í8 s.heap b ws.toArray)(hv:vs≠[])
  (h1:ws=[]->Q (.ref t) s) (h2:ws≠[]->Q (.ref s.heap.objs.size) { s with heap:=s.heap.push { cls:=.type "tuple",data:=.seq (vs++ws).toArray } })
  (hsz:vs.length + ws.length<=sizeLine):Ð (Õ prog w) A (Â6 .Add (.ref t) (.ref b)) Q E s:=by
 obtain⟨⟨cls,dd,data,sl⟩,ho,hc,n,hd⟩:=id ht;obtain⟨⟨cls2,dd2,data2,sl2⟩,ho2,hc2,n2,hd2⟩:=id hb;simp only at hc hd hc2 hd2;subst hc hd hc2 hd2;have e:vs.toArray++ws.toArray=(vs++ws).toArray:=by simp
 by_cases hw:ws=[]
 ·exact concat_meets ⟨_,ho,rfl⟩ ⟨_,ho2,rfl⟩ Õ1 seq_tuple_add Ì9 Ì3 (Ê9 _ _)
   (tuple_addW1 t b vs.toArray ws.toArray n n2 dd dd2 sl sl2 (by simpa using hv) (by simp[hw])) ⟨ho,ho2,h1 hw⟩
 ·refine concat_meets ⟨_,ho,rfl⟩ ⟨_,ho2,rfl⟩ Õ1 seq_tuple_add Ì9 Ì3 (Ê9 _ _)
   (tuple_addW2 t b vs.toArray ws.toArray n n2 dd dd2 sl sl2 (by simpa using hv) (by simpa using hw) (by rw[Ô,Ô];exact hsz)) ⟨ho,ho2,?_⟩
  rw[e];exact h2 hw
def sIx(n d:Nat):Option Int->Nat
 |none=>d|some v=>if v < 0 then(v + (n:Int)).toNat else min v.toNat n
theorem Z40(n d k:Nat):sIx n d (some (k:Int))=min k n:=by
 show(if (k:Int) < 0 then((k:Int) + (n:Int)).toNat else min (k:Int).toNat n)=min k n;rw[if_neg ∅,Ã8]
theorem N01(n d:Nat)(hd:d<=n)(o:Option Int):sIx n d o<=n:=by
 cases o with
 |none=>exact hd
 |some v =>
  show(if v < 0 then(v + (n:Int)).toNat else min v.toNat n)<=n;by_cases hv:v < 0
  ·rw[if_pos hv];omega
  ·rw[if_neg hv];exact Nat.min_le_right _ _
theorem Z50(v:Int)(n d:Nat):(if v < 0 then max (v + (n:Int)) 0 else min v (n:Int))=((sIx n d (some v):Nat):Int):=by
 show(if v < 0 then max (v + (n:Int)) 0 else min v (n:Int))=(((if v < 0 then(v + (n:Int)).toNat else min v.toNat n):Nat):Int);by_cases hv:v < 0
 ·simp only[if_pos hv];omega
 ·simp only[if_neg hv];omega
theorem U60(lo hi:Option Int)(n:Nat):sliceAdjust lo hi 1 (n:Int)=(((sIx n 0 lo:Nat):Int),((sIx n n hi:Nat):Int)):=by
 have h1:¬ ((1:Int) < 0):=by omega
 unfold sliceAdjust;simp only[h1,if_false];refine Prod.ext ?_ ?_
 ·cases lo with
  |none=>rfl|some v=>exact Z50 v n 0
 ·cases hi with
  |none=>rfl|some v=>exact Z50 v n n
theorem U70(i j:Nat):Ð0 (i:Int) (j:Int) 1=j - i:=by
 unfold Ð0;have h1:(1:Int) > 0:=by omega
 simp only[h1,if_true,Int.ediv_one];split <;> omega
theorem y60{v:Ã}{o:Option Int}{Q:Option Int->Å->Prop}(p:Ñ7 v o)(h:Q o s):Ð (Õ prog w) A (Â4.Slice.slicePartIndex v) Q E s:=by
 cases p with
 |none=>exact slicePart_none h|int i t=>exact slicePart_int h
theorem k80{sl:Æ}{vl vu:Ã}{lo hi:Option Int}{n:Nat}{Q:Int × Int × Nat->Å->Prop}(hs:s.heap.IsSliceOf sl vl vu .none)(pl:Ñ7 vl lo)(pu:Ñ7 vu hi)
  (h:Q (((sIx n 0 lo:Nat):Int),1,sIx n n hi - sIx n 0 lo) s):Ð (Õ prog w) A (sliceApplied (.ref sl) (pure (n:Int))) Q E s:=by
 obtain⟨os,hos,hcs,hds⟩:=id hs;unfold sliceApplied Â4.Slice.sliceFields;refine Á (Á (À8 hos hds (x:=vl) rfl (Á (À8 hos hds (x:=vu) rfl (Á (À8 hos hds (x:=.none) rfl (Ç ?_)))))));refine Á (slicePart_none ?_);show Ð _ _ (if ((1:Int) == 0)=true then _ else _) _ _ s;rw[if_neg (-0)]
 refine Á (y60 pl (Á (y60 pu (Á (Ç ?_)))));show Ð _ _ (match sliceAdjust lo hi 1 (n:Int) with | (lo,hi)=>pure (lo,(1:Int),Ð0 lo hi 1)) _ _ s
 rw[U60 lo hi n];show Ð _ _ (pure (((sIx n 0 lo:Nat):Int),(1:Int),Ð0 ((sIx n 0 lo:Nat):Int) ((sIx n n hi:Nat):Int) 1)) _ _ s;rw[U70];exact Ç h
theorem o21(xs:Array Ã)(i k:Nat):((ñ k).filterMap λ(m:Nat)=>xs[((i:Int) + (m:Int) * 1).toNat]?).toArray=((xs.toList.drop i).take k).toArray:=by
 have e:(λ(m:Nat)=>xs[((i:Int) + (m:Int) * 1).toNat]?)=λm=>xs[i + m]?:=by
  funext m
  have:((i:Int) + (m:Int) * 1).toNat=i + m:=by omega
  rw[this]
 rw[e];have:=pick_run xs i k;rw[List.filterMap_map] at this;have e2:((λx=>xs[x]?) ∘ λx=>i + x)=λm=>xs[i + m]?:=rfl;rw[e2] at this;rw[this]
theorem q60{t sl:Æ}{items:Array Ã}{vl vu:Ã}{lo hi:Option Int}{Q:Ã->Å->Prop}(ht:Í8 s.heap t items)(hs:s.heap.IsSliceOf sl vl vu .none)(pl:Ñ7 vl lo)(pu:Ñ7 vu hi)
  (hw:¬ (sIx items.size 0 lo=0/\sIx items.size items.size hi=items.size))
  (h:Q (.ref s.heap.objs.size) { s with heap:=s.heap.push { cls:=.type "tuple",data:=.seq ((items.toList.drop (sIx items.size 0 lo)).take (sIx items.size items.size hi - sIx items.size 0 lo)).toArray } })
  (hsz:items.size<=sizeLine):Ð (Õ prog w) A (Ñ8 (.ref t) (.ref sl)) Q E s:=by
 have htake:sizeOk (.seq ((items.toList.drop (sIx items.size 0 lo)).take (sIx items.size items.size hi - sIx items.size 0 lo)).toArray):=by
  show((items.toList.drop (sIx items.size 0 lo)).take (sIx items.size items.size hi - sIx items.size 0 lo)).toArray.size<=sizeLine;rw[Ô,É2,Ð2,Ç4];omega
 have hj:sIx items.size items.size hi<=items.size:=N01 _ _ (È _) hi;obtain⟨os,hos,hcs,hds⟩:=id hs;have hTs:s.TypeIs (.ref sl) "slice":=⟨os,hos,hcs⟩;unfold Ñ8
 try with_reducible refine Ã0 ?_
 first | refine Á (Ç ?_) | skip
 refine Á (wpAny_sequenceKey ht.typeIs (-0) ?_)
 refine Á (Â3 (name:=À5 "__getitem__") ht.typeIs À7
  (Ä9 À7 ht.typeIs entry_tuple_getitem ?_ (args_tuple_getitem _ _)))
 show Ð _ _ (tupleItemsOf (.ref t) >>= _) _ _ s;refine Á (tupleItemsOf_ ht ?_);refine Á (Ë9 hTs ?_);rw[if_pos (-0)]
 refine Á (k80 hs pl pu ?_);have hno:¬ ((((sIx items.size 0 lo:Nat):Int) == 0&&(1:Int) == 1&&(sIx items.size items.size hi - sIx items.size 0 lo) == items.size)=true):=by
  intro q;rw[Â,Â] at q;have q1:((sIx items.size 0 lo:Nat):Int)=0:=eq_of_beq q.1.1;have q2:sIx items.size items.size hi - sIx items.size 0 lo=items.size:=eq_of_beq q.2;exact hw ⟨by omega,by omega⟩
 show Ð _ _ (if (((sIx items.size 0 lo:Nat):Int) == 0&&(1:Int) == 1&&(sIx items.size items.size hi - sIx items.size 0 lo) == items.size)=true then _ else _) _ _ s;rw[if_neg hno,o21]
 first
  |exact Á (m:=È9 _) (û (Ç ⟨_,rfl,Ç h⟩) htake)
  |exact Á (m:=È9 _) (û (Á (Ç (Ç ⟨_,rfl,Ç h⟩))) htake)
  |exact Á (Á (m:=È9 _) (û (Ç (Ç ⟨_,rfl,Ç h⟩)) htake))
  |exact Á (Á (m:=È9 _) (û (Ç ⟨_,rfl,Ç h⟩) htake))
end
end HT
namespace L2
open PySem PySem.Spec PyProof.Rows
abbrev TO:=St->Hp->(Option Int->Hp->Prop)->Prop
def PO(X:Cx)(e:Option Ê)(t:TO):Prop :=
 ∀ (pins:List (Æ × Obj)) (s:Å) (σ:St) (H:Hp) (Q:Option Int->Hp->Prop),Inv X pins σ H s->t σ H Q ->
  Ð (Õ X.prog X.w) X.A (evalPart e X.env) (λu s'=>∃ o H',Inv X pins σ H' s'/\Ñ7 u o/\Q o H') X.xe s
def A81:TO:=λ_ H Q=>Q none H
def c42(t:TE):TO:=λσ H Q=>t σ H λx H1=>∃ i,x=.int i/\Q (some i) H1
theorem intsAre_of{ns:List Int}:∀ {us:List Ã},Vals (ns.map V.int) us->È1 us ns:=by
 induction ns with
 |nil=>intro us r;rw[map_nil] at r;cases r;exact .nil
 |cons n ns ih =>
  intro us r;rw[Ë4] at r;cases r with
  |cons r1 r2 =>
   obtain⟨t,e⟩:=r1;subst e;exact .cons n t (ih r2)
section
variable {X:Cx}{e:Ê}{te:TE}{lo hi:Option Ê}{tl th:TO}{pos p2:Pos}
theorem A91:PO X none A81:=by
 intro pins s σ H Q I h;rw[evalPart_none];exact Ç ⟨none,H,I,.none,h⟩
theorem B01(h:PE X e te):PO X (some e) (c42 te):=by
 intro pins s σ H Q I hw;rw[evalPart_some];refine thn (h pins s σ H _ I hw) λu s1 ⟨x,H1,I1,r1,q1⟩=>?_;obtain⟨i,rfl,q⟩:=q1;obtain⟨t,rfl⟩:=r1;exact⟨some i,H1,I1,.int i t,q⟩
def SlR(X:Cx)(r:V->Option Int->Option Int->Hp->VK->Prop):Prop :=
 ∀ (pins:List (Æ × Obj)) (s:Å) (σ:St) (H:Hp) (x:V) (v vl vu:Ã) (lo hi:Option Int) (sl:Æ) (Q:VK),Inv X pins σ H s->RelV x v->s.heap.IsSliceOf sl vl vu .none->Ñ7 vl lo->Ñ7 vu hi->r x lo hi H Q ->
  ∃ T id,typeLookup (.type T) "__getitem__"=pure (some (.builtin id))/\s.TypeIs v T/\Ð (Õ X.prog X.w) X.A (Ñ8 v (.ref sl)) (EP X pins σ Q) X.xe s
def tSl(r:V->Option Int->Option Int->Hp->VK->Prop)(te:TE)(tl th:TO):TE:=λσ H Q=>te σ H λx H1=>tl σ H1 λl H2=>th σ H2 λu H3=>r x l u H3 Q
theorem o31{r:V->Option Int->Option Int->Hp->VK->Prop}(hr:SlR X r)(he:PE X e te)(hl:PO X lo tl)(hu:PO X hi th):PE X (.Subscript e (.Slice lo hi none p2) pos) (tSl r te tl th):=by
 intro pins s σ H Q I h;refine Subscript_ (thn (he pins s σ H _ I h) λv s1 ⟨x,H1,I1,r1,q1⟩=>?_);refine wpAny_Slice (thn (hl pins s1 σ H1 _ I1 q1) λvl s2 ⟨l,H2,I2,pl,q2⟩=>thn (hu pins s2 σ H2 _ I2 q2) λvu s3 ⟨u,H3,I3,pu,q3⟩=>?_);rw[evalPart_none];refine Ç ?_;have I4:Inv X pins σ H3 { s3 with heap:=s3.heap.push { cls:=.type "slice",data:=.fields #[vl,vu,.none] } }:=I3.kept (t':=s3.toks) λb ob q=>Ä _ q;obtain⟨T,id,hT,ht,hg⟩:=hr pins { s3 with heap:=s3.heap.push { cls:=.type "slice",data:=.fields #[vl,vu,.none] } } σ H3 x v vl vu l u s3.heap.objs.size Q I4 r1 (á.IsSliceOf.new ..) pl pu q3;show Ð (Õ X.prog X.w) X.A (subscriptTail e (.Slice lo hi none p2) v (.ref s3.heap.objs.size)) (EP X pins σ Q) X.xe { s3 with heap:=s3.heap.push { cls:=.type "slice",data:=.fields #[vl,vu,.none] } };exact tail_any (ops:=[.ref s3.heap.objs.size,v]) ht hT hg (by with_unfolding_all rfl)
def o41(xs:List V)(lo hi:Option Int):List V:=(xs.drop (HT.sIx xs.length 0 lo)).take (HT.sIx xs.length xs.length hi - HT.sIx xs.length 0 lo)
theorem u60(xs:List V)(lo hi:Option Int):(o41 xs lo hi).length<=xs.length:=by
 unfold o41;rw[É2,Ð2];omega
theorem Vals.B20{xs:List V}{us:List Ã}(r:Vals xs us):us=[]↔xs=[]:=by
 cases r with
 |nil=>simp|cons _ _=>simp
end
def ixN(n:Nat)(i:Int):Option Nat:=if 0<=i then(if i < n then some i.toNat else none) else if -(n:Int)<=i then some (i + n).toNat else none
def atI{α:Type}(xs:List α)(i:Int):Option α:=(ixN xs.length i).bind λj=>xs[j]?
theorem Z60{n:Nat}{i:Int}{j:Nat}(h:ixN n i=some j):seqIndex? i n=some j/\j < n/\-(n:Int)<=i/\i < n:=by
 unfold ixN at h;by_cases h0:0<=i
 ·rw[if_pos h0] at h;by_cases h1:i < n
  ·rw[if_pos h1] at h;have e:i.toNat=j:=ð h;exact⟨by rw[Õ7 h0 h1,e],by omega,by omega,h1⟩
  ·rw[if_neg h1] at h;cases h
 ·rw[if_neg h0] at h;by_cases h1:-(n:Int)<=i
  ·rw[if_pos h1] at h;have e:(i + n).toNat=j:=ð h;exact⟨by rw[seqIndex_neg ∅ h1,e],by omega,h1,by omega⟩
  ·rw[if_neg h1] at h;cases h
theorem Z70{α:Type}{xs:List α}{i:Int}{v:α}(h:atI xs i=some v):∃ j,seqIndex? i xs.length=some j/\xs[j]?=some v/\j < xs.length/\-(xs.length:Int)<=i/\i < xs.length:=by
 unfold atI at h;cases e:ixN xs.length i with
 |none=>rw[e] at h;cases h
 |some j =>
  rw[e] at h;obtain⟨h1,h2,h3,h4⟩:=Z60 e;exact⟨j,h1,h,h2,h3,h4⟩
theorem B30{α:Type}{xs:List α}{j:Nat}{v:α}(h:xs[j]?=some v):atI xs (j:Int)=some v:=by
 have hj:j < xs.length:=(Ú.mp h).1;have e:ixN xs.length (j:Int)=some j:=by
  unfold ixN;rw[if_pos ∅,if_pos ∅];simp
 unfold atI;rw[e];exact h
def Z80(b:Ê):Prop:=∀ o i,subscripted b false o i=operate [o,i] (Ñ8 o i)
def IxR(X:Cx)(r:R2):Prop :=
 ∀ (value slice:Ê) (pins:List (Æ × Obj)) (s:Å) (σ:St) (H:Hp) (x y:V) (v u:Ã) (Q:VK),Inv X pins σ H s->RelV x v->RelV y u->r x y H Q ->
  subscripted slice false v u=operate [v,u] (Ñ8 v u)->Ð (Õ X.prog X.w) X.A (subscriptTail value slice v u) (EP X pins σ Q) X.xe s
def MtR(X:Cx)(id:String)(r:V->List V->Hp->VK->Prop):Prop :=
 ∀ (pins:List (Æ × Obj)) (s:Å) (σ:St) (H:Hp) (x:V) (xs:List V) (v:Ã) (us:List Ã) (Q:VK),Inv X pins σ H s->RelV x v->Vals xs us->r x xs H Q ->
  Ð (Õ X.prog X.w) X.A (call (.builtin id) (v::us)) (EP X pins σ Q) X.xe s
section
variable {X:Cx}{a b:Ê}{ta tb:TE}{pos:Pos}
theorem B11{r:R2}(hr:IxR X r)(ha:PE X a ta)(hb:PE X b tb)(hs:Z80 b):PE X (.Subscript a b pos) (tOp r ta tb):=by
 intro pins s σ H Q I h;exact Subscript_ (b62 ha hb I h λv u s2 x y H2 I2 rx ry q=>hr a b pins s2 σ H2 x y v u Q I2 rx ry q (hs _ _))
def l92(K:À):R2:=λx y H Q=>∃ p xs i v,x=.ref p/\y=.int i/\SqL K H p xs/\atI xs i=some v/\Q v H
def p72(K:À):R2:=λx y H Q=>∃ p xs i v,x=.ref p/\y=.int i/\SqT K H p xs/\atI xs i=some v/\Q v H
theorem K40:IxR X (l92 X.K):=by
 intro value slice pins s σ H x y v u Q I rx ry h hs;obtain⟨p,xs,i,z,rfl,rfl,hq,he,q⟩:=h;cases rx;obtain⟨t,rfl⟩:=ry;obtain⟨its,r,pl,hz⟩:=I.list hq;obtain⟨j,h1,h2,h3,h4,h5⟩:=Z70 he;obtain⟨w,ew,rw'⟩:=r.get h2;have hl:=r.length;have hn:=O70;have fin:EP X pins σ Q w s:=⟨z,H,I,rw',q⟩;by_cases h0:0<=i
 ·have hj:i.toNat=j:=by
   rw[Õ7 h0 h5] at h1;exact ð h1
  exact item_listR pl.isList h0 ∅ (by rw[hj];simpa using ew) fin hs
 ·have hj:(i + (its.toArray.size:Int)).toNat=j:=by
   rw[seqIndex_neg ∅ h4] at h1
   rw[Ô,← hl];exact ð h1
  exact subscriptTail_builtinR (x:=w) pl.isList.typeIs slot_list_getitem.lookup
   (wpAny_getItem_list_neg (Q:=λr s'=>r=w/\EP X pins σ Q r s') pl.isList ∅ (by rw[Ô] <;> omega) ∅ (by rw[hj];simpa using ew) ⟨rfl,fin⟩) hs
theorem N11:IxR X (p72 X.K):=by
 intro value slice pins s σ H x y v u Q I rx ry h hs;obtain⟨p,xs,i,z,rfl,rfl,hq,he,q⟩:=h;cases rx;obtain⟨t,rfl⟩:=ry;obtain⟨its,r,pl,hz⟩:=I.tuple hq;obtain⟨j,h1,h2,h3,h4,h5⟩:=Z70 he;obtain⟨w,ew,rw'⟩:=r.get h2;have hl:=r.length;have hn:=O70;have fin:EP X pins σ Q w s:=⟨z,H,I,rw',q⟩;exact subscriptTail_builtinR (x:=w) pl.typeIs slot_tuple_getitem.lookup
  (getItem_tuple (j:=j) (Q:=λr s'=>r=w/\EP X pins σ Q r s') pl ∅ ∅ (by rw[Ô,← hl];exact h1) (by simpa using ew) ⟨rfl,fin⟩) hs
theorem U80(its:List Ã)(n j:Nat)(u:Ã):ü (·.setIfInBounds j u) { cls:=.type "list",data:=.seq its.toArray n }={ cls:=.type "list",data:=.seq (its.set j u).toArray n }:=by
 simp[ü]
theorem Inv.lst{pins:List (Æ × Obj)}{σ:St}{H:Hp}{s:Å}{p:Æ}{xs:List V}(I:Inv X pins σ H s)(h:H p=some (.lst xs)) :
  ∃ (its:List Ã) (n:Nat),Vals xs its/\s.heap.get? p=some { cls:=.type "list",data:=.seq its.toArray n }/\xs.length<=sizeLine:=by
 obtain⟨z,its,n,r,e⟩:=I.hok p _ h;exact⟨its,n,r,e,z⟩
theorem Inv.N21{pins:List (Æ × Obj)}{σ:St}{H:Hp}{s:Å}{p:Æ}{xs ys:List V}{its its':List Ã}{n n':Nat}{f:Obj->Obj}(I:Inv X pins σ H s)(h:H p=some (.lst xs))
  (ho:s.heap.get? p=some { cls:=.type "list",data:=.seq its.toArray n }) (hf:f { cls:=.type "list",data:=.seq its.toArray n }={ cls:=.type "list",data:=.seq its'.toArray n' }) (r:Vals ys its') (hz:ys.length<=sizeLine) (t:Nat) :
  Inv X pins σ (upd H p (.lst ys)) { s with heap:=s.heap.update p f,toks:=t }:=by
 have e:(s.heap.update p f).get? p=some { cls:=.type "list",data:=.seq its'.toArray n' }:=by
  rw[Ø0 f ho (by rw[hf] <;> rfl),hf]
 refine I.write (x:=p) (e:=p) (by rw[h];trivial) (.inl rfl) (λb u hb q=>(Ö5 _ _ (À3 hb)).trans q) ⟨_,e⟩ ?_
 exact⟨hz,its',n',r,e⟩
def c52:V->V->V->Hp->(Hp->Prop)->Prop:=λo i v H Q=>∃ p xs k j,o=.ref p/\i=.int k/\H p=some (.lst xs)/\ixN xs.length k=some j/\Q (upd H p (.lst (xs.set j v)))
theorem set_list:l32 X c52:=by
 intro pins s σ H o i v ov iv u Q I ro ri rv h;obtain⟨p,xs,k,j,rfl,rfl,hp,hj,q⟩:=h;cases ro;obtain⟨t,rfl⟩:=ri;obtain⟨its,n,r,ho,hz⟩:=I.lst hp;obtain⟨h1,h2,h3,h4⟩:=Z60 hj;have hl:=r.length;have hn:=O70;have I':Inv X pins σ (upd H p (.lst (xs.set j v))) { s with heap:=s.heap.update p (ü (·.setIfInBounds j u)) } :=
  I.N21 hp ho (U80 its n j u) (r.set rv j) (by rw[À6];exact hz) s.toks
 by_cases h0:0<=k
 ·have hk:k.toNat=j:=by
   rw[Õ7 h0 h4] at h1;exact ð h1
  exact PySem.W.ki_setAt ho h0 ∅ (by rw[Ô,← hl];exact h4) (by rw[hk];exact⟨_,I',q⟩)
 ·have hk:(k + (its.toArray.size:Int)).toNat=j:=by
   rw[seqIndex_neg ∅ h3] at h1
   rw[Ô,← hl];exact ð h1
  exact PySem.W.ki_setBack ho ∅ (by rw[Ô,← hl];exact h3) ∅ (by rw[hk];exact⟨_,I',q⟩)
theorem G50(lo hi:Option Int)(n:Nat):(É8 lo hi none n).1=((HT.sIx n 0 lo:Nat):Int)/\(É8 lo hi none n).2.1=((HT.sIx n n hi:Nat):Int)/\(É8 lo hi none n).2.2=1:=by
 refine⟨?_,?_,rfl⟩
 ·cases lo with
  |none=>simp[É8,HT.sIx]
  |some i =>
   simp only[É8,HT.sIx,getD_none,show(1:Int) > 0 by decide,if_true]
   by_cases h:i < 0
   ·simp only[h,if_true] <;> omega
   ·simp only[h,if_false] <;> omega
 ·cases hi with
  |none=>simp[É8,HT.sIx]
  |some i =>
   simp only[É8,HT.sIx,getD_none,show(1:Int) > 0 by decide,if_true]
   by_cases h:i < 0
   ·simp only[h,if_true] <;> omega
   ·simp only[h,if_false] <;> omega
theorem B40(its:List Ã)(lo hi:Option Int):slicePick its.toArray lo hi none=((its.drop (HT.sIx its.length 0 lo)).take (HT.sIx its.length its.length hi - HT.sIx its.length 0 lo)).toArray:=by
 obtain⟨h1,h2,h3⟩:=G50 lo hi its.toArray.size;unfold slicePick;rw[h1,h2,h3];simp only[sliceRange_one,pick_run,Ô] <;> rfl
def p82(K:À):V->Option Int->Option Int->Hp->VK->Prop:=λx lo hi H Q=>∃ a xs,x=.ref a/\SqL K H a xs/\∀ p,H p=none->Q (.ref p) (upd H p (.lst (o41 xs lo hi)))
theorem B21:SlR X (p82 X.K):=by
 intro pins s σ H x v vl vu lo hi sl Q I rx hs pl pu h;obtain⟨a,xs,rfl,hx,q⟩:=h;cases rx;obtain⟨its,r,ht,hz⟩:=I.list hx;have hlen:=r.length;refine⟨"list",_,slot_list_getitem.lookup,ht.isList.typeIs,?_⟩;refine wpAny_getItem_list_slice ht.isList hs pl pu .none (by simp) ?_ (by rw[Ô] <;> omega)
 rw[B40,← hlen];refine⟨.ref s.heap.objs.size,_,I.laid (t':=s.toks) (o:=.lst (o41 xs lo hi)) (λb ob q=>Ä _ q) (È _) ?_,rfl,q _ (I.hok.fresh (È _))⟩;exact⟨ë (u60 xs lo hi) hz,_,0,(r.drop (HT.sIx xs.length 0 lo)).take (HT.sIx xs.length xs.length hi - HT.sIx xs.length 0 lo),Ì _ rfl⟩
theorem G60:g90 X (.builtin "len") (λxs H Q=>∃ p ys,xs=[.ref p]/\(SqL X.K H p ys∨SqT X.K H p ys)/\Q (.int ys.length) H):=by
 intro pins s σ H xs us Q I r h;obtain⟨p,ys,rfl,hq,q⟩:=h;obtain⟨u,rfl,rx⟩:=vals1 r;cases rx;have hn:=O70;rcases hq with hq | hq
 ·obtain⟨its,r',pl,hz⟩:=I.list hq;have hlen:=r'.length;exact Calls.call_len_list pl.isList (by simp only[Ô] <;> omega) ⟨.int ys.length,H,I.tok _,⟨s.toks + 1,by rw[Ô,hlen]⟩,q⟩
 ·obtain⟨its,r',pl,hz⟩:=I.tuple hq;have hlen:=r'.length;exact len_tuple pl (by simp only[Ô] <;> omega) ⟨.int ys.length,H,I.tok _,⟨s.toks + 1,by rw[Ô,hlen]⟩,q⟩
theorem G70:g90 X (.type "list") (λxs H Q=>∃ p ys,xs=[.ref p]/\(SqL X.K H p ys∨SqT X.K H p ys)/\∀ l,H l=none->Q (.ref l) (upd H l (.lst ys))):=by
 intro pins s σ H xs us Q I r h;obtain⟨p,ys,rfl,hq,q⟩:=h;obtain⟨u,rfl,rx⟩:=vals1 r;cases rx;have fin:∀ (its:List Ã),Vals ys its->ys.length<=sizeLine->∀ (h':á) (c':Nat),(∀ b o',s.heap.get? b=some o'->h'.get? b=some o') ->
   h'.get? s.heap.objs.size=some { cls:=.type "list",dict:=none,data:=.seq its.toArray c',slots:=#[] }->EP X pins σ Q (.ref s.heap.objs.size) { s with heap:=h' }:=λits r' hz h' c' kp e =>
  ⟨.ref s.heap.objs.size,_,I.laid (t':=s.toks) kp (È _) (show f90 X.prog X.w _ h' _ (.lst ys) from⟨hz,its,c',r',e⟩),rfl,q _ (I.hok.fresh (È _))⟩
 rcases hq with hq | hq
 ·obtain⟨its,r',pl,hz⟩:=I.list hq;have hlen:=r'.length;obtain⟨o,ho,hc,n,hd⟩:=pl.isList;exact call_list_seq p (.inl rfl) ho hc hd (λh' c' kp e=>fin its r' hz h' c' kp e) (by simp only[Ô] <;> omega)
 ·obtain⟨its,r',pl,hz⟩:=I.tuple hq;have hlen:=r'.length;obtain⟨o,ho,hc,n,hd⟩:=pl;exact call_list_seq p (.inr rfl) ho hc hd (λh' c' kp e=>fin its r' hz h' c' kp e) (by simp only[Ô] <;> omega)
theorem B50:g90 X (.type "tuple") (λxs H Q=>∃ p ys,xs=[.ref p]/\((SqL X.K H p ys/\∀ l,H l=none->Q (.ref l) (upd H l (.tup ys)))∨(SqT X.K H p ys/\Q (.ref p) H))):=by
 intro pins s σ H xs us Q I r h;obtain⟨p,ys,rfl,h⟩:=h;obtain⟨u,rfl,rx⟩:=vals1 r;cases rx;rcases h with ⟨hq,q⟩ | ⟨hq,q⟩
 ·obtain⟨its,r',pl,hz⟩:=I.list hq;have hlen:=r'.length;refine call_tuple_list pl.isList (λh' kp=>?_) (by simp only[Ô] <;> omega)
  have I1:Inv X pins σ H { s with heap:=h' }:=I.kept (t':=s.toks) kp;have I2:Inv X pins σ (upd H h'.objs.size (.tup ys)) { s with heap:=h'.push { cls:=.type "tuple",data:=.seq its.toArray } } :=
   I1.laid (t':=s.toks) (λb o e=>Ä _ e) (È _) (show f90 X.prog X.w _ _ _ (.tup ys) from⟨hz,its,r',Í8.new _ _⟩)
  exact⟨.ref h'.objs.size,_,I2,rfl,q _ (I1.hok.fresh (È _))⟩
 ·obtain⟨its,r',pl,hz⟩:=I.tuple hq;exact call_tuple_same pl ⟨.ref p,H,I,rfl,q⟩
def tyV(K:À)(T:String)(x:V)(H:Hp):Prop:=match x with
 |.str _=>T="str"|.int _=>T="int"
 |.ref p=>(T="list"/\∃ xs,SqL K H p xs)∨(T="tuple"/\∃ o,K.lookup p=some o/\o.cls=.type "tuple"/\o.dict=none) ∨
   (T="dict"/\((∃ kvs,H p=some (.dK kvs))∨∃ kvs,H p=some (.dT kvs)))∨(T="set"/\∃ S n,H p=some (.set S n))
 |_=>False
theorem N31{pins:List (Æ × Obj)}{σ:St}{H:Hp}{s:Å}{T:String}{x:V}{v:Ã}(I:Inv X pins σ H s)(r:RelV x v)(ty:tyV X.K T x H) :
  s.TypeIs v T/\∀ a,v=.ref a->∃ ob,s.heap.get? a=some ob/\ob.dict=none:=by
 cases x with
 |str z =>
  obtain⟨t,rfl⟩:=r;cases (show T="str" from ty);exact⟨typeIs_str s z t,λ_ e=>nomatch e⟩
 |int i =>
  obtain⟨t,rfl⟩:=r;cases (show T="int" from ty);exact⟨Ó2 s i t,λ_ e=>nomatch e⟩
 |ref p =>
  cases r;rcases ty with ⟨rfl,xs,hq⟩ | ⟨rfl,o,hk,hc,hd⟩ | ⟨rfl,hk⟩ | ⟨rfl,S,n,hk⟩
  ·obtain⟨its,_,pl,_⟩:=I.list hq;refine⟨pl.isList.typeIs,λa e=>?_⟩;cases e;obtain⟨o,n,e,c,hd,_⟩:=pl;exact⟨o,e,hd⟩
  ·refine⟨⟨o,I.kIn p o hk,hc⟩,λa e=>?_⟩;cases e;exact⟨o,I.kIn _ o hk,hd⟩
  ·have z:∃ o,s.heap.get? p=some o/\o.ExactDict:=by
    rcases hk with ⟨kvs,hk⟩ | ⟨kvs,hk⟩
    ·obtain⟨_,_,_,_,o,_,_,e,ex,_⟩:=I.hok p _ hk;exact⟨o,e,ex⟩
    ·obtain⟨_,_,_,_,o,_,_,e,ex,_⟩:=I.hok p _ hk;exact⟨o,e,ex⟩
   obtain⟨o,e,ex⟩:=z;refine⟨⟨o,e,ex.1⟩,λa e2=>?_⟩;cases e2;exact⟨o,e,ex.2.1⟩
  ·obtain⟨o,_,_,_,e,ex,_⟩:=I.hok p _ hk;refine⟨⟨o,e,ex.1⟩,λa e2=>?_⟩;cases e2;exact⟨o,e,ex.2.1⟩
 |_=>exact è ty
def u32(K:À)(T:String)(r:V->List V->Hp->VK->Prop)(to:TE):TE:=λσ H Q=>to σ H λx H1=>tyV K T x H1/\r x [] H1 Q
def tBM(K:À)(T:String)(r:V->List V->Hp->VK->Prop)(to:TE)(t:TA):TE:=λσ H Q=>to σ H λx H1=>tyV K T x H1/\t σ H1 λxs H2=>r x xs H2 Q
variable {o e:Ê}{es:List Ê}{to:TE}{t:TA}{name:Str}{apos cpos:Pos}{T id:String}{r:V->List V->Hp->VK->Prop}
theorem o51(pa:PlainAttrs T)(slot:Slot T name id)(hty:typeOf (.builtin id)=pure (.type "method_descriptor"))(hm:MtR X id r)(ho:PE X o to)(ha:PA X (e::es) t)
  (hbase:attributeBase o name X.env (eval o X.env)=eval o X.env:=by rfl)
  (hfew:((Î2 cpos (í (e::es) X.env)).all (λx=>!x.1)&&(backToKw cpos (keywordEach [] X.env)).all (λx=>x.1.isSome)
   &&decide ((e::es).length + ([]:List Keyword).length + (if ([]:List Keyword).isEmpty then 0 else 1) < 30))=true:=by rfl)
  (hline:(apos.endLine == cpos.line)=true:=by rfl) (hs:í (e::es) X.env=(false,eval e X.env)::í es X.env:=by rfl) (hplain:(Î2 cpos (í es X.env)).any (·.1)=false:=by rfl) :
  PE X (.Call (.Attribute o name apos) (e::es) [] cpos) (tBM X.K T r to t):=by
 intro pins s σ H Q I h;refine wpAny_Call_method_late hbase hfew hline rfl (thn (ho pins s σ H _ I h) λv s1 ⟨x,H1,I1,r1,ty,q1⟩=>?_);obtain⟨h1,h2⟩:=N31 I1 r1 ty;refine⟨T,id,pa,slot,hty,h1,h2,?_⟩;have hA:=ha cpos pins s1 σ H1 _ I1 q1;rw[hs] at hA ⊢;refine Calls.callWith_builtin (by show(false || (Î2 cpos (í es X.env)).any (·.1))=false;rw[hplain] <;> rfl) (Ø1 ?_)
 exact thn hA λus s2 ⟨vs,H2,I2,r2,q2⟩=>hm pins s2 σ H2 x vs v us Q I2 r1 r2 q2
end
def MtM(X:Cx)(id:String)(r:V->List V->Hp->VK->Prop):Prop :=
 ∀ (pins:List (Æ × Obj)) (s:Å) (σ:St) (H:Hp) (x:V) (xs:List V) (v:Ã) (us:List Ã) (Q:VK),Inv X pins σ H s->RelV x v->Vals xs us->r x xs H Q ->
  Ð (Õ X.prog X.w) X.A (call (.builtin id) (v::us)) (EP X pins σ Q) X.xe s
theorem Vals.one:∀ {x:V}{us:List Ã},Vals [x] us->∃ u,us=[u]/\RelV x u
 |_,_,.cons r .nil=>⟨_,rfl,r⟩
theorem Vals.eraseIdx:∀ {xs:List V}{us:List Ã} (i:Nat),Vals xs us->Vals (xs.eraseIdx i) (us.eraseIdx i)
 |_,_,_,.nil=>.nil|_,_,0,.cons _ t=>t|_,_,i + 1,.cons r t=>.cons r (Vals.eraseIdx i t)
theorem Vals.reverse{xs:List V}{us:List Ã}(h:Vals xs us):Vals xs.reverse us.reverse:=by
 induction h with
 |nil=>exact .nil|cons r t ih=>rw[Î6,Î6];exact Vals.append ih (.cons r .nil)
theorem Vals.rep{xs:List V}{us:List Ã}(h:Vals xs us):∀ k:Nat,Vals (ã k xs).flatten (ã k us).flatten
 |0=>.nil
 |k + 1=>by
  rw[Ä3,Ä3,È4,È4];exact Vals.append h (Vals.rep h k)
theorem G80{α:Type}:∀ (l:List α) (i:Nat),(l.eraseIdx i).length<=l.length
 |[],_=>È _|_::_,0=>Nat.le_succ _|_::r,i + 1=>Nat.succ_le_succ (G80 r i)
theorem foldl_rep(its:List Ã):∀ (k:Nat) (acc:List Ã),
  foldl (λx1 x2=>x1++x2) acc.toArray (ã k its.toArray)=(acc++(ã k its).flatten).toArray
 |0,acc=>by simp
 |k + 1,acc=>by
  have e:acc.toArray++its.toArray=(acc++its).toArray:=by simp
  have e2:(acc++its)++(ã k its).flatten=acc++(ã (k + 1) its).flatten:=by
   rw[Ä3,È4,È5]
  rw[← e2,← foldl_rep its k (acc++its),← e,Ä3,List.foldl_cons]
section
variable {X:Cx}{pins:List (Æ × Obj)}{σ:St}{H:Hp}{s:Å}{l b:Æ}{xs ys zs:List V}
theorem Inv.Z11{its its':List Ã}{n:Nat}{f:Array Ã->Array Ã}{t':Nat}(I:Inv X pins σ H s)(hH:H l=some (.lst xs))
  (e:s.heap.get? l=some { cls:=.type "list",data:=.seq its.toArray n }) (hf:f its.toArray=its'.toArray) (hv:Vals ys its') (hz:ys.length<=sizeLine) :
  Inv X pins σ (upd H l (.lst ys)) { s with heap:=s.heap.update l (ü f),toks:=t' }:=by
 have q:=PySem.IsL.update e f;rw[hf] at q;refine I.write (x:=l) (e:=l) (by rw[hH];exact trivial) (.inl rfl) (λb' u hb hu=>(Ö5 s.heap (ü f) (À3 hb)).trans hu) ⟨_,q⟩ ?_
 exact⟨hz,its',_,hv,q⟩
theorem Inv.c62{its:List Ã}{t':Nat}(I:Inv X pins σ H s)(hv:Vals ys its)(hz:ys.length<=sizeLine) :
  Inv X pins σ (upd H s.heap.objs.size (.lst ys)) { s with heap:=s.heap.push { cls:=.type "list",data:=.seq its.toArray },toks:=t' } :=
 I.laid (λ_ _ q=>Ä _ q) (È _) ⟨hz,its,0,hv,Ì _ rfl⟩
theorem Inv.fresh(I:Inv X pins σ H s):H s.heap.objs.size=none:=I.hok.fresh (È _)
theorem Inv.N41(I:Inv X pins σ H s)(hH:H l=some (.lst xs)):xs.length<=sizeLine/\∃ (its:List Ã) (n:Nat),Vals xs its/\xs.length=its.length/\s.heap.get? l=some { cls:=.type "list",data:=.seq its.toArray n }:=by
 obtain⟨z,its,n,r,e⟩:=I.hok l _ hH;exact⟨z,its,n,r,r.length,e⟩
theorem o61{n:Nat}(h:n<=sizeLine):É3 n=false:=by
 unfold É3;exact decide_eq_false ∅
end
section
variable {X:Cx}
def Z90:V->List V->Hp->VK->Prop:=λx vs H Q=>∃ l xs y,x=.ref l/\vs=[y]/\H l=some (.lst xs)/\xs.length < sizeLine/\Q .non (upd H l (.lst (xs++[y])))
theorem u70:MtM X "list.append" Z90:=by
 intro pins s σ H x vs v us Q I rx rv h;obtain⟨l,xs,y,rfl,rfl,hH,hz,q⟩:=h;cases rx;obtain⟨u,rfl,ru⟩:=rv.one;obtain⟨z,its,n,r,hl,e⟩:=I.N41 hH;refine Æ5 F.slot_list_append ⟨_,e,rfl⟩ F.entry_list_append (F.args_list_append_2 _ _) (PySem.list_append l its.toArray n u (by rw[Ô];omega)) ⟨e,?_⟩
 refine⟨.non,_,I.Z11 (its':=its++[u]) hH e (by simp) (r.append (.cons ru .nil)) ?_,rfl,q⟩
 rw[ÿ,Ö8];omega
def w11:V->List V->Hp->VK->Prop:=λx vs H Q=>∃ l xs i k y,x=.ref l/\vs=[.int i]/\H l=some (.lst xs)/\-(2 ^ 63)<=i/\i < 2 ^ 63/\seqIndex? i xs.length=some k/\xs[k]?=some y/\Q y (upd H l (.lst (xs.eraseIdx k)))
theorem o71:MtM X "list.pop" w11:=by
 intro pins s σ H x vs v us Q I rx rv h;obtain⟨l,xs,i,k,y,rfl,rfl,hH,h1,h2,hk,hy,q⟩:=h;cases rx;obtain⟨u,rfl,ru⟩:=rv.one;obtain⟨t,rfl⟩:=ru;obtain⟨z,its,n,r,hl,e⟩:=I.N41 hH;obtain⟨w,hw,rw'⟩:=r.get hy;refine Æ5 F.slot_list_pop ⟨_,e,rfl⟩ F.entry_list_pop (F.args_list_pop_2 _ _)
  (MeetsSeq.list_pop_at l its.toArray n i t k w (fitsIndex_both h1 h2) (by rw[Ô,← hl];exact hk) (by rw[← Å1];exact hw) (by rw[Ô];omega)) ⟨e,?_⟩
 refine⟨y,_,I.Z11 (its':=its.eraseIdx k) hH e ?_ (r.eraseIdx k) ?_,rw',q⟩
 ·show its.toArray.eraseIdxIfInBounds k=(its.eraseIdx k).toArray;rw[List.eraseIdxIfInBounds_toArray]
 ·have:=G80 xs k;omega
def p92:R2:=λx y H Q=>∃ l b xs zs,x=.ref l/\y=.ref b/\H l=some (.lst xs)/\H b=some (.lst zs)/\xs.length + zs.length<=sizeLine/\∀ p,H p=none->Q (.ref p) (upd H p (.lst (xs++zs)))
theorem a01:OpR X (Â6 .Add) p92:=by
 intro pins s σ H x y v u Q I rx ry h;obtain⟨l,b,xs,zs,rfl,rfl,hH,hB,hz,q⟩:=h;cases rx;cases ry;obtain⟨z,its,n,r,hl,e⟩:=I.N41 hH;obtain⟨z2,its2,n2,r2,hl2,e2⟩:=I.N41 hB;refine PySem.P.add_list e e2 ?_ (by rw[Ô,Ô];omega)
 have ea:its.toArray++its2.toArray=(its++its2).toArray:=by simp
 rw[ea];exact⟨.ref _,_,I.c62 (t':=s.toks) (r.append r2) (by rw[ÿ];omega),rfl,q _ I.fresh⟩
theorem len_rep{α:Type}(xs:List α)(k:Nat):(ã k xs).flatten.length=k * xs.length:=by
 induction k with
 |zero=>simp|succ k ih=>rw[Ä3,È4,ÿ,ih,Nat.succ_mul,Nat.add_comm]
end
end L2
namespace Att
open PySem PySem.W PySem.Calls PyProof.Rows
theorem u80{P:Params}{h:á}:∀ (ns:List Int) (vs:List Ã),WellAll P h vs (ns.map WData.int)->È1 vs ns:=by
 intro ns
 induction ns with
 |nil =>
  intro vs w;rw[map_nil] at w;cases w;exact .nil
 |cons n ns ih =>
  intro vs w;rw[Ë4] at w;cases w with
  |cons a b =>
   cases a;exact .cons _ _ (ih _ b)
theorem a11{l:OpenLaw}{n:Nat}(hn:l.most=some n){P:Params}{h:á}{args:List WData}{vals:List Ã}
  (hpre:l.row.toRowW.claim.pre args=true) (hwl:WellAll P h vals args) :
  ∃ a vs ns,vals=[Á9 a]/\args=[WData.list (ns.map WData.int)]/\h.get? a=some { cls:=.type "list",data:=.seq vs.toArray }/\È1 vs ns/\ns.length<=n:=by
 have hsh:WShape.hasAll [] args [.list .int]=true:=(pre_splitW hpre).1;have hc:l.pre.holds [] { args:=args }=true:=(pre_splitW hpre).2;obtain⟨d,r,rfl,h1,h2⟩:=hasAllW_cons hsh;obtain rfl:=hasAllW_nil h2;obtain⟨xs,rfl,h3⟩:=hasW_list h1;obtain⟨ns,rfl⟩:=items_int h3;have hlen:ns.length<=n:=by
  unfold OpenLaw.pre at hc;have h4:(WTm.not (.lt (.lit (.int (n:Int))) (.len (.arg 0)))).holds [] { args:=[.list (ns.map .int)] }=true:=by
   have h4:=(holds_andW hc).1;rw[hn] at h4;exact h4
  have h5:=condW_of h4 (w_not (w_lt w_lit (w_len_list (w_arg rfl))));rw[É] at h5;refine Nat.le_of_not_lt λq=>?_;have q':(n:Int) < ((ns.length:Nat):Int):=by omega
  first
   |(rw[decide_eq_true q'] at h5;exact absurd h5 (-0))
   |(simp at h5;omega)
 cases hwl with
 |cons w1 w2 =>
  cases w2;cases w1 with
  |list ho hall=>exact⟨_,_,ns,rfl,rfl,ho,u80 ns _ hall,hlen⟩
theorem a21(l:OpenLaw)(args:List WData):l.row.toRowW.claim.post args (.bool true) args=true :=
 postW_of (r:=l.row.toRowW) (X:=(true == true))
  (show WShape.has [] (.bool true) .bool=true by first | rfl | decide | simp[WShape.has,WShape.arms,WShape.armsAll])
  (show(WTm.eq .res (.lit (.bool true))).value [] { args:=args,res:=some (.bool true),after:=args }=some (.bool (true == true)) from w_eq_bool (w_res rfl) w_lit) rfl
theorem K50{l:OpenLaw}{n:Nat}{q:Ø}{loose:List Str}{XP:(Str->Option Ã)->á->Prop}{YP:ì->á->Prop}{d:DefRec}
  (hn:l.most=some n) (hdf:d.params.defaults=[])
  (call:∀ (w:ì) (s₀ s₁:Å) (mg mb:Str->Option Ã) (fa:Æ) (o:Obj) (pm cd doc:Ã) (a:Æ) (vs:List Ã) (ns:List Int),
   Ground q loose [] XP w s₀ mg mb s₁.heap->YP w s₁.heap ->
   s₁.heap.get? fa=some o->o.data=.func (docDef d.name d.params d.body d.scope pm cd doc)->s₁.heap.CodeRec cd d.name->mg d.name=some (.ref fa) ->
   s₁.heap.get? a=some { cls:=.type "list",data:=.seq vs.toArray }->È1 vs ns->ns.length<=n->s₁.gens=#[] ->
   Ì1 (Õ l.prog w) Ô2 (.call (.ref fa) ⟨[.ref a],[]⟩) (λr s'=>r=.ok (.ret (.bool true))/\OldK s₁.heap s'.heap/\s'.os=s₁.os/\Î0 s'.gens) s₁) :
  WalkO q loose XP YP l.row.toRowW d [] (λf vs=>PySem.call f vs):=by
 intro w s₀ s₁ mg mb G Y fa o pm cd doc dV kV ho hd hcd hD hmg hg args vals as hpre hlay hrd hwl hlo;obtain rfl:dV=.none:=Dflts.none hD hdf;obtain rfl:kV=.none:=Dflts.noKw hD;obtain⟨a,vs,ns,rfl,rfl,hobj,hints,hlen⟩:=a11 hn hpre hwl;refine enter_call (Å6 (call w s₀ s₁ mg mb fa o pm cd doc a vs ns G Y ho (fd_plain hd) hcd hmg hobj hints hlen hg) λr s' hq=>?_);obtain⟨rfl,h2,h3,h4⟩:=hq;exact⟨.inl ⟨.bool true,.bool true,[],rfl,λ_=>rfl,.bool true,a21 l _,λ_=>⟨List.Pairwise.nil,λ_ hm=>(nomatch hm)⟩⟩,h2,h3,h4⟩
end Att
namespace L2
open PySem PySem.Spec PyProof.Rows
theorem G90:∀ {vs:List Ã}{ns:List Int},È1 vs ns->Vals (ns.map V.int) vs
 |_,_,.nil=>.nil|_,_,.cons n t h=>.cons ⟨t,rfl⟩ (G90 h)
def B60(s:À0):Arguments:=match s with
 |.FunctionDef _ a _ _ _ _ _ _ _ _=>a|_=>{ posonlyargs:=[],args:=[],vararg:=none,kwonlyargs:=[],kw_defaults:=[],kwarg:=none,defaults:=[] }
def f50(s:À0):List Stmt:=match s with
 |.FunctionDef _ _ b _ _ _ _ _ _ _=>b|_=>[]
def b10(s:À0):Scope:=match s with
 |.FunctionDef _ _ _ _ _ _ sc _ _ _=>sc|_=>{ kind:=.function,names:=[],isGenerator:=false,isCoroutine:=false }
abbrev CX0:CXT:=λ_ _ _ _ _ _=>False
structure Fun(K:PySem.W.Frag)(x qual:Str)(st:Stmt)(f:Addr)(fd:FuncData):Prop where
 ex:∃ (oc:Value) (od:Option Addr) (kV doc pm:Value) (an:Option Addr) (cdv ct:Value) (osl:Array (Option Value)),
  fd=fnOf x qual (B60 st) (f50 st) (b10 st) .none kV doc pm an cdv ct/\K.lookup f=some ⟨oc,od,.func fd,osl⟩/\PySem.W.codeIn K cdv qual=true
 kp:PySem.W.keepIn K (.ref f)=true
section
variable {P:Ø}{w:ì}{K:À}{mg:Str->Option Ã}{base:á}
theorem Fun.binds{x qual:Str}{st:À0}{f:Æ}{fd:ø}{ps:List Str}(F:Fun K x qual st f fd)
  (h:∀ (kV doc pm:Ã) (an:Option Æ) (cdv ct:Ã) (us:List Ã),us.length=ps.length->bindArgs (fnOf x qual (B60 st) (f50 st) (b10 st) .none kV doc pm an cdv ct) ⟨us,[]⟩=pure (ps.zip us)):Binds K fd ps []:=by
 obtain⟨oc,od,kV,doc,pm,an,cdv,ct,osl,rfl,lk,hcd⟩:=F.ex;exact .all (h kV doc pm an cdv ct)
end
section
variable {X:Cx}
theorem pv(i:Nat){x:Str}{pos:Pos}(hN:X.N[i]?=some x:=by rfl)(hv:Vis X.env.scope x:=by first | exact Í2 rfl | exact Ò0 (Í2 rfl) | exact Ò0 (Ò0 rfl))(hd:(x == ("__debug__":Str))=false:=by decide)
  (hcd:(x == ("__classdict__":Str))=false:=by decide):PE X (.Name x pos) (J61 i):=e20 hN hv hd hcd
end
theorem m02{A B:Prop}(h:B):if false=true then A else B:=by
 rw[if_neg Ï];exact h
theorem q02{A B:Prop}(h:A):if true=true then A else B:=by
 rw[if_pos rfl];exact h
theorem q12{c A B:Prop}[Decidable c](h1:c->A)(h2:¬ c->B):if c then A else B:=by
 by_cases h:c
 ·rw[if_pos h];exact h1 h
 ·rw[if_neg h];exact h2 h
def a10(H H':Hp):Prop:=∀ b o,H b=some o->H' b=some o
theorem a10.refl(H:Hp):a10 H H:=λ_ _ h=>h
theorem a10.trans{H H1 H2:Hp}(a:a10 H H1)(b:a10 H1 H2):a10 H H2:=λc o h=>b c o (a c o h)
end L2
set_option maxHeartbeats 4000000
namespace L2
open PySem
abbrev NoX:Ã->Å->Prop:=λ_ _=>False
theorem B70(env:Env):∀ (names:List (Str × Ç9)) (acc:List (Str × Æ)),(∀ y∈names,y.2=.free->∃ c,env.cells.lookup y.1=some c)->(∀ x c,acc.lookup x=some c->env.cells.lookup x=some c) ->
  ∃ cl:List (Str × Æ),(forIn names acc λ(x:Str × Ç9) (r:List (Str × Æ))=>(if (x.2 == .free)=true then do let c ← cellOf env x.1;pure (yield ((x.1,c)::r)) else pure (yield r):Sem (ForInStep (List (Str × Æ)))))=pure cl /\
   (∀ x c,cl.lookup x=some c->env.cells.lookup x=some c)/\(∀ x c,acc.lookup x=some c->∃ c',cl.lookup x=some c')/\(∀ y∈names,y.2=.free->∃ c,cl.lookup y.1=some c)
 |[],acc,_,ha=>⟨acc,by simp,ha,λx c e=>⟨c,e⟩,λy hy=>absurd hy (by simp)⟩
 |(n,k)::r,acc,hf,ha=>by
  by_cases hk:k=.free
  ·subst hk;obtain⟨c,hc⟩:=hf (n,.free) Ó rfl;have hcell:cellOf env n=pure c:=by unfold cellOf;rw[hc]
   obtain⟨cl,e,h1,h2,h3⟩:=B70 env r ((n,c)::acc) (λy hy=>hf y (Î _ hy)) (λx c' e=>by
    rw[ô] at e;by_cases hx:(x == n)=true
    ·rw[hx] at e;have:x=n:=by simpa using hx
     subst this;cases e;exact hc
    ·rw[show(x == n)=false by simpa using hx] at e
     exact ha x c' e)
   refine⟨cl,?_,h1,λx c' e'=>?_,λy hy hyk=>?_⟩
   ·rw[forIn_cons];simp only[beq_self_eq_true,if_true,hcell,pure_bind];exact e
   ·by_cases hx:(x == n)=true
    ·exact h2 x c (by rw[ô,hx])
    ·exact h2 x c' (by rw[ô,show(x == n)=false by simpa using hx];exact e')
   ·rcases ý.mp hy with rfl | hy
    ·exact h2 n c (by simp[ô])
    ·exact h3 y hy hyk
  ·obtain⟨cl,e,h1,h2,h3⟩:=B70 env r acc (λy hy=>hf y (Î _ hy)) ha;refine⟨cl,?_,h1,h2,λy hy hyk=>?_⟩
   ·rw[forIn_cons];have hb:((k == ê)=true)=False:=by simpa using hk
    simp only[hb,if_false,pure_bind];exact e
   ·rcases ý.mp hy with rfl | hy
    ·exact absurd hyk hk
    ·exact h3 y hy hyk
theorem K60(hf:∀ y∈scope.names,y.2=.free->∃ c,env.cells.lookup y.1=some c) :
  ∃ cl:List (Str × Æ),closureFor scope env=pure cl/\(∀ x c,cl.lookup x=some c->env.cells.lookup x=some c)/\(∀ y∈scope.names,y.2=.free->∃ c,cl.lookup y.1=some c):=by
 obtain⟨cl,e,h1,_,h3⟩:=B70 env scope.names [] hf (λx c e=>by simp at e)
 refine⟨cl,?_,h1,h3⟩;simp only[closureFor];exact(congrArg (λt=>t >>= λr=>(pure r:Sem _)) e).trans (by simp)
section
variable {P:Ø}{w:ì}{A:ï}{R:Result->Å->Prop}{s:Å}
theorem a31{el tg src:Ê}{tests:List Ê}{sc:à}{ps:Pos}{itv av:Ã}{en:Env}(J:Nat->Å->Prop)
  (turn:∀ n s,J n s->Ð (Õ P w) A (pyNext itv) (λr s1=>match r with
   |none=>R (.ok .next) s1
   |some v=>Ð (Õ P w) A (Ö1 tg itv v) (λ_ s2=>Ð (Õ P w) A (Ñ6 tg en v) (λ_ s3 =>
     Ð (Õ P w) A (forIn tests true λc r=>if r=true then do let ok ← isTrue c en (eval c en);pure (yield ok) else pure (yield r)) (λok s4 =>
      if ok=true then Ð (Õ P w) A (eval el en) (λx s5 =>
       Ð (Õ P w) A (call (.builtin "list.append") [av,x]) (λ_ s6=>∃ m,m < n/\J m s6) NoX s5) NoX s4
      else ∃ m,m < n/\J m s4) NoX s3) NoX s2) NoX s1) NoX s)
  (n:Nat) (h:J n s) :
  Ì1 (Õ P w) A (.compLoop (.ListComp el [⟨tg,src,tests,0⟩] sc ps) 0 itv av en) R s:=by
 refine codeAny_loop rfl J (λn s hI=>?_) n h;show Ð _ A ((compTurn (.ListComp el [⟨tg,src,tests,0⟩] sc ps) 0 itv av en).onRaise (λx=>do noteFrame x en;theTreesLotGoes x)) _ _ s;refine wpAny_noted ?_;rw[compTurn_list];refine Á (Ò6 (Á (Á2 (turn n s hI) (λr s1 h1=>?_) λ_ _ x=>x.elim)));cases r with
 |none=>exact Ç h1
 |some v =>
  refine Á (Á2 h1 (λ_ s2 h2=>?_) λ_ _ x=>x.elim);refine Á (Á2 h2 (λ_ s3 h3=>Á (Á2 h3 (λok s4 h4=>?_) λ_ _ x=>x.elim)) λ_ _ x=>x.elim);cases ok with
  |false=>exact Ç ⟨rfl,h4⟩|true=>exact Á (Á (Á2 h4 (λx s5 h5=>Á (Á2 h5 (λ_ s6 h6=>Ç (Ç ⟨rfl,h6⟩)) λ_ _ x=>x.elim)) λ_ _ x=>x.elim))
end
open PySem PySem.Spec PyProof.Rows
abbrev b60(X:Cx)(N':List Str)(sc:à)(cl:List (Str × Æ))(C:Æ)(s:Å)(H:Hp)(fp:List Æ):Cx :=
 { X with N:=N',s₀:=s,H₀:=H,env:=compEnvC sc cl C X.env,outer:=X.stack,stack:=X.stack,ex:=fp,fn:=λ_=>false,pn:=[],xe:=NoX }
def c60(own:List Str)(capt:List (Str × Nat)):List Str:=own++capt.map (·.1)
def n40(own:List Str)(capt:List (Str × Nat))(σ:St):St:=own.map (λ_=>none)++capt.map λp=>(σ[p.2]?).getD none
structure l60(X:Cx)(sc:Scope)(own:List Str)(capt:List (Str × Nat)):Prop where
 kind:sc.kind=.function
 nocell:∀ y∈sc.names,y.2≠.cell
 locs:∀ y∈sc.names,y.2=.local->sc.names.lookup y.1=some .local
 frees:∀ y∈sc.names,y.2=.free->X.env.kindOf y.1=some .cell∨X.env.kindOf y.1=some .free
 captd:∀ p∈capt,X.N[p.2]?=some p.1/\sc.names.lookup p.1=some .free
theorem B80{env:Env}:∀ {names:List (Str × Ç9)}{x:Str}{k:Ç9},
  (names.map λ(n,k)=>if (k == ê&&env.scope.kind == .function&&env.kindOf n == some .cell) then(n,Ã3) else(n,k)).lookup x=some k->(k=.cell∨k=.free)->(∀ y∈names,y.2≠.cell)->(x,ê)∈names
 |[],_,_,h,_,_=>by simp at h
 |(n,k0)::r,x,k,h,hk,hn=>by
  have h:É1 x ((if (k0 == ê&&env.scope.kind == .function&&env.kindOf n == some .cell)=true then(n,Ã3) else(n,k0))::_)=some k:=h;have hn0:k0≠.cell:=hn (n,k0) Ó;cases hx:x == n with
  |true =>
   have e:x=n:=by simpa using hx
   subst e;by_cases hc:(k0 == ê&&env.scope.kind == .function&&env.kindOf x == some .cell)=true
   ·have:k0=.free:=by
     cases k0 <;> simp_all
    subst this;exact Ó
   ·rw[if_neg hc] at h;simp only[ô,hx] at h;cases h;rcases hk with hk | hk
    ·exact absurd hk hn0
    ·subst hk;exact Ó
  |false =>
   have h':(r.map λ(n,k)=>if (k == ê&&env.scope.kind == .function&&env.kindOf n == some .cell) then(n,Ã3) else(n,k)).lookup x=some k:=by
    by_cases hc:(k0 == ê&&env.scope.kind == .function&&env.kindOf n == some .cell)=true
    ·rw[if_pos hc] at h;simp only[ô,hx] at h;exact h
    ·rw[if_neg hc] at h;simp only[ô,hx] at h;exact h
   exact Î _ (B80 h' hk λy hy=>hn y (Î _ hy))
theorem m40{env:Env}:∀ {names:List (Str × Ç9)}{x:Str},names.lookup x=some .free ->
  (names.map λ(n,k)=>if (k == ê&&env.scope.kind == .function&&env.kindOf n == some .cell) then(n,Ã3) else(n,k)).lookup x=some .cell ∨
  (names.map λ(n,k)=>if (k == ê&&env.scope.kind == .function&&env.kindOf n == some .cell) then(n,Ã3) else(n,k)).lookup x=some .free
 |[],_,h=>by simp at h
 |(n,k)::r,x,h=>by
  have ih:=@m40 env r x;show É1 x ((if (k == ê&&env.scope.kind == .function&&env.kindOf n == some .cell)=true then(n,Ã3) else(n,k))::_)=_∨É1 x ((if (k == ê&&env.scope.kind == .function&&env.kindOf n == some .cell)=true then(n,Ã3) else(n,k))::_)=_;cases hx:x == n with
  |true =>
   simp only[ô,hx] at h;cases h;by_cases hc:(ê == ê&&env.scope.kind == .function&&env.kindOf n == some .cell)=true
   ·rw[if_pos hc];left;simp only[ô,hx]
   ·rw[if_neg hc];right;simp only[ô,hx]
  |false =>
   simp only[ô,hx] at h;by_cases hc:(k == ê&&env.scope.kind == .function&&env.kindOf n == some .cell)=true
   ·rw[if_pos hc];simp only[ô,hx];exact ih h
   ·rw[if_neg hc];simp only[ô,hx];exact ih h
theorem HOk.o81{P:Ø}{w:ì}{H:Hp}{h:á}{D:Æ}{ys:List V}{its:List Ã}{n:Nat}(x:HOk P w H h)(hn:H D=none)(hv:Vals ys its)(hz:ys.length<=sizeLine)
  (ho:h.get? D=some { cls:=.type "list",data:=.seq its.toArray n }):HOk P w (upd H D (.lst ys)) h:=λb u e=>by
 by_cases hb:b=D
 ·subst hb;rw[a90] at e;cases e;exact⟨hz,its,n,hv,ho⟩
 ·rw[a20 hb] at e;exact(x b u e).U20 (λc v _ q=>q) (λc q=>by rw[a20 (a60 q hn)];exact q) λc xs q=>by rw[a20 (a60 q hn)];exact q
def PTs(X:Cx)(tests:List Ê)(t:TT):Prop :=
 ∀ (pins:List (Æ × Obj)) (s:Å) (σ:St) (H:Hp) (Q:Bool->Hp->Prop),Inv X pins σ H s->t σ H Q ->
  Ð (Õ X.prog X.w) X.A (forIn tests true λc r=>if r=true then do let ok ← isTrue c X.env (eval c X.env);pure (yield ok) else pure (yield r)) (TP X pins σ Q) X.xe s
def a41:TT:=λ_ H Q=>Q true H
theorem a51:PTs X [] a41:=λ_ _ _ H _ I h=>wpAny_tests_nil ⟨H,I,h⟩
theorem a61(hc:PT X c t):PTs X [c] t:=λpins s σ H Q I h=>wpAny_tests_one (hc pins s σ H Q I h)
section
variable {X:Cx}{pins:List (Æ × Obj)}{σ:St}{H2:Hp}{s2:Å}{sc:à}{own:List Str}{capt:List (Str × Nat)}{cl:List (Str × Æ)}{fp:List Æ}{C:Æ}
theorem H00(I:Inv X pins σ H2 s2)(S:l60 X sc own capt)(hcl:∀ x c,cl.lookup x=some c->X.env.cells.lookup x=some c)(hcf:∀ y∈sc.names,y.2=.free->∃ c,cl.lookup y.1=some c)
  (hx:∀ x c,X.env.cells.lookup x=some c->c ∉ fp) {h':á} (un:∀ c o,s2.heap.get? c=some o->H2 c=none->c ∉ fp->∃ sl,h'.get? c=some { o with slots:=sl }) (m:Str->Option Ã) :
  ∀ (i:Nat) (x:Str) (v:V),(c60 own capt)[i]?=some x->(n40 own capt σ)[i]?=some (some v)->∃ u,RelV v u/\Look (compEnvC sc cl C X.env) h' m x u:=by
 intro i x v e1 e2;unfold c60 at e1;unfold n40 at e2;by_cases hi:i < own.length
 ·rw[Ë6 (by simpa using hi),Ù] at e2
  cases q:own[i]? with
  |none=>rw[q] at e2;cases e2
  |some y=>rw[q] at e2;cases e2
 ·rw[Â7 (by simpa using hi),É,Ù] at e2
  rw[Â7 (by simpa using hi),Ù] at e1
  cases q:capt[i - own.length]? with
  |none=>rw[q] at e1;cases e1
  |some p =>
   rw[q] at e1 e2;obtain rfl:p.1=x:=ð e1;have e3:(σ[p.2]?).getD none=some v:=ð e2;have e4:σ[p.2]?=some (some v):=by
    cases z:σ[p.2]? with
    |none=>rw[z] at e3;cases e3
    |some w=>rw[z] at e3;exact congrArg some e3
   obtain⟨hN,hf⟩:=S.captd p (Ü q);have hmem:(p.1,ê)∈sc.names:=À2 hf;have hk:=S.frees _ hmem rfl;obtain⟨m0,_,hl⟩:=I.loc;have vis:Vis X.env.scope p.1:=.inr hk;obtain⟨u,r,lk⟩:=hl p.2 p.1 v hN e4 vis;refine⟨u,r,.inr ⟨?_,?_⟩⟩
   ·exact m40 hf
   ·rcases lk with ⟨hl0,_⟩ | ⟨_,c,hc,o,ho,hd⟩
    ·rcases hk with hk | hk <;> (rw[hk] at hl0;cases hl0)
    ·obtain⟨c',hc'⟩:=hcf _ hmem rfl;have:=hcl _ _ hc';rw[hc] at this;cases this;obtain⟨sl,q'⟩:=un c o ho (I.freeC _ _ hc) (hx _ _ hc);exact⟨c,hc',_,q',hd⟩
end
def B31(X:Cx)(pins:List (Æ × Obj))(σ:St)(R:V->Hp->Prop)(acc:Ã)(C:Æ)(s':Å):Prop :=
 ∃ D H' m',acc=.ref D/\Inv X pins σ H' s'/\K30 X pins H' C/\s'.heap.Ns C m'/\R (.ref D) H'
def U90(J:It)(σ0:St)(H1:Hp)(g:TG)(tt:TT)(te:TE)(Q:VK):Prop:=∃ W:Nat->Nat->List V->Hp->Prop,(∃ m,W 0 m [] H1)/\∀ i m ys H,W i m ys H ->
 (J.stop i H/\∀ p,H p=none->Q (.ref p) (upd H p (.lst ys))) ∨
 (J.go i H/\ys.length < sizeLine/\∃ N:List V->Hp->Prop,(∀ zs H',N zs H'->∃ m',m' < m/\W (i + 1) m' zs H')/\∀ x H',J.yld i H x H'->g x σ0 H' λσ2 H2=>tt σ2 H2 λb H3 =>
  if b=true then te σ2 H3 (λy H4=>N (ys++[y]) H4) else N ys H3)
def B41(own:List Str)(capt:List (Str × Nat))(wi:TI)(g:TG)(tt:TT)(te:TE):TE:=λσ H Q=>wi σ H λJ H1=>U90 J (n40 own capt σ) H1 g tt te Q
section
variable {X:Cx}{pins:List (Æ × Obj)}{σ:St}{H2:Hp}{s2:Å}{sc:à}{own:List Str}{capt:List (Str × Nat)}{cl:List (Str × Æ)}{el tg src:Ê}{tests:List Ê}{ps:Pos}{g:TG}{tt:TT}{te:TE}
theorem q70(hc:X.calm=true)(S:l60 X sc own capt)(hcl:∀ x c,cl.lookup x=some c->X.env.cells.lookup x=some c)(hcf:∀ y∈sc.names,y.2=.free->∃ c,cl.lookup y.1=some c)
  (hg:∀ C s H fp,PG (b60 X (c60 own capt) sc cl C s H fp) tg g) (ht:∀ C s H fp,PTs (b60 X (c60 own capt) sc cl C s H fp) tests tt) (he:∀ C fp,(∀ b∈fp,K30 X pins H2 b)->PE (b60 X (c60 own capt) sc cl C s2 H2 fp) el te)
  {it:Æ}{fp:List Æ}{tn:Nat->á->Prop}{J:It} (I2:Inv X pins σ H2 s2) (T:Turn X.prog X.w X.K tg J fp it tn) (st2:tn 0 s2.heap) (f2:∀ b∈fp,K30 X pins H2 b)
  {R:VK} (h:U90 J (n40 own capt σ) H2 g tt te R) {RR:Ã->Æ->Result->Å->Prop} (hRR:∀ acc C s',B31 X pins σ R acc C s'->RR acc C (.ok .next) s') {E:Ã->Å->Prop} :
  Ð (Õ X.prog X.w) X.A (newList []) (λacc s3=>Ð (Õ X.prog X.w) X.A (newFunctionEnv sc X.env.globals cl [] X.env.qual none .none (some X.env)) (λce s4 =>
   Ì1 (Õ X.prog X.w) X.A (.compStart (.ListComp el [⟨tg,src,tests,0⟩] sc ps) 0 (.ref it) acc { ce with scope:=relabel sc X.env }) (RR acc ce.locals) s4) E s3) E s2:=by
 obtain⟨W,⟨m0,w0⟩,turn⟩:=h;refine û (Ñ4 S.nocell (by intro y hy;simp at hy) (λh1 hns1 hsb1=>?_) S.kind)
 dsimp only at hns1 hsb1 ⊢;generalize hH3:s2.heap.push { cls:=.type "list",dict:=none,data:=.seq ([]:List Ã).toArray }=h3 at hns1 hsb1 ⊢;have hC:h3.objs.size=s2.heap.objs.size + 1:=by rw[← hH3,Ê4]
 have below:∀ b,b < s2.heap.objs.size->b≠h3.objs.size/\b≠s2.heap.objs.size:=λb hb=>⟨by omega,by omega⟩
 have hDC:s2.heap.objs.size≠h3.objs.size:=by omega
 have old:∀ b o,s2.heap.get? b=some o->h1.get? b=some o:=λb o e=>hsb1.extBut b o (below b (Û e)).1 (Ä _ (hH3 ▸ Ä _ e));have hacc:h1.get? s2.heap.objs.size=some { cls:=.type "list",data:=.seq ([]:List Ã).toArray 0 }:=hsb1.extBut _ _ hDC (Ä _ (hH3 ▸ Ì _ rfl));have fpLt:∀ b∈fp,b < s2.heap.objs.size:=λb hb=>by
  obtain⟨o,e,_⟩:=T.obj _ _ st2 b hb;exact Û e
 have celLt:∀ x c,X.env.cells.lookup x=some c->c < s2.heap.objs.size:=λx c e=>by
  obtain⟨v,o,q,_⟩:=I2.cell x c e;exact Û q
 have frLt:∀ b∈frs X.stack,b < s2.heap.objs.size:=λb hb=>by
  obtain⟨_,o,q,_⟩:=I2.stack.mem hb;exact Û q
 have celFp:∀ x c,X.env.cells.lookup x=some c->c ∉ fp:=λx c e hb=>(f2 c hb).2.2.2.2.1 x c e rfl;have fpFr:∀ b∈fp,b ∉ frs X.stack:=λb hb hf=>by
  rcases ý.mp (I2.Y20 b hf) with z | z
  ·exact(f2 b hb).2.1 z
  ·exact(f2 b hb).2.2.1 z
 have okX:(b60 X (c60 own capt) sc cl h3.objs.size s2 H2 fp).Ok:=by
  refine⟨I2.ok.mod,S.kind,I2.ok.glob,I2.ok.blt,(by show s2.heap.objs.size<=h3.objs.size;omega),λx y c e1 e2=>I2.ok.inj x y c (hcl x c e1) (hcl y c e2),λx hx=>?_,λx c hx=>(by cases hx),I2.ok.hd,I2.ok.frames,.inl rfl,
   λb hb=>⟨(below b (fpLt b hb)).1,λx c e z=>celFp x c (hcl x c e) (z ▸ hb)⟩,I2.bs,ë I2.ok.bsz I2.sz,λb o e hb=>?_,fpFr,I2.stack,I2.q50⟩
  ·have hx':(x,ê)∈sc.names:=by
    rcases hx with hx | hx
    ·exact B80 hx (.inl rfl) S.nocell
    ·exact B80 hx (.inr rfl) S.nocell
   exact hcf _ hx' rfl
  ·rcases (f2 b hb).2.2.2.1 with z | z
   ·exact I2.ok.noex b o e z
   ·have l1:b < X.base.objs.size:=Û e;have l2:X.base.objs.size<=X.s₀.heap.objs.size:=I2.ok.bsz;have l3:X.s₀.heap.objs.size<=b:=z;exact absurd l1 (Nat.not_lt.mpr (ë l2 l3))
 have reset:∀ {pl:List (Æ × Obj)}{σ':St}{H':Hp}{s':Å},Inv (b60 X (c60 own capt) sc cl h3.objs.size s2 H2 fp) pl σ' H' s'->Inv (b60 X (c60 own capt) sc cl h3.objs.size s2 H2 fp) pl (n40 own capt σ) H' s':=λ{pl σ' H' s'} I'=>by
  obtain⟨m,hn,_⟩:=I'.loc;refine⟨I'.ok,I'.os,I'.bare,I'.base,⟨m,hn,λi x v e1 e2 _=>H00 I2 S hcl hcf celFp (λc o q n hx=>I'.base.any q n hx) m i x v e1 e2⟩,I'.cell,I'.free,I'.freeC,I'.pin,I'.hok,?_⟩;show(n40 own capt σ).length=(c60 own capt).length;simp[n40,c60]
 have start:Inv (b60 X (c60 own capt) sc cl h3.objs.size s2 H2 fp) [(s2.heap.objs.size,{ cls:=.type "list",data:=.seq ([]:List Ã).toArray 0 })] (n40 own capt σ) H2 { s2 with heap:=h1,toks:=s2.toks + ([]:List (Str × Ã)).length }:=by
  refine⟨okX,rfl,I2.bare,Un.kept old,⟨_,hns1,λi x v e1 e2 _=>H00 I2 S hcl hcf celFp (λc o q _ _=>⟨o.slots,old c o q⟩) _ i x v e1 e2⟩,λx c e=>?_,?_,λx c e=>I2.freeC x c (hcl x c e),λp hp=>?_,I2.hok.kept old,?_⟩
  ·obtain⟨v,q⟩:=I2.cell x c (hcl x c e);exact⟨v,q.keeps old⟩
  ·exact I2.hok.fresh (by show s2.heap.objs.size<=h3.objs.size;omega)
  ·have hp':p=(s2.heap.objs.size,{ cls:=.type "list",data:=.seq ([]:List Ã).toArray 0 }):=by simpa using hp
   subst hp';exact⟨hacc,I2.hok.fresh (È _),hDC,λz=>ó _ (frLt _ z),λv z=>by cases z⟩
  ·show(n40 own capt σ).length=(c60 own capt).length;simp[n40,c60]
 have X90:∀ {pl:List (Æ × Obj)}{H':Hp},(∀ p∈pl,p.1 ∉ fp)->(∀ b∈fp,H' b=none)->∀ b∈fp,K30 (b60 X (c60 own capt) sc cl h3.objs.size s2 H2 fp) pl H' b:=λ{pl H'} hp hn b hb =>
  ⟨hn b hb,(below b (fpLt b hb)).1,fpFr b hb,.inl hb,λx c e z=>celFp x c (hcl x c e) (z ▸ hb),λp hpp z=>hp p (by simpa using hpp) (z ▸ hb)⟩
 have hDfp:s2.heap.objs.size ∉ fp:=λz=>ó _ (fpLt _ z);have loop:∀ s3:Å,s3={ s2 with heap:=h1,toks:=s2.toks + ([]:List (Str × Ã)).length } ->
   Ì1 (Õ X.prog X.w) X.A (.compLoop (.ListComp el [⟨tg,src,tests,0⟩] sc ps) 0 (.ref it) (.ref s2.heap.objs.size) (compEnvC sc cl h3.objs.size X.env)) (RR (.ref s2.heap.objs.size) h3.objs.size) s3:=by
  rintro s3 rfl;refine a31 (λn s'=>∃ i ys H' its k,Inv (b60 X (c60 own capt) sc cl h3.objs.size s2 H2 fp) [(s2.heap.objs.size,{ cls:=.type "list",data:=.seq (toArray its) k })] (n40 own capt σ) H' s'/\tn i s'.heap/\(∀ b∈fp,H' b=none)/\Vals ys its/\ys.length<=sizeLine/\W i n ys H') ?_ m0
   ⟨0,[],H2,[],0,start,T.keep _ _ _ st2 λb _ o e=>old b o e,λb hb=>(f2 b hb).1,.nil,Æ3 _,w0⟩
  rintro n s' ⟨i,ys,H',its,k,I',st',fr',hv,hz,w'⟩;have pinD:∀ p∈[((s2.heap.objs.size:Æ),({ cls:=.type "list",data:=.seq (toArray its) k }:Obj))],p.1 ∉ fp:=λp hp=>by
   have hp':p=(s2.heap.objs.size,{ cls:=.type "list",data:=.seq (toArray its) k }):=by simpa using hp
   subst hp';exact hDfp
  rcases turn i n ys H' w' with ⟨stop,q⟩ | ⟨go,hlt,N,hN,step⟩
  ·refine thn (T.done (b60 X (c60 own capt) sc cl h3.objs.size s2 H2 fp) rfl rfl rfl hc i _ s' _ H' NoX I' (X90 pinD fr') st' stop) λr s1 hr=>?_;obtain⟨hr,I1⟩:=hr;subst hr;obtain⟨gD,nD,_,_,_⟩:=I1.pin _ (ä _ Ó);obtain⟨m',hn',_⟩:=id I1.loc;have un:Un (frs X.stack) fp H2 (upd H' s2.heap.objs.size (.lst ys)) s2.heap s1.heap:=by
    have u:=I1.base;have nD2:H2 s2.heap.objs.size=none:=I2.hok.fresh (È _);refine⟨u.keep,u.slot,λb o e n hx=>?_,u.there,λb xs e=>?_,λb o xs e=>?_,λb ps' e=>?_⟩
    ·rw[a20 (below b (Û e)).2];exact u.free b o e n hx
    ·rw[a20 (a60 e nD2)];exact u.tups b xs e
    ·rw[a20 (a60 e nD2)];exact u.frzs b o xs e
    ·obtain⟨more,e'⟩:=u.tbls b ps' e;exact⟨more,by rw[a20 (a60 e nD2)];exact e'⟩
   have IX:Inv X pins σ (upd H' s2.heap.objs.size (.lst ys)) s1:=I2.K91 I1.os un (I1.hok.o81 nD hv hz gD) I1.bare λb hb=>⟨(f2 b hb).2.2.2.1,(f2 b hb).2.1,(f2 b hb).2.2.2.2.1,(f2 b hb).2.2.2.2.2⟩;refine hRR _ _ _ ⟨_,_,m',rfl,IX,?_,hn',q _ nD⟩;exact I2.X90 ∅ (by rw[a20 hDC.symm];exact I1.free)
  ·refine thn (T.item (b60 X (c60 own capt) sc cl h3.objs.size s2 H2 fp) rfl rfl rfl hc i _ s' _ H' NoX I' (X90 pinD fr') st' go) λr s1 hr=>?_;obtain⟨u,hr,h4⟩:=hr;subst hr;refine thn h4 λ_ s5 hr5=>?_;obtain⟨x,H5,I5,r5,y5,st5,fr5⟩:=hr5;have I5p:=I5.pinned (X90 pinD fr5) (T.obj _ _ st5);refine thn (hg _ _ _ _ _ s5 _ H5 x u _ I5p r5 (step x H5 y5)) λ_ s6 hr6=>?_;obtain⟨σ6,H6,I6,q6⟩:=hr6;refine thn (ht _ _ _ _ _ s6 σ6 H6 _ I6 q6) λok s7 hr7=>?_;obtain⟨H7,I7,q7⟩:=hr7;have memFp:∀ {pl:List (Æ × Obj)}{b:Æ}{o:Obj},b∈fp->s5.heap.get? b=some o->(b,o)∈([]:List (Æ × Obj))++(pl++u50 fp s5.heap):=λhb e=>ä _ (ä _ (j30 hb e));cases ok with
   |false =>
    rw[if_neg Ï] at q7 ⊢;obtain⟨m',hm,w7⟩:=hN _ _ q7;refine⟨m',hm,i + 1,ys,H7,its,k,reset (I7.u10 λp hp=>I7.pin p (ä _ (Å2 _ hp))),T.keep _ _ _ st5 λb hb o e=>(I7.pin (b,o) (memFp hb e)).1,λb hb=>?_,hv,hz,w7⟩;obtain⟨o,e,_⟩:=T.obj _ _ st5 b hb;exact(I7.pin (b,o) (memFp hb e)).2.1
   |true =>
    rw[if_pos rfl] at q7 ⊢;refine thn (he _ _ f2 _ s7 σ6 H7 _ I7 q7) λuv s8 hr8=>?_;obtain⟨y,H8,I8,r8,q8⟩:=hr8;obtain⟨m',hm,w8⟩:=hN _ _ q8;obtain⟨gD,nD,dC,dF,_⟩:=I8.pin _ (ä _ (Å2 _ Ó));refine append_at gD (λh9 sb hD9=>?_) (by show(toArray its).size<=sizeLine;rw[Ô,← hv.length];exact hz)
    have I8a:Inv (b60 X (c60 own capt) sc cl h3.objs.size s2 H2 fp) (u50 fp s5.heap) σ6 H8 s8:=I8.u10 λp hp=>I8.pin p (ä _ (ä _ hp));have I9:Inv (b60 X (c60 own capt) sc cl h3.objs.size s2 H2 fp) (u50 fp s5.heap) σ6 H8 { s8 with heap:=h9 }:=I8a.turned (t':=s8.toks) (λb o hb e=>(sb.2 b hb).trans e) nD dC (.inr (È _))
     (λx c e z=>ó s2.heap.objs.size (by have:=celLt x c (hcl x c e);rw[z] at this;exact this)) (λp hp z=>hDfp (z ▸ (F80 (by simpa using hp)).1))
    rw[List.push_toArray] at hD9;refine⟨m',hm,i + 1,ys++[y],H8,its++[uv],k + 1,(reset I9).u10 λp hp=>?_,T.keep _ _ _ st5 λb hb o e=>?_,λb hb=>?_,hv.append (.cons r8 .nil),by rw[ÿ];exact hlt,w8⟩
    ·have hp':p=(s2.heap.objs.size,{ cls:=.type "list",data:=.seq (toArray (its++[uv])) (k + 1) }):=by simpa using hp
     subst hp';exact⟨hD9,nD,dC,dF,λv z=>by cases z⟩
    ·exact(I9.pin (b,o) (ä _ (j30 hb e))).1
    ·obtain⟨o,e,_⟩:=T.obj _ _ st5 b hb;exact(I9.pin (b,o) (ä _ (j30 hb e))).2.1
 exact codeAny_compStart_list (loop _ rfl) (T.self _ 0 _ _ _ (T.keep _ _ _ st2 λb _ o e=>old b o e) (loop _ rfl))
end
section
variable {X:Cx}{sc:à}{own:List Str}{capt:List (Str × Nat)}{el tg src:Ê}{tests:List Ê}{ps pos:Pos}{wi:TI}{g:TG}{tt:TT}{te:TE}
theorem a71(hc:X.calm=true)(S:l60 X sc own capt)(hi:PI X tg src wi)(hg:∀ cl C s H fp,PG (b60 X (c60 own capt) sc cl C s H fp) tg g)
  (ht:∀ cl C s H fp,PTs (b60 X (c60 own capt) sc cl C s H fp) tests tt) (he:∀ cl C s H fp,PE (b60 X (c60 own capt) sc cl C s H fp) el te)
  (hs:∀ x,Ä1 src X.env x=pure x:=by intro _;rfl):PE X (.ListComp el [⟨tg,src,tests,0⟩] sc ps) (B41 own capt wi g tt te):=by
 intro pins s σ H Q I h;obtain⟨cl,hclos,hcl,hcf⟩:=K60 (scope:=sc) (env:=X.env) λy hy hk=>I.ok.has y.1 (S.frees y hy hk);rw[eval_ListComp];refine Î1 (use:=none) rfl hs hclos S.kind S.locs (thn (hi pins s σ H _ I h) λv s1 h1=>thn h1 λitv s2 h2=>?_);obtain⟨it,fp,tn,J,H2,e,I2,T,st2,f2,hw⟩:=h2;subst e;refine q70 hc S hcl hcf (hg cl) (ht cl) (λC fp _=>he cl C _ _ fp) I2 T st2 f2 hw (RR:=λacc C=>compPost (Õ X.prog X.w) X.A X.xe none (EP X pins σ Q) acc C) λacc C s' hf=>?_;obtain⟨D,H',m',rfl,I',f',ns',r⟩:=hf;exact⟨m',ns',λh' sb=>⟨.ref D,H',I'.turned (t':=s'.toks) (λb o hb e=>(sb.2 b hb).trans e) f'.1 f'.2.1 f'.2.2.2.1 f'.2.2.2.2.1 f'.2.2.2.2.2,rfl,r⟩⟩
theorem o91{te:St->Hp->TE}{Cond:St->Hp->Prop}(hc:X.calm=true)(S:l60 X sc own capt)(hi:PI X tg src wi)(hg:∀ cl C s H fp,PG (b60 X (c60 own capt) sc cl C s H fp) tg g)
  (ht:∀ cl C s H fp,PTs (b60 X (c60 own capt) sc cl C s H fp) tests tt) (he:∀ cl pins σ H s,Inv X pins σ H s->(∀ x c,cl.lookup x=some c->X.env.cells.lookup x=some c)->Cond σ H->∀ C fp,(∀ b∈fp,K30 X pins H b)->PE (b60 X (c60 own capt) sc cl C s H fp) el (te σ H))
  (hs:∀ x,Ä1 src X.env x=pure x:=by intro _;rfl):PE X (.ListComp el [⟨tg,src,tests,0⟩] sc ps) (λσ H Q=>wi σ H λJ H1=>Cond σ H1/\U90 J (n40 own capt σ) H1 g tt (te σ H1) Q):=by
 intro pins s σ H Q I h;obtain⟨cl,hclos,hcl,hcf⟩:=K60 (scope:=sc) (env:=X.env) λy hy hk=>I.ok.has y.1 (S.frees y hy hk);rw[eval_ListComp];refine Î1 (use:=none) rfl hs hclos S.kind S.locs (thn (hi pins s σ H _ I h) λv s1 h1=>thn h1 λitv s2 h2=>?_);obtain⟨it,fp,tn,J,H2,e,I2,T,st2,f2,cd,hw⟩:=h2;subst e;refine q70 hc S hcl hcf (hg cl) (ht cl) (λC fp hf=>he cl _ _ _ _ I2 hcl cd C fp hf) I2 T st2 f2 hw (RR:=λacc C=>compPost (Õ X.prog X.w) X.A X.xe none (EP X pins σ Q) acc C) λacc C s' hf=>?_;obtain⟨D,H',m',rfl,I',f',ns',r⟩:=hf;exact⟨m',ns',λh' sb=>⟨.ref D,H',I'.turned (t':=s'.toks) (λb o hb e=>(sb.2 b hb).trans e) f'.1 f'.2.1 f'.2.2.2.1 f'.2.2.2.2.1 f'.2.2.2.2.2,rfl,r⟩⟩
theorem B51{i:Nat}{y:Str}{py:Pos}(hN:X.N.Nodup)(hiN:X.N[i]?=some y)(hy:Loc X.env.scope y)(hsw:É4 (.ListComp el [⟨tg,src,tests,0⟩] sc ps) (some (.Name y py)) pos.line X.env=pure true)
  (hc:X.calm=true) (S:l60 X sc own capt) (hi:PI X tg src wi) (hg:∀ cl C s H fp,PG (b60 X (c60 own capt) sc cl C s H fp) tg g)
  (ht:∀ cl C s H fp,PTs (b60 X (c60 own capt) sc cl C s H fp) tests tt) (he:∀ cl C s H fp,PE (b60 X (c60 own capt) sc cl C s H fp) el te)
  (hs:∀ x,Ä1 src X.env x=pure x:=by intro _;rfl) (hf:X.fn y=true∨X.env.scope.names.lookup y=some .local:=by first | exact .inl rfl | exact .inr rfl | assumption) :
  PS X (.Assign [.Name y py] (.ListComp el [⟨tg,src,tests,0⟩] sc ps) pos) (L71 (B41 own capt wi g tt te) (A80 i)):=by
 intro pins s σ H D I h;obtain⟨cl,hclos,hcl,hcf⟩:=K60 (scope:=sc) (env:=X.env) λy hy hk=>I.ok.has y.1 (S.frees y hy hk);rw[exec_Assign_Name_used _ _ _ _ hsw];refine Á (Ò6 (Á ?_));show Ð _ X.A (do let _ ← comprehension (.ListComp el [⟨tg,src,tests,0⟩] sc ps) sc X.env _ (newList []) false (eval src X.env) (some (Ñ6 (.Name y py) X.env))) _ _ s;refine Á (Á2 (Î1 (use:=some (Ñ6 (.Name y py) X.env)) (Q:=λ_ s'=>SP X pins D .next s') rfl hs hclos S.kind S.locs
  (thn (hi pins s σ H _ I h) λv s1 h1=>thn h1 λitv s2 h2=>?_)) (λ_ s' hq=>Ç (Ç hq)) λ_ _ e=>e)
 obtain⟨it,fp,tn,J,H2,e,I2,T,st2,f2,hw⟩:=h2;subst e;refine q70 hc S hcl hcf (hg cl) (ht cl) (λC fp _=>he cl C _ _ fp) I2 T st2 f2 hw (RR:=λacc C=>compPost (Õ X.prog X.w) X.A X.xe (some (Ñ6 (.Name y py) X.env)) (λ_ s'=>SP X pins D .next s') acc C) λacc C s' hfn=>?_;obtain⟨DA,H',m',rfl,I',f',ns',r⟩:=hfn;show Ð _ X.A (Ñ6 (.Name y py) X.env (.ref DA)) _ _ _;refine wpAny_assign_Name (u20 (v:=.ref DA) I' hN hiN hy rfl (λs3 I3 ha=>?_) hf);obtain⟨a,sb,ha⟩:=ha;have hCa:C≠a:=λz=>by
  rcases ha with q | q
  ·exact f'.2.1 (z.trans q)
  ·exact f'.2.2.2.2.1 _ _ q z.symm
 exact⟨m',ns'.sameBut sb hCa,λh' sb'=>⟨_,H',I3.turned (t':=s3.toks) (λb o hb e=>(sb'.2 b hb).trans e) f'.1 f'.2.1 f'.2.2.2.1 f'.2.2.2.2.1 f'.2.2.2.2.2,r⟩⟩
end
end L2
namespace L2
open PySem
section
variable {P:Ø}{w:ì}{A:ï}{E:Ã->Å->Prop}{s:Å}
theorem m50{r t:Æ}{k:Nat}{vs:Array Ã}{x:Ã}{Q:Ã->Å->Prop}(hr:s.heap.IsTupleIter r t k)(ht:s.heap.IsTuple t vs)(hx:vs[k]?=some x)
  (hQ:∀ h',h'.IsTupleIter r t (k + 1)->Ò3 r s.heap h'->Q x { s with heap:=h' }):Ð (Õ P w) A (nextOf (.ref r)) Q E s:=by
 obtain⟨o,ho,hc,hd⟩:=id hr;obtain⟨ot,hot,_,nt,hdt⟩:=ht;unfold nextOf;refine Á (Â3 (name:=À5 "__next__") hr.typeIs Æ2 (Ä9 Æ2 hr.typeIs Õ9 ?_ (Õ6 _)));show Ð _ _ (field (.ref r) 0 >>= _) _ _ s;refine Á (À8 ho hd (x:=.ref t) rfl ?_);show Ð _ _ (if (Á9 t == å)=true then _ else _) _ _ s;rw[if_neg (show ¬ ((Á9 t == å)=true) from Ï)];show Ð _ _ (field (.ref r) 1 >>= _) _ _ s;refine Á (À8 ho hd (x:=.int k 0) rfl ?_);show Ð _ _ (seqItems? (.ref t) >>= _) _ _ s;refine Á (Ä8 hot hdt ?_);simp only[Ã8,hx];refine Á (wpAny_setField ho hd (by simp) (Ç ⟨x,rfl,Ç (hQ _ ⟨_,Ø0 _ ho (Obj.isFreed_of_fields (Obj.data_mapFields hd _)),(Obj.cls_mapFields ..).trans hc,by rw[Obj.data_mapFields hd];simp[Æ0]⟩ (È3 ..))⟩))
theorem k00{r t:Æ}{k:Nat}{vs:Array Ã}{Q:Ã->Å->Prop}(hh:A.handled=none)(hr:s.heap.IsTupleIter r t k)(ht:s.heap.IsTuple t vs)(hx:vs[k]?=none)
  (hE:∀ h' e,á.ExtBut r s.heap h'->(∃ o,h'.get? e=some o/\o.cls=.type "StopIteration")->E (.ref e) { s with heap:=h' }):Ð (Õ P w) A (nextOf (.ref r)) Q E s:=by
 obtain⟨o,ho,hc,hd⟩:=id hr;obtain⟨ot,hot,_,nt,hdt⟩:=ht;unfold nextOf;refine Á (Â3 (name:=À5 "__next__") hr.typeIs Æ2 (Ä9 Æ2 hr.typeIs Õ9 ?_ (Õ6 _)));show Ð _ _ (field (.ref r) 0 >>= _) _ _ s;refine Á (À8 ho hd (x:=.ref t) rfl ?_);show Ð _ _ (if (Á9 t == å)=true then _ else _) _ _ s;rw[if_neg (show ¬ ((Á9 t == å)=true) from Ï)];show Ð _ _ (field (.ref r) 1 >>= _) _ _ s;refine Á (À8 ho hd (x:=.int k 0) rfl ?_);show Ð _ _ (seqItems? (.ref t) >>= _) _ _ s;refine Á (Ä8 hot hdt ?_);simp only[Ã8,hx];refine Á (Ï7 (Á (wpAny_setField ho hd (by simp) ?_)));show Ð _ _ (newExc (.type "StopIteration") [] >>= _) _ _ _
 refine Á ?_;simp only[newExc,newTuple];refine Á (û ?_ (by size_fits));refine Á (m:=firstArgMember _ _) (wpAny_of_eq (a:=å) (by first | rfl | (simp only[firstArgMember];rfl)) ?_)
 refine û ?_ (by size_fits);simp only[raiseNew];refine Á (wpAny_handled ?_)
 first | rw[show A.in1.handled=none from hh] | rw[hh]
 refine Á (Ç (wpAny_throw (hE _ _ (((È3 ..).extBut.push _).push _) ⟨_,Ì _ rfl,rfl⟩)))
theorem a81{z TI TO i1 i2 l1 l2:Æ}{k:Nat}{xs ys:Array Ã}{x y a b:Ã}{Q:Option Ã->Å->Prop}(D:ZipApart z TI TO i1 i2 l1 l2)(hz:Í0 s.heap z TI TO .none)
  (hTI:Ã5 s.heap TI (.ref i1) (.ref i2)) (hTO:Ã5 s.heap TO a b) (h1:s.heap.IsTupleIter i1 l1 k) (h2:s.heap.IsTupleIter i2 l2 k) (hl1:s.heap.IsTuple l1 xs) (hl2:s.heap.IsTuple l2 ys)
  (hx:xs[k]?=some x) (hy:ys[k]?=some y)
  (hQ:∀ h',Í0 h' z TI TO (Æ0 s.heap.objs.size)->Ã5 h' TO x y->h'.IsTupleIter i1 l1 (k + 1)->h'.IsTupleIter i2 l2 (k + 1)->Ã5 h' s.heap.objs.size x y->h'.objs.size=s.heap.objs.size + 1 ->
   (∀ c o,c≠z->c≠TO->c≠i1->c≠i2->s.heap.get? c=some o->h'.get? c=some o)->Q (some (.ref s.heap.objs.size)) { s with heap:=h' }):Ð (Õ P w) A (pyNext (.ref z)) Q E s:=by
 have hT:s.TypeIs (.ref z) "zip":=⟨_,hz,rfl⟩;unfold pyNext;refine Á (Ò8 (Â3 (name:=À5 "__next__") hT Ï4 (Ä9 Ï4 hT F.entry_zip_next ?_ (F.args_zip_next_1 _))));show Ð _ _ (field (.ref z) 2 >>= _) _ _ _;refine Á (À8 hz rfl (x:=.bool false) rfl ?_);show Ð _ _ (field (.ref z) 3 >>= _) _ _ _;refine Á (À8 hz rfl (x:=.ref TI) rfl ?_);refine Á (Ä8 hTI rfl ?_);show Ð _ _ (É0 (.ref z) >>= _) _ _ _;refine Á ?_;unfold É0;refine Á (À8 hz rfl (x:=.none) rfl (Ç ?_));simp only[if_true];refine Á (Ï7 (Á (À8 hz rfl (x:=.ref TO) rfl (Á (Å3 hz (by simp) λg1 z1 e1=>?_)))))
 replace z1:Í0 g1 z TI TO .ellipsis:=z1
 refine Á ?_;simp only[List.zipIdx_cons,List.zipIdx_nil,forIn_cons,List.forIn_nil];refine Á (Á (Ò7 ?_));show Ð _ _ (nextOf (.ref i1) >>= _) _ _ _;refine Á (m50 (h1.extBut e1.extBut D.i1z) (hl1.extBut e1.extBut D.l1z) hx λg2 r2 e2=>Ç ?_);have t2:Ã5 g2 TO a b:=e2.extBut _ _ D.TOi1 (e1.extBut _ _ D.TOz hTO);refine Á (Ä8 t2 rfl (Á (Ñ3 t2 λg3 t3 e3=>?_)))
 replace t3:Ã5 g3 TO x b:=t3
 refine Á (wpAny_letGo (Ç ?_));refine Á (Á (Ò7 ?_));show Ð _ _ (nextOf (.ref i2) >>= _) _ _ _;refine Á (m50 (((h2.extBut e1.extBut D.i2z).extBut e2.extBut D.i12.symm).extBut e3.extBut D.TOi2.symm) (((hl2.extBut e1.extBut D.l2z).extBut e2.extBut D.l2i1).extBut e3.extBut D.l2TO) hy λg4 r4 e4=>Ç ?_);have t4:Ã5 g4 TO x b:=e4.extBut _ _ D.TOi2 t3;refine Á (Ä8 t4 rfl (Á (Ñ3 t4 λg5 t5 e5=>?_)))
 replace t5:Ã5 g5 TO x y:=t5
 refine Á (wpAny_letGo (Ç (Ç ?_)));refine Á (Ä8 t5 rfl (Á (wpAny_newTuple ?_)));have sz:g5.objs.size=s.heap.objs.size:=by rw[e5.1,e4.1,e3.1,e2.1,e1.1]
 have z5:Í0 g5 z TI TO .ellipsis:=e5.extBut _ _ D.TOz.symm (e4.extBut _ _ D.i2z.symm (e3.extBut _ _ D.TOz.symm (e2.extBut _ _ D.i1z.symm z1)));have kp:∀ c o,c≠z->c≠TO->c≠i1->c≠i2->s.heap.get? c=some o->g5.get? c=some o:=λc o c1 c2 c3 c4 e=>e5.extBut _ _ c2 (e4.extBut _ _ c4 (e3.extBut _ _ c2 (e2.extBut _ _ c3 (e1.extBut _ _ c1 e))));have r1:g5.IsTupleIter i1 l1 (k + 1):=((r2.extBut e3.extBut D.TOi1.symm).extBut e4.extBut D.i12).extBut e5.extBut D.TOi1.symm;have r5:g5.IsTupleIter i2 l2 (k + 1):=r4.extBut e5.extBut D.TOi2.symm;have zl:z < g5.objs.size:=Û z5;show Ð _ _ (ownedTupleHandOut (.ref z) (.ref g5.objs.size) >>= _) _ _ _;refine Á ?_;unfold ownedTupleHandOut;have z6:Í0 (g5.push { cls:=.type "tuple",data:=.seq #[x,y] }) z TI TO .ellipsis:=Ä _ z5;refine Á (Å3 z6 (by simp) λg7 z7 e7=>?_)
 replace z7:Í0 g7 z TI TO (Æ0 g5.objs.size):=z7
 refine Å3 z7 (by simp) λg8 z8 e8=>?_
 replace z8:Í0 g8 z TI TO (Æ0 g5.objs.size):=z8
 have up:∀ c o,c≠z->g5.get? c=some o->g8.get? c=some o:=λc o c1 e=>e8.extBut _ _ c1 (e7.extBut _ _ c1 (Ä _ e));have t8:Ã5 g8 g5.objs.size x y:=e8.extBut _ _ (Ë3 zl) (e7.extBut _ _ (Ë3 zl) (Ì _ rfl));have s8:g8.objs.size=g5.objs.size + 1:=by rw[e8.1,e7.1,Ê4]
 rw[sz] at z8 t8 s8;refine Ç ⟨_,rfl,?_⟩;refine Ç ?_;show Q (some (.ref g5.objs.size)) _;rw[sz];exact hQ g8 z8 (up _ _ D.TOz t5) (by obtain⟨o,ho,q⟩:=r1;exact⟨o,up _ o D.i1z ho,q⟩) (by obtain⟨o,ho,q⟩:=r5;exact⟨o,up _ o D.i2z ho,q⟩) t8 s8 λc o c1 c2 c3 c4 e=>up c o c1 (kp c o c1 c2 c3 c4 e)
theorem p01{z TI TO i1 i2 l1 l2:Æ}{k:Nat}{xs ys:Array Ã}{a b:Ã}{Q:Option Ã->Å->Prop}(hh:A.handled=none)(D:ZipApart z TI TO i1 i2 l1 l2)(hz:Í0 s.heap z TI TO .none)
  (hTI:Ã5 s.heap TI (.ref i1) (.ref i2)) (hTO:Ã5 s.heap TO a b) (h1:s.heap.IsTupleIter i1 l1 k) (h2:s.heap.IsTupleIter i2 l2 k) (hl1:s.heap.IsTuple l1 xs) (hl2:s.heap.IsTuple l2 ys)
  (hend:xs[k]?=none∨ys[k]?=none) (hQ:∀ h',(∀ c o,c≠z->c≠TO->c≠i1->c≠i2->s.heap.get? c=some o->h'.get? c=some o)->Q none { s with heap:=h' }):Ð (Õ P w) A (pyNext (.ref z)) Q E s:=by
 have hT:s.TypeIs (.ref z) "zip":=⟨_,hz,rfl⟩;have fin:∀ (h':á) (e:Æ),(∀ c o,c≠z->c≠TO->c≠i1->c≠i2->s.heap.get? c=some o->h'.get? c=some o)->(∃ o,h'.get? e=some o/\o.cls=.type "StopIteration") ->
   Ð (Õ P w) A (isInstance (.ref e) (.type "StopIteration") >>= λb=>if b=true then pure none else throw (.ref e)) Q E { s with heap:=h' }:=λh' e kp he=>by
  obtain⟨o,ho,hc⟩:=he;exact Á (wpAny_isInstance (T:="StopIteration") (b:=true) ⟨o,ho,hc⟩ isSubtype_stop (Ç (hQ _ kp)))
 unfold pyNext;refine Á (Ò8 (Â3 (name:=À5 "__next__") hT Ï4 (Ä9 Ï4 hT F.entry_zip_next ?_ (F.args_zip_next_1 _))));show Ð _ _ (field (.ref z) 2 >>= _) _ _ _;refine Á (À8 hz rfl (x:=.bool false) rfl ?_);show Ð _ _ (field (.ref z) 3 >>= _) _ _ _;refine Á (À8 hz rfl (x:=.ref TI) rfl ?_);refine Á (Ä8 hTI rfl ?_);show Ð _ _ (É0 (.ref z) >>= _) _ _ _;refine Á ?_;unfold É0;refine Á (À8 hz rfl (x:=.none) rfl (Ç ?_));simp only[if_true];refine Á (Ï7 (Á (À8 hz rfl (x:=.ref TO) rfl (Á (Å3 hz (by simp) λg1 z1 e1=>?_)))))
 replace z1:Í0 g1 z TI TO .ellipsis:=z1
 refine Á ?_;simp only[List.zipIdx_cons,List.zipIdx_nil,forIn_cons,List.forIn_nil];refine Á (Á (Ò7 ?_));show Ð _ _ (nextOf (.ref i1) >>= _) _ _ _;cases hx:xs[k]? with
 |none =>
  refine Á (k00 hh (h1.extBut e1.extBut D.i1z) (hl1.extBut e1.extBut D.l1z) hx λg2 e e2 he=>?_);obtain⟨oe,hoe,hce⟩:=he;have z2:Í0 g2 z TI TO .ellipsis:=e2 _ _ D.i1z.symm z1;have hez:e≠z:=λq=>by subst q;rw[z2] at hoe;cases hoe;simp at hce
  exact Å3 z2 (by simp) λg3 _ e3=>fin g3 e (λc o c1 _ c3 _ q=>e3.extBut _ _ c1 (e2 _ _ c3 (e1.extBut _ _ c1 q))) ⟨oe,e3.extBut _ _ hez hoe,hce⟩
 |some x =>
  have hy:ys[k]?=none:=by rcases hend with q | q;rw[hx] at q;cases q;exact q
  refine Á (m50 (h1.extBut e1.extBut D.i1z) (hl1.extBut e1.extBut D.l1z) hx λg2 r2 e2=>Ç ?_);have t2:Ã5 g2 TO a b:=e2.extBut _ _ D.TOi1 (e1.extBut _ _ D.TOz hTO);refine Á (Ä8 t2 rfl (Á (Ñ3 t2 λg3 t3 e3=>?_)));refine Á (wpAny_letGo (Ç ?_));refine Á (Á (Ò7 ?_));show Ð _ _ (nextOf (.ref i2) >>= _) _ _ _;refine Á (k00 hh (((h2.extBut e1.extBut D.i2z).extBut e2.extBut D.i12.symm).extBut e3.extBut D.TOi2.symm) (((hl2.extBut e1.extBut D.l2z).extBut e2.extBut D.l2i1).extBut e3.extBut D.l2TO) hy λg4 e e4 he=>?_);obtain⟨oe,hoe,hce⟩:=he;have z4:Í0 g4 z TI TO .ellipsis:=e4 _ _ D.i2z.symm (e3.extBut _ _ D.TOz.symm (e2.extBut _ _ D.i1z.symm z1));have hez:e≠z:=λq=>by subst q;rw[z4] at hoe;cases hoe;simp at hce
  exact Å3 z4 (by simp) λg5 _ e5=>fin g5 e (λc o c1 c2 c3 c4 q=>e5.extBut _ _ c1 (e4 _ _ c4 (e3.extBut _ _ c2 (e2.extBut _ _ c3 (e1.extBut _ _ c1 q))))) ⟨oe,e5.extBut _ _ hez hoe,hce⟩
abbrev zT1(h:á)(l1:Æ):Heap:=h.push { cls:=.type "tuple_iterator",data:=.fields #[.ref l1,.int 0 0] }
abbrev zT2(h:á)(l1 l2:Æ):Heap:=(zT1 h l1).push { cls:=.type "tuple_iterator",data:=.fields #[.ref l2,.int 0 0] }
abbrev zT3(h:á)(l1 l2:Æ):Heap:=(zT2 h l1 l2).push { cls:=.type "tuple",data:=.seq #[.ref h.objs.size,.ref (zT1 h l1).objs.size] }
abbrev zT4(h:á)(l1 l2:Æ):Heap:=(zT3 h l1 l2).push { cls:=.type "tuple",data:=.seq #[.none,.none] }
abbrev zT5(h:á)(l1 l2:Æ):Heap:=(zT4 h l1 l2).push { cls:=.type "zip",data:=.fields #[.none,.bool false,.bool false,.ref (zT2 h l1 l2).objs.size,.ref (zT3 h l1 l2).objs.size] }
theorem V00(l1 l2:Æ)(xs ys:Array Ã) :
  Meets (Â4.«zip.__new__» ⟨[.type "zip",.ref l1,.ref l2],[]⟩) (λ_ R s=>s.heap.IsTuple l1 xs/\s.heap.IsTuple l2 ys/\R (.ok (.ret (.ref (zT4 s.heap l1 l2).objs.size))) { s with heap:=zT5 s.heap l1 l2 }) :=
 .of_wp λP w A R s h=>by
  obtain⟨hp,g,d,tk,os⟩:=s;obtain⟨hl1,hl2,h⟩:=h;have hsub:=sub_zip;have hL1:Í9 (Å.heap ⟨hp,g,d,tk,os⟩) l1 xs:=hl1;have hL2:Í9 (Å.heap ⟨hp.push { cls:=.type "tuple_iterator",data:=.fields #[.ref l1,.int 0 0] },g,d,tk,os⟩) l2 ys:=Í9.push hl2 _
  wp_walk using È2 hL1,È2 hL2
  exact⟨_,rfl,h⟩
theorem a91{l1 l2:Æ}{xs ys:Array Ã}{Q:Ã->Å->Prop}(hl1:s.heap.IsTuple l1 xs)(hl2:s.heap.IsTuple l2 ys)
  (h:∀ h',Í0 h' (s.heap.objs.size + 4) (s.heap.objs.size + 2) (s.heap.objs.size + 3) .none->Ã5 h' (s.heap.objs.size + 2) (.ref s.heap.objs.size) (.ref (s.heap.objs.size + 1))->Ã5 h' (s.heap.objs.size + 3) .none .none ->
   h'.IsTupleIter s.heap.objs.size l1 0->h'.IsTupleIter (s.heap.objs.size + 1) l2 0->(∀ c o,s.heap.get? c=some o->h'.get? c=some o)->Q (.ref (s.heap.objs.size + 4)) { s with heap:=h' }) :
  Ð (Õ P w) A (call (.type "zip") [.ref l1,.ref l2]) Q E s:=by
 refine callType_new F.called_zip (-0) (F.typeCall_zip_2 _ _) (F.newCall_zip_2 _ _) (λobj=>F.args_object_init_3 obj _ _) F.entry_zip_new (V00 l1 l2 xs ys) ⟨hl1,hl2,?_⟩
 have n1:(zT1 s.heap l1).objs.size=s.heap.objs.size + 1:=Ê4 ..;have n2:(zT2 s.heap l1 l2).objs.size=s.heap.objs.size + 2:=by rw[Ê4,n1]
 have n3:(zT3 s.heap l1 l2).objs.size=s.heap.objs.size + 3:=by rw[Ê4,n2]
 have n4:(zT4 s.heap l1 l2).objs.size=s.heap.objs.size + 4:=by rw[Ê4,n3]
 have g5:(zT5 s.heap l1 l2).get? (zT4 s.heap l1 l2).objs.size=some _:=Ì _ rfl;have g4:(zT5 s.heap l1 l2).get? (zT3 s.heap l1 l2).objs.size=some _:=Ä _ (Ì _ rfl);have g3:(zT5 s.heap l1 l2).get? (zT2 s.heap l1 l2).objs.size=some _:=Ä _ (Ä _ (Ì _ rfl));have g2:(zT5 s.heap l1 l2).get? (zT1 s.heap l1).objs.size=some _:=Ä _ (Ä _ (Ä _ (Ì _ rfl)));have g1:(zT5 s.heap l1 l2).get? s.heap.objs.size=some _:=Ä _ (Ä _ (Ä _ (Ä _ (Ì _ rfl))));show _/\_;rw[n2,n3,n4] at g5;rw[n1,n2] at g3;rw[n3] at g4;rw[n1] at g2;rw[n4];exact⟨⟨_,g5,rfl⟩,h _ g5 g3 g4 ⟨_,g1,rfl,rfl⟩ ⟨_,g2,rfl,rfl⟩ λc o q=>Ä _ (Ä _ (Ä _ (Ä _ (Ä _ q))))⟩
end
open PySem PySem.Spec PyProof.Rows
section
variable {X:Cx}{pins:List (Æ × Obj)}{σ:St}{H:Hp}{s:Å}{h':á}
theorem Inv.B90{t':Nat}{ch:List Æ}(I:Inv X pins σ H s)(hf:∀ b∈ch,K30 X pins H b)(k:∀ b o,b ∉ ch->s.heap.get? b=some o->h'.get? b=some o):Inv X pins σ H { s with heap:=h',toks:=t' }:=by
 have nch:∀ b u,H b=some u->b ∉ ch:=λb u e z=>by rw[(hf b z).1] at e;cases e
 refine I.step (g':=s.gens) (d':=s.drawn) (ch:=ch) (λb hb=>⟨(hf b hb).2.2.2.1,(hf b hb).2.1,(hf b hb).2.2.2.2.1,(hf b hb).2.2.2.2.2⟩) (λb o _ _ hc e _=>k b o hc e) (λb o _ _ hc e _=>⟨o.slots,k b o hc e⟩) (λ_ _ _ _ n=>n)
  (λb o hc e=>⟨o,k b o hc e⟩) (λ_ _ e=>e) (λ_ _ _ e=>e) (λb ps e=>⟨#[],by rw[e];simp⟩) (λm hm=>?_) (λb u e=>?_) I.bare
 ·obtain⟨o,es,ep,ho,r⟩:=hm;exact⟨o,es,ep,k _ o (λz=>(hf _ z).2.1 rfl) ho,r⟩
 ·refine(I.hok b u e).U20 (λc v hc q=>k c v ?_ q) (λ_ q=>q) λ_ _ q=>q;rcases hc with z | z
  ·rw[z];exact nch b u e
  ·exact nch c _ z
theorem Inv.o81{T:Æ}{o:HO}(I:Inv X pins σ H s)(f:K30 X pins H T)(h0:X.s₀.heap.objs.size<=T)(hok:HOk X.prog X.w (upd H T o) s.heap):Inv X pins σ (upd H T o) s:=by
 have u:=I.base;refine⟨I.ok,I.os,I.bare,⟨u.keep,u.slot,λb ob e n hx=>?_,u.there,λb xs e=>?_,λb ob xs e=>?_,λb ps e=>?_⟩,I.loc,I.cell,?_,λx c e=>?_,λp hp=>?_,hok,I.len⟩
 ·rw[a20 (â (Ñ (Û e) h0))];exact u.free b ob e n hx
 ·have z:=u.tups b xs e;rw[a20 (a60 z f.1)];exact z
 ·have z:=u.frzs b ob xs e;rw[a20 (a60 z f.1)];exact z
 ·obtain⟨more,z⟩:=u.tbls b ps e;exact⟨more,by rw[a20 (a60 z f.1)];exact z⟩
 ·rw[a20 f.2.1.symm];exact I.free
 ·rw[a20 (f.2.2.2.2.1 x c e)];exact I.freeC x c e
 ·obtain⟨e,n,r⟩:=I.pin p hp;exact⟨e,by rw[a20 (f.2.2.2.2.2 p hp)];exact n,r⟩
theorem HOk.w21{P:Ø}{w:ì}{H:Hp}{h:á}{D:Æ}{ys:List V}{its:List Ã}(x:HOk P w H h)(hn:H D=none)(hv:Vals ys its)(hz:ys.length<=sizeLine)(ho:Í8 h D its.toArray):HOk P w (upd H D (.tup ys)) h:=λb u e=>by
 by_cases hb:b=D
 ·subst hb;rw[a90] at e;cases e;exact⟨hz,its,hv,ho⟩
 ·rw[a20 hb] at e;exact(x b u e).U20 (λc v _ q=>q) (λc q=>by rw[a20 (a60 q hn)];exact q) λc xs q=>by rw[a20 (a60 q hn)];exact q
end
def SqB:Bool->À->Hp->Æ->List V->Prop
 |true=>SqL|false=>SqT
def H10:Bool->á->Æ->Æ->Nat->Prop
 |true=>á.IsListIter|false=>á.IsTupleIter
def p21:Bool->á->Æ->Array Ã->Prop
 |true=>á.IsList|false=>Í9
theorem H10.obj{b:Bool}{h:á}{it a:Æ}{i:Nat}(st:H10 b h it a i):∃ o,h.get? it=some o/\(∀ v,o.data=.cell v->False)/\∀ h':á,h'.get? it=some o->H10 b h' it a i:=by
 cases b with
 |true=>obtain⟨o,g,c,d⟩:=st;exact⟨o,g,(λv e=>by rw[d] at e;cases e),λh' k=>⟨o,k,c,d⟩⟩
 |false=>obtain⟨o,g,c,d⟩:=st;exact⟨o,g,(λv e=>by rw[d] at e;cases e),λh' k=>⟨o,k,c,d⟩⟩
theorem Inv.p31(I:Inv X pins σ H s)(h:SqB b X.K H a xs):∃ its:List Ã,Vals xs its/\p21 b s.heap a its.toArray/\a < s.heap.objs.size/\∀ ys,SqB b X.K H a ys->ys=xs:=by
 cases b with
 |true=>obtain⟨its,r,p,_⟩:=I.list h;exact⟨its,r,p.isList,by obtain⟨o,e,_⟩:=p.isList;exact Û e,λys h'=>I.O50 h' h⟩
 |false=>obtain⟨its,r,p,_⟩:=I.tuple h;exact⟨its,r,p,by obtain⟨o,e,_⟩:=p;exact Û e,λys h'=>I.F60 h' h⟩
section
variable {P:Ø}{w:ì}{A:ï}{E:Ã->Å->Prop}{s:Å}{b:Bool}{z TI TO i1 i2 l1 l2:Æ}{k:Nat}{xs ys:Array Ã}{x y p q:Ã}
theorem b01{Q:Option Ã->Å->Prop}(D:ZipApart z TI TO i1 i2 l1 l2)(hz:Í0 s.heap z TI TO .none)(hTI:Ã5 s.heap TI (.ref i1) (.ref i2))(hTO:Ã5 s.heap TO p q)(h1:H10 b s.heap i1 l1 k)(h2:H10 b s.heap i2 l2 k)(hl1:p21 b s.heap l1 xs)(hl2:p21 b s.heap l2 ys)(hx:xs[k]?=some x)(hy:ys[k]?=some y)
  (hQ:∀ h',Í0 h' z TI TO (Æ0 s.heap.objs.size)->Ã5 h' TO x y->H10 b h' i1 l1 (k + 1)->H10 b h' i2 l2 (k + 1)->Ã5 h' s.heap.objs.size x y->h'.objs.size=s.heap.objs.size + 1 ->
   (∀ c o,c≠z->c≠TO->c≠i1->c≠i2->s.heap.get? c=some o->h'.get? c=some o)->Q (some (.ref s.heap.objs.size)) { s with heap:=h' }):Ð (Õ P w) A (pyNext (.ref z)) Q E s:=match b,h1,h2,hl1,hl2,hQ with
 |true,h1,h2,hl1,hl2,hQ=>wpAny_pyNext_zip_item D hz hTI hTO h1 h2 hl1 hl2 hx hy hQ|false,h1,h2,hl1,hl2,hQ=>a81 D hz hTI hTO h1 h2 hl1 hl2 hx hy hQ
theorem p41{Q:Option Ã->Å->Prop}(hh:A.handled=none)(D:ZipApart z TI TO i1 i2 l1 l2)(hz:Í0 s.heap z TI TO .none)(hTI:Ã5 s.heap TI (.ref i1) (.ref i2))(hTO:Ã5 s.heap TO p q)(h1:H10 b s.heap i1 l1 k)(h2:H10 b s.heap i2 l2 k)(hl1:p21 b s.heap l1 xs)(hl2:p21 b s.heap l2 ys)
  (hend:xs[k]?=none∨ys[k]?=none) (hQ:∀ h',(∀ c o,c≠z->c≠TO->c≠i1->c≠i2->s.heap.get? c=some o->h'.get? c=some o)->Q none { s with heap:=h' }):Ð (Õ P w) A (pyNext (.ref z)) Q E s:=match b,h1,h2,hl1,hl2 with
 |true,h1,h2,hl1,hl2=>wpAny_pyNext_zip_end hh D hz hTI hTO h1 h2 hl1 hl2 hend hQ|false,h1,h2,hl1,hl2=>p01 hh D hz hTI hTO h1 h2 hl1 hl2 hend hQ
theorem b11{Q:Ã->Å->Prop}(hl1:p21 b s.heap l1 xs)(hl2:p21 b s.heap l2 ys)
  (h:∀ h',Í0 h' (s.heap.objs.size + 4) (s.heap.objs.size + 2) (s.heap.objs.size + 3) .none->Ã5 h' (s.heap.objs.size + 2) (.ref s.heap.objs.size) (.ref (s.heap.objs.size + 1))->Ã5 h' (s.heap.objs.size + 3) .none .none ->
   H10 b h' s.heap.objs.size l1 0->H10 b h' (s.heap.objs.size + 1) l2 0->(∀ c o,s.heap.get? c=some o->h'.get? c=some o)->Q (.ref (s.heap.objs.size + 4)) { s with heap:=h' }):Ð (Õ P w) A (call (.type "zip") [.ref l1,.ref l2]) Q E s:=match b,hl1,hl2,h with
 |true,hl1,hl2,h=>call_zip_2 hl1 hl2 λh' a1 a2 a3 a4 a5 _ a6=>h h' a1 a2 a3 a4 a5 a6|false,hl1,hl2,h=>a91 hl1 hl2 h
end
def Itz(b:Bool)(K:À)(a c:Æ):It :=
 ⟨λi H=>∃ xs ys x y,SqB b K H a xs/\SqB b K H c ys/\xs[i]?=some x/\ys[i]?=some y,
  λi H v H'=>∃ T,v=.ref T/\H T=none/\∀ xs ys x y,SqB b K H a xs->SqB b K H c ys->xs[i]?=some x->ys[i]?=some y->H'=upd H T (.tup [x,y]),
  λi H=>∃ xs ys,SqB b K H a xs/\SqB b K H c ys/\(xs.length<=i∨ys.length<=i)⟩
theorem p51{P:Ø}{w:ì}{K:À}{es:List Ê}{ek:Nat}{ep:Pos}{b:Bool}{a c z TI TO i1 i2:Æ}(D:ZipApart z TI TO i1 i2 a c) :
  Turn P w K (.Tuple es ek ep) (Itz b K a c) [z,TI,TO,i1,i2] z (λi h=>Í0 h z TI TO .none/\Ã5 h TI (.ref i1) (.ref i2)/\(∃ p q,Ã5 h TO p q)/\H10 b h i1 a i/\H10 b h i2 c i) where
 mem:=by simp
 obj:=λi h st c hc=>by
  obtain⟨hz,hTI,⟨p,q,hTO⟩,h1,h2⟩:=st;obtain⟨o1,h1,d1,_⟩:=h1.obj;obtain⟨o2,h2,d2,_⟩:=h2.obj;simp only[Á7,ú,or_false] at hc;rcases hc with rfl | rfl | rfl | rfl | rfl
  ·exact⟨_,hz,λv e=>by cases e⟩
  ·exact⟨_,hTI,λv e=>by cases e⟩
  ·exact⟨_,hTO,λv e=>by cases e⟩
  ·exact⟨_,h1,d1⟩
  ·exact⟨_,h2,d2⟩
 keep:=λi h h' st k=>by
  obtain⟨hz,hTI,⟨p,q,hTO⟩,h1,h2⟩:=st;obtain⟨o1,h1,_,r1⟩:=h1.obj;obtain⟨o2,h2,_,r2⟩:=h2.obj;exact⟨k z (by simp) _ hz,k TI (by simp) _ hTI,⟨p,q,k TO (by simp) _ hTO⟩,r1 _ (k i1 (by simp) _ h1),r2 _ (k i2 (by simp) _ h2)⟩
 item:=by
  intro X hP hw hK hc i pins s σ H E I hf st hg;subst hP hw hK;obtain⟨xs,ys,x,y,hq1,hq2,hx,hy⟩:=hg;obtain⟨v1,rv1,p1,_,z1⟩:=I.p31 hq1;obtain⟨v2,rv2,p2,_,z2⟩:=I.p31 hq2;obtain⟨u1,hu1,ru1⟩:=rv1.get hx;obtain⟨u2,hu2,ru2⟩:=rv2.get hy;obtain⟨hz,hTI,⟨p,q,hTO⟩,h1,h2⟩:=st;refine b01 D hz hTI hTO h1 h2 p1 p2 (x:=u1) (y:=u2) (by simpa using hu1) (by simpa using hu2) λg1 gz gTO g1' g2' gT gs kp=>⟨_,rfl,?_⟩
  refine wpAny_letOwnedTupleGo_zip (s:={ s with heap:=g1 }) gz λg2 gz2 sb=>?_;have hT:H s.heap.objs.size=none:=I.hok.fresh (È _);have kall:∀ c o,c ∉ [z,TI,TO,i1,i2]->s.heap.get? c=some o->g2.get? c=some o:=λc o hc e=>by
   simp only[Á7,ú,or_false,not_or] at hc;exact sb.extBut _ _ hc.1 (kp c o hc.1 hc.2.2.1 hc.2.2.2.1 hc.2.2.2.2 e)
  have I2:Inv X pins σ H { s with heap:=g2 }:=I.B90 (t':=s.toks) hf kall;have fT:K30 X pins H s.heap.objs.size:=I.X90 (È _) hT;have gT2:g2.get? s.heap.objs.size=some { cls:=.type "tuple",data:=.seq #[u1,u2] }:=sb.extBut _ _ (λe=>ó _ (by have:=Û hz;rw[← e] at this;exact this)) gT
  have I3:Inv X pins σ (upd H s.heap.objs.size (.tup [x,y])) { s with heap:=g2 }:=I2.o81 fT I.sz (I2.hok.w21 hT (its:=[u1,u2]) (.cons ru1 (.cons ru2 .nil)) (by show 2<=sizeLine;rw[À9];decide) ⟨_,gT2,rfl,_,rfl⟩)
  have TI0:Ã5 g2 TI (.ref i1) (.ref i2):=sb.extBut _ _ D.TIz (kp _ _ D.TIz D.TITO D.TIi1 D.TIi2 hTI);obtain⟨o1,w1,_,r1⟩:=g1'.obj;obtain⟨o2,w2,_,r2⟩:=g2'.obj;refine⟨.ref s.heap.objs.size,_,I3,rfl,⟨_,rfl,hT,λxs' ys' x' y' e1 e2 e3 e4=>?_⟩,⟨gz2,TI0,⟨_,_,sb.extBut _ _ D.TOz gTO⟩,r1 _ (sb.extBut _ _ D.i1z w1),r2 _ (sb.extBut _ _ D.i2z w2)⟩,λc hc=>?_⟩
  ·rw[z1 _ e1] at e3;rw[z2 _ e2] at e4;rw[hx] at e3;rw[hy] at e4;cases e3;cases e4;rfl
  ·rw[a20]
   ·exact(hf c hc).1
   ·intro e;obtain⟨o1,h1,_⟩:=h1.obj;obtain⟨o2,h2,_⟩:=h2.obj;have lt:c < s.heap.objs.size:=by
     simp only[Á7,ú,or_false] at hc;rcases hc with rfl | rfl | rfl | rfl | rfl
     ·exact Û hz
     ·exact Û hTI
     ·exact Û hTO
     ·exact Û h1
     ·exact Û h2
    rw[e] at lt;exact ó _ lt
 done:=by
  intro X hP hw hK hc i pins s σ H E I hf st hg;subst hP hw hK;obtain⟨xs,ys,hq1,hq2,hend⟩:=hg;obtain⟨v1,rv1,p1,_⟩:=I.p31 hq1;obtain⟨v2,rv2,p2,_⟩:=I.p31 hq2;obtain⟨hz,hTI,⟨p,q,hTO⟩,h1,h2⟩:=st;have l1:=rv1.length;have l2:=rv2.length;refine p41 (I.ok.hd hc) D hz hTI hTO h1 h2 p1 p2 (hend.elim (λe=>.inl (by simp;omega)) λe=>.inr (by simp;omega)) λg kp=>⟨rfl,I.B90 (t':=s.toks) hf λc o hcn e=>?_⟩
  simp only[Á7,ú,or_false,not_or] at hcn;exact kp c o hcn.1 hcn.2.2.1 hcn.2.2.2.1 hcn.2.2.2.2 e
 self:=λ_ _ _ _ _ st h=>wpAny_pyIter_zip st.1 h
def q22(K:À)(ta:TA):TI:=λσ H R=>ta σ H λvs H1=>∃ b a c,vs=[.ref a,.ref c]/\(∃ xs,SqB b K H1 a xs)/\(∃ ys,SqB b K H1 c ys)/\R (Itz b K a c) H1
theorem boot_zip:é "zip"=some (.type "zip"):=by decide +kernel
theorem N51{X:Cx}{a b:Ê}{es:List Ê}{ek:Nat}{ep:Pos}{ta:TA}{p pos:Pos}(hg:Gl X "zip")(hm:X.mg "zip"=none)(ha:PA X [a,b] ta)(hs:í [a,b] X.env=[(false,eval a X.env),(false,eval b X.env)]:=by rfl)(hs2:í [b] X.env=[(false,eval b X.env)]:=by rfl) :
  PI X (.Tuple es ek ep) (.Call (.Name "zip" p) [a,b] [] pos) (q22 X.K ta):=by
 intro pins s σ H R I h;refine Call_ (p00 I hg hm boot_zip (ö (thn (ha pos pins s σ H _ I h) λus s1 ⟨vs,H1,I1,r1,q1⟩=>?_) (by rw[hs,hs2]) (by rw[hs2];rfl)))
 obtain⟨b,l1,l2,e,⟨xs,hq1⟩,⟨ys,hq2⟩,q⟩:=q1;subst e;obtain⟨u,w',rfl,r,r'⟩:=vals2 r1;cases r;cases r';obtain⟨v1,rv1,p1,a1,_⟩:=I1.p31 hq1;obtain⟨v2,rv2,p2,a2,_⟩:=I1.p31 hq2;refine b11 p1 p2 λh' hz hTI hTO h1 h2 kp=>wpAny_pyIter_zip (s:={ s1 with heap:=h' }) hz ?_;refine⟨_,[s1.heap.objs.size + 4,s1.heap.objs.size + 2,s1.heap.objs.size + 3,s1.heap.objs.size,s1.heap.objs.size + 1],_,_,H1,rfl,I1.kept (t':=s1.toks) kp,p51 (PyProof.Rows.zipApart_new a1 a2),⟨hz,hTI,⟨_,_,hTO⟩,h1,h2⟩,λc hc=>?_,q⟩;have hc':s1.heap.objs.size<=c:=by
  simp only[Á7,ú,or_false] at hc;rcases hc with rfl | rfl | rfl | rfl | rfl
  ·exact Æ4 _ 4
  ·exact Æ4 _ 2
  ·exact Æ4 _ 3
  ·exact È _
  ·exact Æ4 _ 1
 exact I1.X90 hc' (I1.hok.fresh hc')
theorem p61(hc:X.calm=true):g90 X (.builtin "all") (λxs H Q=>∃ (a:Æ) (bs:List Bool),xs=[.ref a]/\SqL X.K H a (bs.map V.bl)/\Q (.bl (bs.all id)) H):=by
 intro pins s σ H xs us Q I r h;obtain⟨a,bs,rfl,hq,q⟩:=h;obtain⟨u,rfl,rx⟩:=vals1 r;cases rx;obtain⟨its,rv,pl,hz⟩:=I.list hq;have hlt:a < s.heap.objs.size:=by obtain⟨_,e,_⟩:=pl.isList;exact Û e
 have hlen:its.length=bs.length:=by have:=rv.length;simpa using this.symm
 refine call_all_walk (wpAny_pyIter_list pl.isList ⟨_,_,_,_,_,_,λi=>(bs[i]?).getD true,rfl,Walks.list (by exact I.ok.hd hc) s.heap.objs.size a (â hlt) its.toArray,⟨⟨_,Ì _ rfl,rfl,rfl⟩,pl.isList.push _⟩,?_,?_⟩)
 ·intro i v s' Q' E' hP hQ;have hP':its[i]?=some v:=by simpa using hP
  have hi:i < bs.length:=by rw[← hlen];exact(Ú.mp hP').1
  obtain⟨v',hv',rv'⟩:=rv.get (i:=i) (x:=.bl bs[i]) (by simp[hi])
  rw[hP'] at hv';cases hv';cases (show v=É9 _ from rv');exact Á1 (by simpa [hi] using hQ)
 ·intro h' tk kp;refine⟨.bl (bs.all id),H,I.kept λb o e=>kp b o (by simpa using â (Û e)) (Ä _ e),?_,q⟩
  show É9 _=É9 _;rw[Ô,hlen,PyProof.Rows.LSm.range_all]
end L2
namespace MySort
open PySem PySem.W PyProof.Rows
def run{α:Type}(cmp:Nat->Nat->Bool):KasT α->α
 |.ret a=>a|.ask i j k=>run cmp (k (cmp i j))
theorem run_bind(cmp:Nat->Nat->Bool)(f:α->KasT β):∀ t:KasT α,run cmp (t.bind f)=run cmp (f (run cmp t))
 |.ret _=>rfl|.ask i j k=>run_bind cmp f (k (cmp i j))
section
variable (O:KeyOrd) (key:Nat->O.α)
def kk(p:Array Nat)(i:Nat):O.α:=key (p.getD i 0)
abbrev j20:Nat->Nat->Bool:=λi j=>O.blt (key i) (key j)
def Up(p:Array Nat)(n:Nat):Prop:=∀ i j,i<=j->j < n->O.kle (kk O key p i) (kk O key p j)
def Dn(p:Array Nat)(n:Nat):Prop:=∀ i j,i<=j->j < n->O.kle (kk O key p j) (kk O key p i)
variable {O key}
theorem p20(h:p[i]?=q[j]?):kk O key p i=kk O key q j:=by
 unfold kk;rw[É7,É7,h]
theorem b21(hj:j<=p.size)(k:Nat):kk O key (Å4 p i j) k=if i<=k/\k < j then kk O key p (i + j - 1 - k) else kk O key p k:=by
 have e:=getElem?_mirror_all (i:=i) hj k;unfold Å4;by_cases h1:i<=k/\k < j
 ·rw[if_pos h1] at e ⊢;exact p20 e
 ·rw[if_neg h1] at e ⊢;exact p20 e
theorem N61(hs:k < p.size)(hd:d<=k)(i:Nat) :
  kk O key (bubble p k d) i=if i=k - d then kk O key p k else if k - d < i/\i<=k then kk O key p (i - 1) else kk O key p i:=by
 have e:=getElem?_bubble hs d hd i;by_cases h1:i=k - d
 ·rw[if_pos h1] at e ⊢;exact p20 e
 ·rw[if_neg h1] at e ⊢;by_cases h2:k - d < i/\i<=k
  ·rw[if_pos h2] at e ⊢;exact p20 e
  ·rw[if_neg h2] at e ⊢;exact p20 e
theorem Up.more(h:Up O key p n)(h1:1<=n)(hl:O.kle (kk O key p (n - 1)) (kk O key p n)):Up O key p (n + 1):=by
 intro i j hij hj;by_cases e:j=n
 ·subst e;by_cases e2:i=j
  ·subst e2;exact Ä7 _
  ·exact Ò2 (h i (j - 1) ∅ ∅) hl
 ·exact h i j hij ∅
theorem Dn.more(h:Dn O key p n)(h1:1<=n)(hl:O.kle (kk O key p n) (kk O key p (n - 1))):Dn O key p (n + 1):=by
 intro i j hij hj;by_cases e:j=n
 ·subst e;by_cases e2:i=j
  ·subst e2;exact Ä7 _
  ·exact Ò2 hl (h i (j - 1) ∅ ∅)
 ·exact h i j hij ∅
theorem b31:∀ (f n:Nat),1<=n->Up O key p n ->
  n<=run (j20 O key) (Å5 p f n)/\run (j20 O key) (Å5 p f n)<=n + f/\Up O key p (run (j20 O key) (Å5 p f n)) /\
   (run (j20 O key) (Å5 p f n) < n + f->O.klt (kk O key p (run (j20 O key) (Å5 p f n))) (kk O key p (run (j20 O key) (Å5 p f n) - 1)))
 |0,n,h1,hu=>⟨È _,È _,hu,λh=>absurd h (ó _)⟩
 |f + 1,n,h1,hu=>by
  show n<=run _ (if O.blt (kk O key p n) (kk O key p (n - 1))=true then Í5 n else Å5 p f (n + 1))/\run _ (if O.blt (kk O key p n) (kk O key p (n - 1))=true then Í5 n else Å5 p f (n + 1))<=n + (f + 1) /\
   Up O key p (run _ (if O.blt (kk O key p n) (kk O key p (n - 1))=true then Í5 n else Å5 p f (n + 1))) /\
   (run _ (if O.blt (kk O key p n) (kk O key p (n - 1))=true then Í5 n else Å5 p f (n + 1)) < n + (f + 1) ->
    O.klt (kk O key p (run _ (if O.blt (kk O key p n) (kk O key p (n - 1))=true then Í5 n else Å5 p f (n + 1)))) (kk O key p (run _ (if O.blt (kk O key p n) (kk O key p (n - 1))=true then Í5 n else Å5 p f (n + 1)) - 1)))
  cases hb:O.blt (kk O key p n) (kk O key p (n - 1)) with
  |true =>
   simp only[if_true];exact⟨È _,by show n<=n + (f + 1);omega,hu,λ_=>hb⟩
  |false =>
   simp only[Ç5,if_false];have ih:=b31 f (n + 1) ∅ (hu.more h1 hb)
   refine⟨by omega,by omega,ih.2.2.1,λh=>ih.2.2.2 ∅⟩
theorem rev_eq(hj:j<=p.size)(he:∀ k,i<=k->k < j->kk O key p k=kk O key p (j - 1))(k:Nat):kk O key (Å4 p i j) k=kk O key p k:=by
 rw[b21 hj];split
 ·rw[he _ ∅ ∅,he k ∅ ∅]
 ·rfl
theorem C00(p:Array Nat)(i j:Nat):(Å4 p i j).Perm p:=mirror_perm _ _ _ _
theorem C10(p:Array Nat)(i j:Nat):(Å4 p i j).size=p.size:=mirror_size _ _ _ _
structure DnR(O:KeyOrd)(key:Nat->O.α)(p0 p:Array Nat)(n q:Nat):Prop where
 perm:p.Perm p0
 size:p.size=p0.size
 pos:q + 1<=n
 dn:Dn O key p n
 eq:∀ k,n - (q + 1)<=k->k < n->kk O key p k=kk O key p (n - 1)
theorem DnR.rev(h:DnR O key p0 p n q)(hn:n<=p0.size):DnR O key p0 (Å4 p (n - (q + 1)) n) n q:=by
 have hz:=h.size;have e:=rev_eq (O:=O) (key:=key) (i:=n - (q + 1)) (j:=n) (p:=p) ∅ h.eq
 exact⟨(C00 _ _ _).trans h.perm,(C10 _ _ _).trans hz,h.pos,λi j hij hj=>by rw[e,e];exact h.dn i j hij hj,λk h1 h2=>by rw[e,e];exact h.eq k h1 h2⟩
theorem K70:∀ (f:Nat) (p:Array Nat) (n q:Nat),DnR O key p0 p n q->n + f<=p0.size ->
  n<=(run (j20 O key) (Á0 f p n q)).2.1/\(run (j20 O key) (Á0 f p n q)).2.1<=n + f /\
   DnR O key p0 (run (j20 O key) (Á0 f p n q)).1 (run (j20 O key) (Á0 f p n q)).2.1 (run (j20 O key) (Á0 f p n q)).2.2
 |0,p,n,q,h,_=>⟨È _,È _,h⟩
 |f + 1,p,n,q,h,hn=>by
  have hp:=h.pos;have hz:=h.size;have unf:run (j20 O key) (Á0 (f + 1) p n q)=run (j20 O key) (if O.blt (kk O key p n) (kk O key p (n - 1))=true then(if q > 0 then Á0 f (Å4 p (n - (q + 1)) n) (n + 1) 0 else Á0 f p (n + 1) 0)
   else .ask (p.getD (n - 1) 0) (p.getD n 0) λd=>if d=true then .ret (p,n,q) else Á0 f p (n + 1) (q + 1)):=rfl
  rw[unf];cases hb:O.blt (kk O key p n) (kk O key p (n - 1)) with
  |true =>
   simp only[if_true];have go:∀ p',DnR O key p0 p' n q->(∀ k,kk O key p' k=kk O key p k)->n<=(run (j20 O key) (Á0 f p' (n + 1) 0)).2.1/\(run (j20 O key) (Á0 f p' (n + 1) 0)).2.1<=n + (f + 1) /\
     DnR O key p0 (run (j20 O key) (Á0 f p' (n + 1) 0)).1 (run (j20 O key) (Á0 f p' (n + 1) 0)).2.1 (run (j20 O key) (Á0 f p' (n + 1) 0)).2.2:=λp' h' e=>by
    have ih:=K70 f p' (n + 1) 0 ⟨h'.perm,h'.size,by omega,h'.dn.more ∅ (by rw[e,e];exact Ë1 hb),λk h1 h2=>by
     have:k=n:=by omega
     subst this;rfl⟩ ∅
    exact⟨by omega,by omega,ih.2.2⟩
   split
   ·exact go _ (h.rev ∅) (rev_eq ∅ h.eq)
   ·exact go _ h λ_=>rfl
  |false =>
   simp only[Ç5,if_false];have unf2:run (j20 O key) (KasT.ask (p.getD (n - 1) 0) (p.getD n 0) λd=>if d=true then .ret (p,n,q) else Á0 f p (n + 1) (q + 1)) =
    run (j20 O key) (if O.blt (kk O key p (n - 1)) (kk O key p n)=true then .ret (p,n,q) else Á0 f p (n + 1) (q + 1)):=rfl
   rw[unf2];cases hc:O.blt (kk O key p (n - 1)) (kk O key p n) with
   |true =>
    simp only[if_true];exact⟨È _,by show n<=n + (f + 1);omega,h⟩
   |false =>
    simp only[Ç5,if_false];have e:kk O key p n=kk O key p (n - 1):=O.total _ _ hb hc;have ih:=K70 f p (n + 1) (q + 1) ⟨h.perm,h.size,by omega,h.dn.more ∅ (by rw[e];exact Ä7 _),λk h1 h2=>by
     show _=kk O key p n;by_cases hk:k=n
     ·rw[hk]
     ·rw[e];exact h.eq k ∅ ∅⟩ ∅
    exact⟨by omega,by omega,ih.2.2⟩
structure c72(O:KeyOrd)(key:Nat->O.α)(p0:Array Nat)(nrem:Nat)(r:Nat × Array Nat):Prop where
 perm:r.2.Perm p0
 size:r.2.size=p0.size
 lo:1<=r.1
 hi:r.1<=nrem
 up:Up O key r.2 r.1
theorem P10(hp:p.Perm p0)(hz:p.size=p0.size)(hd:Dn O key p n)(h1:1<=n)(hn:n<=nrem)(hr:nrem<=p0.size):c72 O key p0 nrem (run (j20 O key) (kas_tail3 n nrem p)):=by
 unfold kas_tail3;rw[run_bind];have hu:Up O key (Å4 p 0 n) n:=λi j hij hj=>by
  rw[b21 ∅,b21 ∅,if_pos ∅,if_pos ∅]
  exact hd _ _ ∅ ∅
 have a:=b31 (O:=O) (key:=key) (p:=Å4 p 0 n) (nrem - n) n h1 hu;exact⟨(C00 _ _ _).trans hp,(C10 _ _ _).trans hz,by show 1<=run _ (Å5 _ _ _);omega,by show run _ (Å5 _ _ _)<=_;omega,a.2.2.1⟩
theorem u90(hp:p.Perm p0)(hz:p.size=p0.size)(hd:Dn O key p (n + 1))(hn:n + 1<=nrem)(hr:nrem<=p0.size):c72 O key p0 nrem (run (j20 O key) (Ì0 n nrem p)):=by
 unfold Ì0;rw[run_bind];have d:=K70 (O:=O) (key:=key) (p0:=p0) (nrem - (n + 1)) p (n + 1) 0 ⟨hp,hz,by omega,hd,λk h1 h2=>by
  have:k=n:=by omega
  subst this;rfl⟩ ∅
 obtain⟨d1,d2,d3⟩:=d;have hpos:=d3.pos;split
 ·have d4:=d3.rev ∅
  exact P10 d4.perm d4.size d4.dn ∅ ∅ hr
 ·exact P10 d3.perm d3.size d3.dn ∅ ∅ hr
theorem p71(h1:1<=nrem)(hr:nrem<=p.size):c72 O key p nrem (run (j20 O key) (Õ2 nrem p)):=by
 unfold Õ2;rw[run_bind];have a:=b31 (O:=O) (key:=key) (p:=p) (nrem - 1) 1 (È _) (λi j hij hj=>by
  have:i=j:=by omega
  subst this;exact Ä7 _)
 generalize run (j20 O key) (Å5 p (nrem - 1) 1)=n at a ⊢;obtain⟨a1,a2,a3,a4⟩:=a;split
 ·exact⟨È8 _,rfl,a1,by show n<=nrem;omega,a3⟩
 ·rename_i hne;have hlt:n < nrem:=by
   have:n≠nrem:=by simpa using hne
   omega
  have hl:=a4 ∅
  split
  ·rename_i h2;have unf:run (j20 O key) (KasT.ask (p.getD 0 0) (p.getD (n - 1) 0) λc=>if c=true then .ret (n,p) else Ì0 n nrem (Å4 p 0 n)) =
    run (j20 O key) (if O.blt (kk O key p 0) (kk O key p (n - 1))=true then .ret (n,p) else Ì0 n nrem (Å4 p 0 n)):=rfl
   rw[unf];cases hb:O.blt (kk O key p 0) (kk O key p (n - 1)) with
   |true =>
    simp only[if_true];exact⟨È8 _,rfl,a1,by show n<=nrem;omega,a3⟩
   |false =>
    simp only[Ç5,if_false];have e0:kk O key p 0=kk O key p (n - 1):=O.total _ _ hb (a3 0 (n - 1) ∅ ∅)
    have e:∀ k,0<=k->k < n->kk O key p k=kk O key p (n - 1):=λk _ hk=>by
     refine KeyOrd.kle_antisymm (a3 k (n - 1) ∅ ∅) ?_
     rw[← e0];exact a3 0 k ∅ hk
    have er:=rev_eq (O:=O) (key:=key) (i:=0) (j:=n) (p:=p) ∅ e
    refine u90 (C00 _ _ _) (C10 _ _ _) ?_ ∅ hr
    have dn:Dn O key (Å4 p 0 n) n:=λi j hij hj=>by
     rw[er,er,e i ∅ ∅,e j ∅ ∅];exact Ä7 _
    refine dn.more a1 ?_;rw[er,er];exact Ë1 hl
  ·have h2:n=1:=by omega
   subst h2;refine u90 (È8 _) rfl ?_ ∅ hr
   have dn:Dn O key p 1:=λi j hij hj=>by
    have:i=j:=by omega
    subst this;exact Ä7 _
   exact dn.more (È _) (Ë1 hl)
theorem C20(hu:Up O key p k):∀ (f l r:Nat),l<=r->r<=k->r - l<=f->(∀ i,i < l->O.kle (kk O key p i) (kk O key p k))->(∀ i,r<=i->i < k->O.klt (kk O key p k) (kk O key p i)) ->
  run (j20 O key) (Á6 p k f l r)<=k/\(∀ i,i < run (j20 O key) (Á6 p k f l r)->O.kle (kk O key p i) (kk O key p k))/\(∀ i,run (j20 O key) (Á6 p k f l r)<=i->i < k->O.klt (kk O key p k) (kk O key p i))
 |0,l,r,h1,h2,h3,h4,h5=>by
  have:l=r:=by omega
  subst this;exact⟨h2,h4,h5⟩
 |f + 1,l,r,h1,h2,h3,h4,h5=>by
  have unf:Á6 p k (f + 1) l r=(if l ≥ r then .ret l else .ask (p.getD k 0) (p.getD ((l + r) / 2) 0) λc=>if c=true then Á6 p k f l ((l + r) / 2) else Á6 p k f ((l + r) / 2 + 1) r):=rfl;rw[unf];by_cases hlr:l ≥ r
  ·rw[if_pos hlr];have:l=r:=by omega
   subst this;exact⟨h2,h4,h5⟩
  ·rw[if_neg hlr];have unf2:run (j20 O key) (KasT.ask (p.getD k 0) (p.getD ((l + r) / 2) 0) λc=>if c=true then Á6 p k f l ((l + r) / 2) else Á6 p k f ((l + r) / 2 + 1) r) =
    run (j20 O key) (if O.blt (kk O key p k) (kk O key p ((l + r) / 2))=true then Á6 p k f l ((l + r) / 2) else Á6 p k f ((l + r) / 2 + 1) r):=rfl
   rw[unf2];cases hb:O.blt (kk O key p k) (kk O key p ((l + r) / 2)) with
   |true =>
    simp only[if_true];exact C20 hu f l ((l + r) / 2) ∅ ∅ ∅ h4 λi hi hk=>KeyOrd.klt_of_klt_of_kle hb (hu _ i hi hk)
   |false =>
    simp only[Ç5,if_false];exact C20 hu f ((l + r) / 2 + 1) r ∅ ∅ ∅ (λi hi=>Ò2 (hu i ((l + r) / 2) ∅ ∅) hb) h5
theorem w31:∀ (f:Nat) (p:Array Nat) (k:Nat),p.Perm p0->p.size=p0.size->Up O key p k->k + f<=p0.size ->
  (run (j20 O key) (kas_bin f p k)).Perm p0/\Up O key (run (j20 O key) (kas_bin f p k)) (k + f)
 |0,p,k,hp,_,hu,_=>⟨hp,hu⟩
 |f + 1,p,k,hp,hz,hu,hk=>by
  have unf:kas_bin (f + 1) p k=(Á6 p k k 0 k).bind λl=>kas_bin f (bubble p k (k - l)) (k + 1):=rfl;rw[unf,run_bind];have pl:=C20 (O:=O) (key:=key) hu k 0 k ∅ ∅ ∅ (λi hi=>absurd hi (Ð1 _)) (λi h1 h2=>absurd h2 ∅)
  generalize run (j20 O key) (Á6 p k k 0 k)=l at pl ⊢;obtain⟨l1,l2,l3⟩:=pl;have hb:=N61 (O:=O) (key:=key) (p:=p) (k:=k) (d:=k - l) ∅ ∅
  have hu':Up O key (bubble p k (k - l)) (k + 1):=λi j hij hj=>by
   rw[hb,hb];have el:k - (k - l)=l:=by omega
   rw[el];by_cases ei:i=l
   ·rw[if_pos ei];by_cases ej:j=l
    ·rw[if_pos ej];exact Ä7 _
    ·rw[if_neg ej,if_pos ∅]
     exact Ë1 (l3 _ ∅ ∅)
   ·rw[if_neg ei];by_cases hi:l < i/\i<=k
    ·rw[if_pos hi,if_neg ∅,if_pos ∅]
     exact hu _ _ ∅ ∅
    ·rw[if_neg hi];by_cases ej:j=l
     ·rw[if_pos ej];exact l2 _ ∅
     ·rw[if_neg ej];by_cases hj':l < j/\j<=k
      ·rw[if_pos hj'];exact hu _ _ ∅ ∅
      ·rw[if_neg hj'];exact hu _ _ hij ∅
  have ih:=w31 (p0:=p0) f (bubble p k (k - l)) (k + 1) ((bubble_perm _ _ _).trans hp) ((bubble_size _ _ _).trans hz) hu' ∅
  exact⟨ih.1,by have:=ih.2;rwa [show k + 1 + f=k + (f + 1) by omega] at this⟩
theorem B61(h1:1<=n):(run (j20 O key) (Ì7 n)).Perm (ñ n).toArray/\Up O key (run (j20 O key) (Ì7 n)) n:=by
 unfold Ì7;rw[run_bind];have c:=p71 (O:=O) (key:=key) (p:=(ñ n).toArray) h1 (by simp)
 generalize run (j20 O key) (Õ2 n (ñ n).toArray)=r at c ⊢;obtain⟨c1,c2,c3,c4,c5⟩:=c;split
 ·have b:=w31 (O:=O) (key:=key) (n - max r.1 1) r.2 (max r.1 1) c1 c2 (by rw[Nat.max_eq_left c3];exact c5) (by simp;omega)
  exact⟨b.1,by have:=b.2;rwa [show max r.1 1 + (n - max r.1 1)=n by omega] at this⟩
 ·have:r.1=n:=by omega
  rw[this] at c5;exact⟨c1,c5⟩
end
def l30{α:Type}(n:Nat):KasT α->Prop
 |.ret _=>True|.ask i j k=>(i < n/\j < n)/\∀ b,l30 n (k b)
def H20{α:Type}(G:α->Prop):KasT α->Prop
 |.ret a=>G a|.ask _ _ k=>∀ b,H20 G (k b)
theorem l30.bind{α β:Type}{n:Nat}{f:α->KasT β}{G:α->Prop}(hf:∀ a,G a->l30 n (f a)):∀ {t:KasT α},l30 n t->H20 G t->l30 n (t.bind f)
 |.ret a,_,g=>hf a g|.ask _ _ _,h,g=>⟨h.1,λb=>l30.bind hf (h.2 b) (g b)⟩
theorem H20.bind{α β:Type}{f:α->KasT β}{G:α->Prop}{G':β->Prop}(hf:∀ a,G a->H20 G' (f a)):∀ {t:KasT α},H20 G t->H20 G' (t.bind f)
 |.ret a,g=>hf a g|.ask _ _ _,g=>λb=>H20.bind hf (g b)
def Low(n:Nat)(p:Array Nat):Prop:=∀ i,p.getD i 0 < n
theorem b41(h1:1<=n)(hp:p.Perm q)(hq:∀ x∈q.toList,x < n):Low n p:=λi=>by
 by_cases hi:i < p.size
 ·have e:p.getD i 0=p[i]:=by simp[getD,hi]
  rw[e];exact hq _ (hp.toList.mem_iff.mp (by simp))
 ·have e:p.getD i 0=0:=by simp[getD,hi]
  rw[e];exact h1
structure Good(n:Nat)(q p:Array Nat):Prop where
 low:Low n p
 perm:p.Perm q
theorem Good.rev(h1:1<=n)(hq:∀ x∈q.toList,x < n)(g:Good n q p)(i j:Nat):Good n q (Å4 p i j) :=
 have e:=(mirror_perm p i j ((j - i) / 2)).trans g.perm
 ⟨b41 h1 e hq,e⟩
theorem Good.bub(h1:1<=n)(hq:∀ x∈q.toList,x < n)(g:Good n q p)(i j:Nat):Good n q (bubble p i j) :=
 have e:=(bubble_perm p i j).trans g.perm
 ⟨b41 h1 e hq,e⟩
section
variable {n:Nat}{q:Array Nat}
theorem C30(g:Low n p):∀ (f k:Nat),l30 n (Å5 p f k)
 |0,_=>trivial|f + 1,k=>⟨⟨g _,g _⟩,λb=>by cases b with | true=>exact trivial | false=>exact C30 g f (k + 1)⟩
theorem p30:∀ (f k:Nat),H20 (λ_=>True) (Å5 p f k)
 |0,_=>trivial|f + 1,k=>λb=>by cases b with | true=>exact trivial | false=>exact p30 f (k + 1)
theorem v00(h1:1<=n)(hq:∀ x∈q.toList,x < n):∀ (f:Nat) (p:Array Nat) (k c:Nat),Good n q p->l30 n (Á0 f p k c)/\H20 (λr=>Good n q r.1) (Á0 f p k c)
 |0,p,k,c,g=>⟨trivial,g⟩
 |f + 1,p,k,c,g=>by
  have a:=λp' k' c' g'=>(v00 h1 hq f p' k' c' g').1;have r:=λp' k' c' g'=>(v00 h1 hq f p' k' c' g').2;refine⟨⟨⟨g.low _,g.low _⟩,λb=>?_⟩,λb=>?_⟩
  ·cases b with
   |true =>
    show l30 n (if c > 0 then Á0 f (Å4 p (k - (c + 1)) k) (k + 1) 0 else Á0 f p (k + 1) 0);split
    ·exact a _ _ _ (g.rev h1 hq _ _)
    ·exact a _ _ _ g
   |false=>exact⟨⟨g.low _,g.low _⟩,λd=>by cases d with | true=>exact trivial | false=>exact a _ _ _ g⟩
  ·cases b with
   |true =>
    show H20 _ (if c > 0 then Á0 f (Å4 p (k - (c + 1)) k) (k + 1) 0 else Á0 f p (k + 1) 0);split
    ·exact r _ _ _ (g.rev h1 hq _ _)
    ·exact r _ _ _ g
   |false=>exact λd=>by cases d with | true=>exact g | false=>exact r _ _ _ g
theorem m60(h1:1<=n)(hq:∀ x∈q.toList,x < n)(g:Good n q p)(k m:Nat):l30 n (kas_tail3 k m p)/\H20 (λr=>Good n q r.2) (kas_tail3 k m p) :=
 have g':=g.rev h1 hq 0 k
 And.intro (l30.bind (f:=λm'=>Í5 (m',Å4 p 0 k)) (λ_ _=>Ç6) (C30 g'.low (m - k) k) (p30 (m - k) k)) (H20.bind (f:=λm'=>Í5 (m',Å4 p 0 k)) (G':=λr=>Good n q r.2) (λ_ _=>g') (p30 (m - k) k))
theorem g00(h1:1<=n)(hq:∀ x∈q.toList,x < n)(g:Good n q p)(k m:Nat):l30 n (Ì0 k m p)/\H20 (λr=>Good n q r.2) (Ì0 k m p):=by
 have d:=v00 h1 hq (m - (k + 1)) p (k + 1) 0 g;refine⟨l30.bind (λr gr=>?_) d.1 d.2,H20.bind (λr gr=>?_) d.2⟩
 ·split
  ·exact(m60 h1 hq (gr.rev h1 hq _ _) _ _).1
  ·exact(m60 h1 hq gr _ _).1
 ·split
  ·exact(m60 h1 hq (gr.rev h1 hq _ _) _ _).2
  ·exact(m60 h1 hq gr _ _).2
theorem V10(h1:1<=n)(hq:∀ x∈q.toList,x < n)(g:Good n q p)(m:Nat):l30 n (Õ2 m p)/\H20 (λr=>Good n q r.2) (Õ2 m p):=by
 refine⟨l30.bind (λk _=>?_) (C30 g.low _ _) (p30 _ _),H20.bind (λk _=>?_) (p30 _ _)⟩
 ·split
  ·exact trivial
  ·split
   ·exact⟨⟨g.low _,g.low _⟩,λb=>by cases b with | true=>exact trivial | false=>exact(g00 h1 hq (g.rev h1 hq _ _) _ _).1⟩
   ·exact(g00 h1 hq g _ _).1
 ·split
  ·exact g
  ·split
   ·exact λb=>by cases b with | true=>exact g | false=>exact(g00 h1 hq (g.rev h1 hq _ _) _ _).2
   ·exact(g00 h1 hq g _ _).2
theorem g70(g:Low n p)(k:Nat):∀ (f l r:Nat),l30 n (Á6 p k f l r)/\H20 (λ_=>True) (Á6 p k f l r)
 |0,_,_=>⟨trivial,trivial⟩
 |f + 1,l,r=>by
  have e:Á6 p k (f + 1) l r=(if l ≥ r then .ret l else .ask (p.getD k 0) (p.getD ((l + r) / 2) 0) λc=>if c=true then Á6 p k f l ((l + r) / 2) else Á6 p k f ((l + r) / 2 + 1) r):=rfl;rw[e];split
  ·exact⟨trivial,trivial⟩
  ·refine⟨⟨⟨g _,g _⟩,λb=>?_⟩,λb=>?_⟩
   ·cases b with
    |true=>exact(g70 g k f _ _).1|false=>exact(g70 g k f _ _).1
   ·cases b with
    |true=>exact(g70 g k f _ _).2|false=>exact(g70 g k f _ _).2
theorem P20(h1:1<=n)(hq:∀ x∈q.toList,x < n):∀ (f:Nat) (p:Array Nat) (k:Nat),Good n q p->l30 n (kas_bin f p k)
 |0,_,_,_=>trivial|f + 1,p,k,g=>l30.bind (λl _=>P20 h1 hq f _ _ (g.bub h1 hq _ _)) (g70 g.low k k 0 k).1 (g70 g.low k k 0 k).2
theorem b51(h1:1<=n):l30 n (Ì7 n):=by
 have hq:∀ x∈((ñ n).toArray).toList,x < n:=λx hx=>by simpa using hx
 have g:Good n (ñ n).toArray (ñ n).toArray:=⟨b41 h1 (È8 _) hq,È8 _⟩;have c:=V10 h1 hq g n;refine l30.bind (λr gr=>?_) c.1 c.2;split
 ·exact P20 h1 hq _ _ _ gr
 ·exact trivial
end
theorem H30{α:Type}{n:Nat}{cmp:Nat->Nat->Bool}{ask:Nat->Nat->(Bool->Å->Prop)->Å->Prop}{s:Å}(h:∀ i j (C:Bool->Å->Prop),i < n->j < n->C (cmp i j) s->ask i j C s){Q:α->Å->Prop} :
  ∀ (t:KasT α),l30 n t->Q (run cmp t) s->t.kasWp ask Q s
 |.ret _,_,q=>q|.ask i j k,a,q=>h i j _ a.1.1 a.1.2 (H30 h (k (cmp i j)) (a.2 _) q)
def f80:List Int->List Int->Bool
 |[],[]=>false|[],_::_=>true|_::_,[]=>false|x::r,y::q=>if x=y then f80 r q else decide (x < y)
theorem n90:∀ a,f80 a a=false
 |[]=>rfl|x::r=>by show(if x=x then f80 r r else _)=_;rw[if_pos rfl];exact n90 r
theorem m70:∀ a b c,f80 a b=true->f80 b c=true->f80 a c=true
 |[],[],_,h,_=>by cases h
 |[],_::_,[],_,h=>by cases h
 |[],_::_,_::_,_,_=>rfl|_::_,[],_,h,_=>by cases h
 |_::_,_::_,[],_,h=>by cases h
 |x::a,y::b,z::c,h1,h2=>by
  have h1:(if x=y then f80 a b else decide (x < y))=true:=h1;have h2:(if y=z then f80 b c else decide (y < z))=true:=h2;show(if x=z then f80 a c else decide (x < z))=true;by_cases e1:x=y
  ·rw[if_pos e1] at h1;by_cases e2:y=z
   ·rw[if_pos e2] at h2;rw[if_pos (e1.trans e2)];exact m70 a b c h1 h2
   ·rw[if_neg e2] at h2;rw[if_neg ∅]
    rw[e1];exact h2
  ·rw[if_neg e1] at h1;have l1:x < y:=by simpa using h1
   by_cases e2:y=z
   ·rw[if_neg ∅];exact decide_eq_true ∅
   ·rw[if_neg e2] at h2;have l2:y < z:=by simpa using h2
    rw[if_neg ∅];exact decide_eq_true ∅
theorem m80:∀ a b,f80 a b=false->f80 b a=false->a=b
 |[],[],_,_=>rfl|[],_::_,h,_=>by cases h
 |_::_,[],_,h=>by cases h
 |x::a,y::b,h1,h2=>by
  have h1:(if x=y then f80 a b else decide (x < y))=false:=h1;have h2:(if y=x then f80 b a else decide (y < x))=false:=h2;by_cases e:x=y
  ·subst e;rw[if_pos rfl] at h1 h2;rw[m80 a b h1 h2]
  ·rw[if_neg e] at h1;rw[if_neg (À3 e)] at h2;have l1:¬ x < y:=by simpa using h1
   have l2:¬ y < x:=by simpa using h2
   omega
theorem P30(a b c:List Int)(h:f80 a c=true):f80 a b=true∨f80 b c=true:=by
 cases hab:f80 a b with
 |true=>exact .inl rfl
 |false =>
  right;cases hba:f80 b a with
  |true=>exact m70 b a c hba h|false=>rw[← m80 a b hab hba];exact h
def B71:KeyOrd:=⟨List Int,f80,n90,m70,P30,m80⟩
section
variable {P:Ø}{w:ì}{A:ï}{E:Ã->Å->Prop}{s:Å}
def sortedBy(ks:List (List Int))(p:List Nat):Prop:=p.Perm (ñ ks.length)/\(p.map λi=>ks.getD i []).Pairwise λx y=>f80 y x=false
theorem range_getD(d:α):∀ (l:List α),(ñ l.length).map (λi=>l.getD i d)=l:=λl=>by
 refine List.ext_getElem (by simp) λi h1 h2=>?_
 simp at h1;simp[h1]
def m12(P:Ø)(w:ì)(A:ï)(s:Å)(vs:List Ã)(Pr:List Nat->Prop)(kd:Ô3):Prop:=∃ p:List Nat,Pr p/\∀ (E:Ã->Å->Prop) (Q:Unit × SortSt->Å->Prop),(∀ st',failedOf st'=none->arrOf st'=(p.toArray).map (kas_item (vs.toArray.zip vs.toArray))->Q ((),st') s)->Ð (Õ P w) A (sortRuns'.run (SortSt.mk' kd (vs.toArray.zip vs.toArray) #[] 7 none)) Q E s
structure N71(P:Program)(w:World)(A:Around)(s:Shared)(vs:List Value)(Pr:List Nat->Prop)(kd:SortKind):Prop where
 len:vs.length<=1000
 few:vs.length < 2->Pr (range vs.length)
 all:∀ p,Pr p->p.length=vs.length
 kind:2<=vs.length->∀ (E:Value->Shared->Prop) (Q:SortKind->Shared->Prop),Q kd s->wpAny (model P w) A (keyKind' vs.toArray) Q E s
 run:2<=vs.length->m12 P w A s vs Pr kd
theorem N81(hl:n=ks.length)(h2:n < 2):sortedBy ks (ñ n):=by
 subst hl;refine⟨.refl _,?_⟩;rw[range_getD]
 match ks,h2 with
 |[],_=>exact .nil|[_],_=>simp|_::_::_,q=>simp at q;omega
theorem B81{vs:List Ã}{ks:List (List Int)}{kd:Ô3}(hlen:vs.length=ks.length)(h64:vs.length < 64)(ask:∀ i j,i < vs.length->j < vs.length->∀ (E:Ã->Å->Prop) (C:Bool->Å->Prop),C (f80 (ks.getD i []) (ks.getD j [])) s->Ð (Õ P w) A (keyLt' kd (vs.getD i å) (vs.getD j å)) C E s)(h2':2<=vs.length):m12 P w A s vs (sortedBy ks) kd:=by
 have so:=B61 (O:=B71) (key:=λi=>ks.getD i []) (n:=vs.length) ∅
 refine⟨(run (j20 B71 λi=>ks.getD i []) (Ì7 vs.length)).toList,?_,λE Q q=>?_⟩
 ·generalize run (j20 B71 λi=>ks.getD i []) (Ì7 vs.length)=p at so;refine⟨?_,?_⟩
  ·have:=so.1.toList;rw[hlen] at this;simpa using this
  ·rw[List.pairwise_iff_getElem];intro i j hi hj hij;have hsz:p.size=vs.length:=by have:=so.1.size_eq;simpa using this
   have hi':i < p.size:=by simpa using hi
   have hj':j < p.size:=by simpa using hj
   have u:=so.2 i j (Ê0 hij) ∅
   have g:∀ k,k < p.size->kk B71 (λi=>ks.getD i []) p k=ks.getD (p.toList.getD k 0) []:=λk hk=>by show ks.getD (p.getD k 0) []=_;rw[É7,Â8 (l:=p.toList),Å1]
   have u':f80 (ks.getD (p.toList.getD j 0) []) (ks.getD (p.toList.getD i 0) [])=false:=by
    have:=u;unfold KeyOrd.kle at this;rw[g i hi',g j hj'] at this;exact this
   simpa [hi',hj'] using u'
 ·refine Á2 (kat_run (s:=s) (Q:=λst' s'=>s'=s/\failedOf st'=none/\arrOf st'=(run (j20 B71 λi=>ks.getD i []) (Ì7 vs.length)).map (kas_item (vs.toArray.zip vs.toArray)))
   (G:=λp s'=>s'=s/\p=run (j20 B71 λi=>ks.getD i []) (Ì7 vs.length)) rfl h2' h64 (λp st' s' a1 a2 a3 a4=>⟨a4.1,a3,by rw[a2,a4.2]⟩)
   (H30 (n:=vs.length) (cmp:=j20 B71 λi=>ks.getD i []) (λi j C hi hj hC=>ask i j hi hj _ C hC) (Ì7 vs.length) (b51 ∅) ⟨rfl,rfl⟩)) ?_ λ_ _ e=>e
  rintro ⟨⟨⟩,st'⟩ s' ⟨hs',hf,har⟩;subst hs';exact q st' hf har
def b61(h h':á):Prop:=∀ b o,h.get? b=some o->o.cls=.type "tuple"->h'.get? b=some o
theorem p81{a:Æ}{vs:List Ã}{Pr:List Nat->Prop}{kd:Ô3}{n:Nat}{R:PySem.Fin->Å->Prop}(ho:s.heap.get? a=some (Á5 "list" vs.toArray n))(hk:∀ h',b61 s.heap h'->N71 P w A { s with heap:=h' } vs Pr kd)
  (h:∀ (p:List Nat) (h':á) (c:Nat),Pr p->(∀ b o,b≠a->s.heap.get? b=some o->h'.get? b=some o)->h'.get? a=some (Á5 "list" (p.map λi=>vs.getD i å).toArray c)->R (.done (.ret .none)) { s with heap:=h' }) :
  Ð (Õ P w) A (Â4.«list.sort» ⟨[.ref a],[]⟩) R E s:=by
 have ha:a < s.heap.objs.size:=Û ho;have h64:=(hk s.heap λ_ _ e _=>e).len;have s1:=È3 s.heap a (ü λ_=>(#[]:Array Ã));obtain⟨e1,ho1⟩:∃ e1,(s.heap.update a (ü λ_=>(#[]:Array Ã))).get? a=some (Á5 "list" #[] e1):=⟨_,Ö2 ho λ_=>#[]⟩;have kp:∀ b o,b≠a->s.heap.get? b=some o->(((s.heap.update a (ü λ_=>(#[]:Array Ã))).push (Á5 "tuple" vs.toArray 0)).push (Á5 "list" #[] 0)).get? b=some o:=λb o hb e=>Ä _ (Ä _ ((s1.2 b hb).trans e));have ho6:(((s.heap.update a (ü λ_=>(#[]:Array Ã))).push (Á5 "tuple" vs.toArray 0)).push (Á5 "list" #[] 0)).get? a=some (Á5 "list" #[] e1):=Ä _ (Ä _ ho1);have hk6:=hk (((s.heap.update a (ü λ_=>(#[]:Array Ã))).push (Á5 "tuple" vs.toArray 0)).push (Á5 "list" #[] 0)) (λb o e hc=>kp b o (λq=>by subst q;rw[ho] at e;cases e;have hc':Ä4 "list"=Ä4 "tuple":=hc;injection hc' with hc';exact absurd hc' (-0)) e)
 rw[list_sort_plain];refine Á (Ï8 ho rfl (Á (Ò9 ho rfl ?_ (by rw[Ô,À9];omega) (Æ3 _))))
 refine Á (seqEpoch_at ho1 rfl (Á (wpAny_newTuple ?_ (by show vs.length<=_;rw[À9];omega))));refine Á (wpAny_newList (Ã0 ?_) (Æ3 _))
 show Ð (Õ P w) A _ R E { s with heap:=((s.heap.update a (ü λ_=>(#[]:Array Ã))).push (Á5 "tuple" vs.toArray 0)).push (Á5 "list" #[] 0) };generalize hH:((s.heap.update a (ü λ_=>(#[]:Array Ã))).push (Á5 "tuple" vs.toArray 0)).push (Á5 "list" #[] 0)=h6 at kp ho6 hk6 ⊢;have fin:∀ (p:List Nat) (out:Array Ã),out=(p.map λi=>vs.getD i å).toArray->Pr p->Ð (Õ P w) A (do
   let touched:=(← seqEpoch a) != e1
   Â4.List.listUpdate (.ref a) λ_=>out
   if touched then rule "list.sort.modified";raiseError "ValueError" "list modified during sort"
   ret .none) R E { s with heap:=h6 }:=λp out eo hp=>by
  subst eo;have hsz:(p.map λi=>vs.getD i å).toArray.size=vs.length:=by rw[Ô,É,(hk s.heap λ_ _ e _=>e).all p hp]
  have s2:=È3 h6 a (ü λ_=>(p.map λi=>vs.getD i å).toArray);refine Á (seqEpoch_at ho6 rfl (Á (Ò9 ho6 rfl ?_ (Æ3 _) (ë (Nat.le_of_eq hsz) (by rw[À9];omega)))))
  simp only[bne_self_eq_false,Ç5,if_false];exact Ç (h p _ _ hp (λb o hb e=>(s2.2 b hb).trans (kp b o hb e)) (Ö2 ho6 λ_=>(p.map λi=>vs.getD i å).toArray))
 dsimp only;by_cases h2:vs.toArray.size < 2
 ·rw[if_pos h2,if_pos h2];refine Á (Ç ?_);rw[StateT.run_pure];refine Á (Ç ?_);dsimp only;refine fin (ñ vs.length) _ ?_ ((hk s.heap λ_ _ e _=>e).few (by simpa using h2))
  rw[range_getD];apply Array.toList_inj.mp;rw[Array.toList_map];show List.map _ (vs.toArray.zip vs.toArray).toList=vs;rw[ksk_zip];exact List.map_snd_zip (È _)
 ·rw[if_neg h2,if_neg h2];have h2':2<=vs.length:=by simpa using h2
  refine Á (hk6.kind h2' _ _ ?_);obtain⟨p,hp,hr⟩:=hk6.run h2';refine Á (hr _ _ λst' hf har=>?_);dsimp only;rw[hf];exact fin p _ (kat_snds rfl har) hp
end
end MySort
namespace HT
open PySem PyProof.Rows
section
open PySem.SeqAt
open PySem.AutoSeq1 (wpAny_loadPart')
open PySem.MeetsSeq PySem.MeetsSeq2 PySem.MeetsSeq3
open MySort (f80)
def leB(ns ms:List Int):Bool:=!f80 ms ns
theorem p91(x y:Int)(r q:List Int):leB (x::r) (y::q)=if x=y then leB r q else decide (x<=y):=by
 show(!(if y=x then f80 q r else decide (y < x)))=_;by_cases e:x=y
 ·rw[if_pos e,if_pos e.symm];rfl
 ·rw[if_neg e,if_neg (À3 e)];by_cases l:y < x
  ·rw[decide_eq_true l,decide_eq_false ∅];rfl
  ·rw[decide_eq_false l,decide_eq_true ∅];rfl
theorem q01(A:ï)(s:Å)(a:Int)(t:Tok)(c:Int)(u:Tok)(P:Ø)(w:ì)(E:Ã->Å->Prop)(Q:Ã->Å->Prop)(h:Q (.bool (decide (a<=c))) s):Ð (Õ P w) A (richCompare .LtE (.int a t) (.int c u)) Q E s :=
 (PyProof.Rows.le_int h:Ð (Õ P w) A (ò .LtE (.int a t) (.int c u)) Q E s)
theorem C40(l b:Æ)(i1 i2:Array Ã)(n n2:Nat)(dd dd2:Option Æ)(sl sl2:Array (Option Ã))(ns ms:List Int)(hi:È1 i1.toList ns)(hj:È1 i2.toList ms) :
  Meets (Â4.«tuple.__le__» ⟨[.ref l,.ref b],[]⟩) (λ_ R s=>s.heap.get? l=some { cls:=.type "tuple",dict:=dd,data:=.seq i1 n,slots:=sl }/\s.heap.get? b=some { cls:=.type "tuple",dict:=dd2,data:=.seq i2 n2,slots:=sl2 }/\R (.ok (.ret (.bool (leB ns ms)))) s) :=
 .of_wp λP w A R s h=>by
  obtain⟨hp,g,d,tk,os⟩:=s;obtain⟨hl,hb,h⟩:=h;have f2:=Ô1;have z1:i1.size=ns.length:=by rw[← hi.length];simp
  have z2:i2.size=ms.length:=by rw[← hj.length];simp
  wp_walk using Â1 hl,Â1 hb,wpAny_forIn_list _ (λrest b s'=>b.1=none/\s'=⟨hp,g,d,tk,os⟩/\∃ (vs ws:List Ã) (ns' ms':List Int),rest=vs.zip ws/\È1 vs ns'/\È1 ws ms'/\ns'.length + i2.size=ms'.length + i1.size/\R (.ok (.ret (.bool (leB ns' ms')))) ⟨hp,g,d,tk,os⟩) _
  case turn =>
   rintro ⟨y,x⟩ rest b s' ⟨hb',rfl,vs,ws,ns',ms',hz,hvi,hwi,hlen,hR⟩;cases hvi with
   |nil=>rw[Ò1] at hz;cases hz
   |cons a t hvi' =>
    cases hwi with
    |nil=>rw[List.zip_nil_right] at hz;cases hz
    |cons c u hwi' =>
     rw[Ç3] at hz;injection hz with hyx hrest;injection hyx with hy hx;subst hy hx;rw[p91] at hR;simp only[Ò] at hlen;obtain⟨e,he,hiff⟩:=o01 A.in1 ⟨hp,g,d,tk,os⟩ a t c u;refine Á (he P w _ _ ?_);cases e with
     |true =>
      rw[if_pos (hiff.mp rfl)] at hR;wp_walk;exact⟨rfl,rfl,_,_,_,_,hrest,hvi',hwi',by omega,hR⟩
     |false =>
      rw[if_neg (λq=>absurd (hiff.mpr q) Ï)] at hR;have hri:=q01 A.in1 ⟨hp,g,d,tk,os⟩ a t c u P w
      wp_walk using hri
      exact⟨_,rfl,by simpa using hR⟩
  case fin =>
   rintro ⟨b1,b2⟩ s' ⟨hb',rfl,vs,ws,ns',ms',hz,hvi,hwi,hlen,hR⟩;simp only at hb';subst hb';have hv:leB ns' ms'=decide (i1.size<=i2.size):=by
    cases hvi with
    |nil =>
     cases hwi with
     |nil=>simp only[Ã2] at hlen;exact(decide_eq_true ∅).symm|cons c u hw=>simp only[Ã2,Ò] at hlen;exact(decide_eq_true ∅).symm
    |cons a t hv =>
     cases hwi with
     |nil=>simp only[Ã2,Ò] at hlen;exact(decide_eq_false ∅).symm|cons c u hw=>rw[Ç3] at hz;cases hz
   rw[hv] at hR;wp_walk;exact⟨_,rfl,by simpa [tupleCompareSizes] using hR⟩
  case h=>exact⟨rfl,rfl,i1.toList,i2.toList,ns,ms,rfl,hi,hj,by omega,h⟩
end
section
variable {P:Ø}{w:ì}{A:ï}{E:Ã->Å->Prop}{s:Å}
theorem V20{l b:Æ}{i1 i2:Array Ã}{ns ms:List Int}{Q:Ã->Å->Prop}(hl:Í8 s.heap l i1)(hb:Í8 s.heap b i2)(hi:È1 i1.toList ns)(hj:È1 i2.toList ms)
  (hu:A.units < Å9) (h:Q (.bool (leB ns ms)) s):Ð (Õ P w) A (ò .LtE (.ref l) (.ref b)) Q E s:=by
 obtain⟨⟨cls,dd,data,sl⟩,ho,hc,n,hd⟩:=id hl;obtain⟨⟨cls2,dd2,data2,sl2⟩,ho2,hc2,n2,hd2⟩:=id hb;simp only at hc hd hc2 hd2;subst hc hd hc2 hd2;exact richCompare_meets_room (op:=.LtE) ⟨_,ho,rfl⟩ ⟨_,ho2,rfl⟩ PySem.F.slot_tuple_le PySem.F.entry_tuple_le (PySem.F.args_tuple_le_2 _ _) (C40 l b i1 i2 n n2 dd dd2 sl sl2 ns ms hi hj)
  ⟨ho,ho2,show É9 (leB ns ms)≠Ï1/\Q (.bool (leB ns ms)) s from⟨(λx=>nomatch x),h⟩⟩ hu
theorem B91{t b:Æ}{ws:List Ã}{Q:Ã->Å->Prop}(ht:Í8 s.heap t #[])(hb:Í8 s.heap b ws.toArray)(h:Q (.ref b) s):Ð (Õ P w) A (Â6 .Add (.ref t) (.ref b)) Q E s:=by
 obtain⟨⟨cls,dd,data,sl⟩,ho,hc,n,hd⟩:=id ht;obtain⟨⟨cls2,dd2,data2,sl2⟩,ho2,hc2,n2,hd2⟩:=id hb;simp only at hc hd hc2 hd2;subst hc hd hc2 hd2;exact concat_meets ⟨_,ho,rfl⟩ ⟨_,ho2,rfl⟩ Õ1 seq_tuple_add Ì9 Ì3 (Ê9 _ _) (tuple_addW0 t b #[] ws.toArray n n2 dd dd2 sl sl2 (by simp)) ⟨ho,ho2,h⟩
theorem H40:seqRepeat? (.type "tuple")=pure (some (.builtin "tuple.__mul__")):=by
 first | kernel_rfl | rfl | (unfold seqRepeat?;kernel_rfl)
theorem t00:fillsNumberSlot (.type "tuple") "mul"=pure false:=by
 first | kernel_rfl | rfl
theorem V30(a:Int)(t:Tok)(l:Æ)(xs:Array Ã)(n:Nat)(dd:Option Æ)(sl:Array (Option Ã)) :
  Meets (Â4.«int.__rmul__» ⟨[.int a t,.ref l],[]⟩) (λ_ R s=>s.heap.get? l=some { cls:=.type "tuple",dict:=dd,data:=.seq xs n,slots:=sl }/\R (.ok (.ret Ï1)) s) :=
 .of_wp λP w A R s h=>by obtain⟨hp,g,d,tk,os⟩:=s;obtain⟨hl,h⟩:=h;wp_walk;exact⟨_,rfl,h⟩
theorem q11(l:Æ)(xs:Array Ã)(k:Int)(u:Tok)(n:Nat)(dd:Option Æ)(sl:Array (Option Ã))(h1:¬ (decide (k < -(2 ^ 63)) || decide (k ≥ 2 ^ 63))=true)(h2:(xs.isEmpty || k == 1)=true) :
  Meets (Â4.«tuple.__mul__» ⟨[.ref l,.int k u],[]⟩) (λ_ R s=>s.heap.get? l=some { cls:=.type "tuple",dict:=dd,data:=.seq xs n,slots:=sl }/\R (.ok (.ret (.ref l))) s) :=
 .of_wp λP w A R s h=>by
  obtain⟨hp,g,d,tk,os⟩:=s;obtain⟨hl,h⟩:=h;have f1:=Ñ2
  wp_walk using Á4 hl
  simp only[h1,if_false]
  wp_walk using Á4 hl
  exact⟨_,rfl,h⟩
theorem mul_zero(l:Æ)(xs:Array Ã)(k:Int)(u:Tok)(n:Nat)(dd:Option Æ)(sl:Array (Option Ã))(h1:¬ (decide (k < -(2 ^ 63)) || decide (k ≥ 2 ^ 63))=true)(h2:¬ (xs.isEmpty || k == 1)=true)(h3:(decide (k<=0) || xs.isEmpty)=true) :
  Meets (Â4.«tuple.__mul__» ⟨[.ref l,.int k u],[]⟩) (λ_ R s=>s.heap.get? l=some { cls:=.type "tuple",dict:=dd,data:=.seq xs n,slots:=sl }/\R (.ok (.ret (.ref s.heap.objs.size))) { s with heap:=s.heap.push { cls:=.type "tuple",data:=.seq #[] } }) :=
 .of_wp λP w A R s h=>by
  obtain⟨hp,g,d,tk,os⟩:=s;obtain⟨hl,h⟩:=h;have f1:=Ñ2
  wp_walk using Á4 hl
  simp only[h1,if_false]
  wp_walk using Á4 hl
  exact⟨_,rfl,h⟩
theorem q21(l:Æ)(xs:Array Ã)(k:Int)(u:Tok)(n:Nat)(dd:Option Æ)(sl:Array (Option Ã))(h1:¬ (decide (k < -(2 ^ 63)) || decide (k ≥ 2 ^ 63))=true)(h2:¬ (xs.isEmpty || k == 1)=true)(h3:¬ (decide (k<=0) || xs.isEmpty)=true)
  (h4:¬ (xs.size:Int) * k > (2 ^ 63 - 1) / 8) (h5:¬ tupleTooMany ((xs.size:Int) * k)=true) (h6:(foldl (λx y=>x++y) #[] (ã k.toNat xs)).size<=sizeLine) :
  Meets (Â4.«tuple.__mul__» ⟨[.ref l,.int k u],[]⟩) (λ_ R s=>s.heap.get? l=some { cls:=.type "tuple",dict:=dd,data:=.seq xs n,slots:=sl }/\R (.ok (.ret (.ref s.heap.objs.size))) { s with heap:=s.heap.push { cls:=.type "tuple",data:=.seq (foldl (λx y=>x++y) #[] (ã k.toNat xs)) } }) :=
 .of_wp λP w A R s h=>by
  obtain⟨hp,g,d,tk,os⟩:=s;obtain⟨hl,h⟩:=h;have f1:=Ñ2
  wp_walk using Á4 hl
  simp only[h1,if_false]
  wp_walk using Á4 hl
  simp only[h4,h5,if_false];refine Á (m:=È9 _) (û (Ç ?_) h6);exact⟨_,rfl,h⟩
theorem o00{t sl:Æ}{xs:Array Ã}{vl vu:Ã}{lo hi:Option Int}{Q:Ã->Å->Prop}(ht:Í8 s.heap t xs)(hs:s.heap.IsSliceOf sl vl vu .none)(pl:Ñ7 vl lo)(pu:Ñ7 vu hi)
  (hw:sIx xs.size 0 lo=0/\sIx xs.size xs.size hi=xs.size) (h:Q (.ref t) s):Ð (Õ P w) A (Ñ8 (.ref t) (.ref sl)) Q E s:=by
 obtain⟨os,hos,hcs,hds⟩:=id hs;have hTs:s.TypeIs (.ref sl) "slice":=⟨os,hos,hcs⟩;unfold Ñ8;try with_reducible refine Ã0 ?_
 first | refine Á (Ç ?_) | skip
 refine Á (wpAny_sequenceKey ht.typeIs (-0) ?_);refine Á (Â3 (name:=À5 "__getitem__") ht.typeIs À7 (Ä9 À7 ht.typeIs entry_tuple_getitem ?_ (args_tuple_getitem _ _)))
 show Ð _ _ (tupleItemsOf (.ref t) >>= _) _ _ s;refine Á (tupleItemsOf_ ht (Á (Ë9 hTs ?_)));rw[if_pos (-0)];refine Á (k80 hs pl pu ?_)
 rw[hw.1,hw.2];show Ð _ _ (if (((0:Nat):Int) == 0&&(1:Int) == 1&&(xs.size - 0) == xs.size)=true then _ else _) _ _ s;rw[if_pos (by simp)]
 refine Á (m:=tupleIsExact _) ?_;unfold tupleIsExact;refine Á (Ë9 ht.typeIs (Ç ?_));rw[if_pos (-0)]
 first
  |exact Á (Ï7 (Ç ⟨_,rfl,Ç h⟩))
  |exact Á (Ï7 (Á (Ç (Ç ⟨_,rfl,Ç h⟩))))
end
end HT
namespace L2
open PySem PySem.Spec PyProof.Rows
theorem a10.sqT{K:À}{H H':Hp}{a:Æ}{xs:List V}(e:a10 H H')(h:SqT K H a xs):SqT K H' a xs:=by
 rcases h with (h | ⟨o,h⟩) | h
 ·exact .inl (.inl (e _ _ h))
 ·exact .inl (.inr ⟨o,e _ _ h⟩)
 ·exact .inr h
theorem a10.new(o:HO)(n:H p=none):a10 H (upd H p o):=λb u e=>by rw[a20 (a60 e n)];exact e
def q31(K:À)(H:Hp)(zs:List V)(Q:VK):Prop:=∀ p H',a10 H H'->SqT K H' p zs->Q (.ref p) H'
section
variable {X:Cx}{pins:List (Æ × Obj)}{σ:St}{H:Hp}{s:Å}
theorem q31.here(q:q31 X.K H zs Q)(I:Inv X pins σ H s)(h:SqT X.K H a zs):EP X pins σ Q (.ref a) s:=⟨.ref a,H,I,rfl,q a H (a10.refl H) h⟩
theorem q31.new(q:q31 X.K H zs Q)(I:Inv X pins σ H s)(r:Vals zs us)(hz:zs.length<=sizeLine) :
  EP X pins σ Q (.ref s.heap.objs.size) { s with heap:=s.heap.push { cls:=.type "tuple",data:=.seq us.toArray } } :=
 have hn:H s.heap.objs.size=none:=I.hok.fresh (È _)
 ⟨.ref s.heap.objs.size,_,I.laid (t':=s.toks) (o:=.tup zs) (λb ob q=>Ä _ q) (È _) ⟨hz,_,r,Í8.new _ _⟩,rfl,q _ _ (a10.new _ hn) (SqT.of a90)⟩
end
section
variable {X:Cx}
def q32(K:À):R2:=λx y H Q=>∃ a b ns ms,x=.ref a/\y=.ref b/\SqT K H a (ns.map V.int)/\SqT K H b (ms.map V.int)/\Q (.bl (HT.leB ns ms)) H
theorem N91(hu:X.A.units < Å9):OpR X (ò .LtE) (q32 X.K):=by
 intro pins s σ H x y v u Q I rx ry h;obtain⟨a,b,ns,ms,rfl,rfl,ha,hb,q⟩:=h;cases rx;cases ry;obtain⟨v1,r1,p1,_⟩:=I.tuple ha;obtain⟨v2,r2,p2,_⟩:=I.tuple hb;exact HT.V20 p1 p2 (show È1 v1.toArray.toList ns from intsAre_of r1) (show È1 v2.toArray.toList ms from intsAre_of r2) hu ⟨.bl (HT.leB ns ms),H,I,rfl,q⟩
def c82(K:À):R2:=λx y H Q=>∃ a b xs ys,x=.ref a/\y=.ref b/\SqT K H a xs/\SqT K H b ys/\xs.length + ys.length<=sizeLine/\q31 K H (xs++ys) Q
theorem C01:OpR X (Â6 .Add) (c82 X.K):=by
 intro pins s σ H x y v u Q I rx ry h;obtain⟨a,b,xs,ys,rfl,rfl,ha,hb,hz,q⟩:=h;cases rx;cases ry;obtain⟨v1,r1,p1,_⟩:=I.tuple ha;obtain⟨v2,r2,p2,_⟩:=I.tuple hb;by_cases hx:xs=[]
 ·subst hx;have e:=r1.B20.mpr rfl;subst e;exact HT.B91 p1 p2 (q.here I hb)
 ·refine HT.A71 p1 p2 (λz=>hx (r1.B20.mp z)) (λz=>?_) (λz=>q.new I (r1.append r2) (by rw[ÿ];exact hz)) (by rw[← r1.length,← r2.length];exact hz)
  have e:=r2.B20.mp z;subst e;rw[Ä0] at q;exact q.here I ha
def c92(K:À):R2:=λx y H Q=>∃ a k xs,x=.ref a/\y=.int k/\SqT K H a xs/\0<=k/\k < 1000000/\k.toNat * xs.length<=sizeLine/\q31 K H (ã k.toNat xs).flatten Q
theorem C11:OpR X (Â6 .Mult) (c92 X.K):=by
 intro pins s σ H x y v u Q I rx ry h;obtain⟨a,k,xs,rfl,rfl,ha,hk,hk2,hz,q⟩:=h;cases rx;obtain⟨t,rfl⟩:=ry;obtain⟨v1,r1,p1,_⟩:=I.tuple ha;have hl:=r1.length;obtain⟨⟨cls,dd,data,sl⟩,ho,hc,n,hd⟩:=id p1;simp only at hc hd;subst hc hd;have h1:¬ (decide (k < -(2 ^ 63)) || decide (k ≥ 2 ^ 63))=true:=by simp;omega
 refine wpAny_binaryOp_repeat_ref (T:="tuple") (U:="int") (-0) ⟨_,ho,rfl⟩ (λs'=>Ó2 s' k t) HT.t00 F.fills_int_mul Ï5 HT.H40 F.slot_int_index.lookup
  (Æ5 Ï5 (Ó2 s k t) F.entry_int_rmul (F.args_int_rmul_2 _ _) (HT.V30 k t a v1.toArray n dd sl) ⟨ho,rfl,⟨_,ho,rfl⟩,?_⟩)
 by_cases hx:v1=[]∨k=1
 ·refine Æ5 Ô5 ⟨_,ho,rfl⟩ Ó8 (Ò5 _ _) (HT.q11 a v1.toArray k t n dd sl h1 (by rcases hx with hx | hx <;> simp[hx])) ⟨ho,?_⟩
  have e2:(ã k.toNat xs).flatten=xs:=by
   rcases hx with hx | hx
   ·rw[r1.B20.mp hx];simp
   ·rw[hx];simp
  rw[e2] at q;exact q.here I ha
 ·have hv:v1≠[]:=λz=>hx (.inl z);have h2:¬ (v1.toArray.isEmpty || k == 1)=true:=by simp[hv];exact λz=>hx (.inr z)
  by_cases hk0:k=0
  ·refine Æ5 Ô5 ⟨_,ho,rfl⟩ Ó8 (Ò5 _ _) (HT.mul_zero a v1.toArray k t n dd sl h1 h2 (by simp[hk0])) ⟨ho,?_⟩
   rw[show(ã k.toNat xs).flatten=[] by rw[hk0];rfl] at q
   exact q.new I .nil (Æ3 _)
  have hpos:0 < v1.length:=List.length_pos_iff.mpr hv;have hfl:foldl (λx y=>x++y) #[] (ã k.toNat v1.toArray)=(ã k.toNat v1).flatten.toArray:=by
   have:=foldl_rep v1 k.toNat [];rw[nil_append] at this;exact this
  have hsz:v1.length * k.toNat<=sizeLine:=by rw[← hl,mul_comm];exact hz
  have hcast:((v1.toArray.size:Nat):Int) * k=((v1.length * k.toNat:Nat):Int):=by rw[Ô,Int.natCast_mul,Int.toNat_of_nonneg ∅]
  have hline:(sizeLine:Nat)<=(2 ^ 63 - 1) / 8:=by decide
  refine Æ5 Ô5 ⟨_,ho,rfl⟩ Ó8 (Ò5 _ _) (HT.q21 a v1.toArray k t n dd sl h1 h2 (by simp[hv];omega) (by rw[hcast];generalize v1.length * k.toNat=m at hsz;omega) (by rw[hcast];generalize v1.length * k.toNat=m at hsz;unfold tupleTooMany;intro z;have z':=of_decide_eq_true z;omega)
   (by rw[hfl,Ô,len_rep,mul_comm];exact hsz)) ⟨ho,?_⟩
  rw[hfl];exact q.new I (r1.rep k.toNat) (by rw[len_rep];exact hz)
def q42(K:À):V->Option Int->Option Int->Hp->VK->Prop:=λx lo hi H Q=>∃ a xs,x=.ref a/\SqT K H a xs/\q31 K H (o41 xs lo hi) Q
theorem C21:SlR X (q42 X.K):=by
 intro pins s σ H x v vl vu lo hi sl Q I rx hs pl pu h;obtain⟨a,xs,rfl,hx,q⟩:=h;cases rx;obtain⟨its,r,ht,hz⟩:=I.tuple hx;have hlen:its.toArray.size=xs.length:=by rw[Ô];exact r.length.symm
 refine⟨"tuple",_,À7.lookup,ht.typeIs,?_⟩;by_cases hw:HT.sIx xs.length 0 lo=0/\HT.sIx xs.length xs.length hi=xs.length
 ·refine HT.o00 ht hs pl pu (by rw[hlen];exact hw) ?_
  have e:o41 xs lo hi=xs:=by unfold o41;rw[hw.1,hw.2];simp
  rw[e] at q;exact q.here I hx
 ·refine HT.q60 ht hs pl pu (by rw[hlen];exact hw) ?_ (by rw[hlen];exact hz)
  rw[hlen];exact q.new I ((r.drop (HT.sIx xs.length 0 lo)).take (HT.sIx xs.length xs.length hi - HT.sIx xs.length 0 lo)) (ë (u60 xs lo hi) hz)
def u42(K:À)(te ts:TE):TE:=λσ H Q=>te σ H λx H1=>ts σ H1 λy H2=>y=.int (-1)/\((∃ a xs,x=.ref a/\SqT K H2 a xs/\q31 K H2 xs.reverse Q)∨∃ a xs,x=.ref a/\SqL K H2 a xs/\∀ p,H2 p=none->Q (.ref p) (upd H2 p (.lst xs.reverse)))
theorem O01:OpR X (ò .Is) (λx y H Q=>∃ b c,x=.bl b/\y=.bl c/\Q (.bl (b == c)) H):=by
 intro pins s σ H x y v u Q I rx ry h;obtain⟨b,c,rfl,rfl,q⟩:=h;cases rx;cases ry;exact is_bool (v81 I q rfl)
theorem Inv.big(I:Inv X pins σ H s):sysModules < s.heap.objs.size:=by
 have h:Ý < s.heap.objs.size:=(I.mod.glob.keeps I.bk).lt;exact Nat.lt_trans (-0) h
def d02:TE:=λ_ H Q=>∀ p,H p=none->Q (.ref p) (upd H p (.dK []))
theorem C31:PE X (.Dict [] [] pos) d02:=λpins s σ H Q I h =>
 wpAny_Dict_empty ⟨.ref s.heap.objs.size,_,I.laid (a:=s.heap.objs.size) (o:=.dK []) (t':=s.toks) (λ_ _ q=>Ä _ q) (È _) ⟨Æ3 _,beq_eq_false_iff_ne.mpr (À3 (â I.big)),[],.nil,á.DictOf.new _⟩,rfl,h _ (I.hok.fresh (È _))⟩
end
end L2
namespace MySort
open PySem PySem.W PyProof.Rows
section
variable {P:Ø}{w:ì}{A:ï}{E:Ã->Å->Prop}{s:Å}
theorem K80{l:Æ}{o:Obj}{vs:List Ã}{n:Nat}{Q:List Ã->Å->Prop}(ho:s.heap.get? l=some o)(hc:o.cls=.type "list"∨o.cls=.type "tuple")(hd:o.data=.seq vs.toArray n)
  (h:Q vs { s with heap:=(s.heap.push (Á5 "list" #[] 0)).update s.heap.objs.size (ü (·++vs.toArray)) }) (hz:vs.length<=sizeLine):Ð (Õ P w) A (collect (.ref l)) Q E s:=by
 unfold collect;refine Á (wpAny_runValue (È0 entry_proto_collect' ?_));show Ð _ _ (do again (.builtin "list.__iadd__" ⟨[← newList [],.ref l],[]⟩)) _ _ s;refine Á (wpAny_newList (Ç ⟨Code.quiet_builtin _ (by decide +kernel),È0 entry_list_iadd' ?_⟩))
 show Ð _ _ (È7 (.ref s.heap.objs.size) (.ref l) (.ref s.heap.objs.size)) _ _ { s with heap:=s.heap.push (Á5 "list" #[] 0) };unfold È7;have ho':(s.heap.push (Á5 "list" #[] 0)).get? l=some o:=Ä _ ho;have fin:Ð (Õ P w) A (do
   let o ← load s.heap.objs.size
   match o.data with
   |.seq xs _=>pure xs.toList
   |_=>unsupported "internal:collect") Q E { s with heap:=(s.heap.push (Á5 "list" #[] 0)).update s.heap.objs.size (ü (·++vs.toArray)) }:=by
  refine Á (wpAny_load (Ö2 (Ì _ rfl) _) ?_);show Ð _ _ (pure ((#[]:Array Ã)++vs.toArray).toList) Q E _;rw[show((#[]:Array Ã)++vs.toArray).toList=vs by simp];exact Ç h
 rcases hc with hc | hc
 ·refine Á (Ë9 (T:="list") ⟨o,ho',hc⟩ ?_);rw[if_pos (by rw[show(Ä4 "list" == Ä4 "list")=true by rfl];simp)]
  refine Á (Ï8 ho' hd (Á (Ï8 (xs:=#[]) (n:=0) (Ì _ rfl) rfl ?_)));rw[if_neg (by simp)]
  exact Á (Ò9 (xs:=#[]) (n:=0) (Ì _ rfl) rfl (Ç fin) (Æ3 _) (by show(#[]++vs.toArray).size<=sizeLine + 1;simp only[Array.size_append,Ô,Ã2];omega))
 ·refine Á (Ë9 (T:="tuple") ⟨o,ho',hc⟩ ?_);rw[if_pos (by rw[show(Ä4 "tuple" == Ä4 "tuple")=true by rfl];simp)]
  refine Á (Ï8 ho' hd (Á (Ï8 (xs:=#[]) (n:=0) (Ì _ rfl) rfl ?_)));rw[if_neg (by simp)]
  exact Á (Ò9 (xs:=#[]) (n:=0) (Ì _ rfl) rfl (Ç fin) (Æ3 _) (by show(#[]++vs.toArray).size<=sizeLine + 1;simp only[Array.size_append,Ô,Ã2];omega))
theorem b71{l:Æ}{o:Obj}{vs:List Ã}{Pr:List Nat->Prop}{kd:Ô3}{n:Nat}{Q:Ã->Å->Prop}(ho:s.heap.get? l=some o)(hc:o.cls=.type "list"∨o.cls=.type "tuple")(hd:o.data=.seq vs.toArray n)
  (hk:∀ h',b61 s.heap h'->N71 P w A.in1.in1 { s with heap:=h' } vs Pr kd)
  (h:∀ (p:List Nat) (h':á) (c:Nat),Pr p->(∀ b o,s.heap.get? b=some o->h'.get? b=some o)->h'.get? (s.heap.objs.size + 1)=some (Á5 "list" (p.map λi=>vs.getD i å).toArray c)->Q (.ref (s.heap.objs.size + 1)) { s with heap:=h' }) :
  Ð (Õ P w) A (call (.builtin "sorted") [.ref l]) Q E s:=by
 have h64:=(hk s.heap λ_ _ e _=>e).len;refine Calls.call_function_entry kind_sorted plain_sorted entry_sorted (args_sorted1 _) ?_;unfold Â4.«sorted»;refine Á (m:=checkCount "sorted" 1 1 _) (Ç ?_);refine Á (K80 ho hc hd ?_ (by rw[À9];omega));refine Á (wpAny_newList ?_ (by rw[À9];omega))
 have hsz:((s.heap.push (Á5 "list" #[] 0)).update s.heap.objs.size (ü (·++vs.toArray))).objs.size=s.heap.objs.size + 1:=by rw[á.size_update,size_push']
 have hoL:(((s.heap.push (Á5 "list" #[] 0)).update s.heap.objs.size (ü (·++vs.toArray))).push (Á5 "list" vs.toArray 0)).get? (s.heap.objs.size + 1)=some (Á5 "list" vs.toArray 0):=by rw[← hsz];exact Ì _ rfl
 have keep:∀ b o,s.heap.get? b=some o->(((s.heap.push (Á5 "list" #[] 0)).update s.heap.objs.size (ü (·++vs.toArray))).push (Á5 "list" vs.toArray 0)).get? b=some o:=λb o q=>by
  have hlt:b < s.heap.objs.size:=Û q;rw[á.get?_push_ne _ _ _ (by rw[hsz];exact â (Ò4 hlt)),á.get?_update_ne _ _ _ _ (â hlt),á.get?_push_ne _ _ _ (â hlt)];exact q
 show Ð _ _ _ _ _ { s with heap:=((s.heap.push (Á5 "list" #[] 0)).update s.heap.objs.size (ü (·++vs.toArray))).push (Á5 "list" vs.toArray 0) };rw[hsz];refine Á (Ã0 (Ä9 slot_list_sort ⟨_,hoL,rfl⟩ entry_list_sort (p81 hoL (λh' kp=>hk h' λb o e hc=>kp b o (keep b o e) hc) λp h' c hp kp hD=>⟨_,rfl,Ç ⟨_,rfl,h p h' c hp (λb o e=>kp b o (â (Ò4 (Û e))) (keep b o e)) hD⟩⟩) (args_list_sort _)))
end
end MySort
namespace L2
open PySem PySem.Spec PyProof.Rows
open MySort (sortedBy)
section
variable {X:Cx}
def C41(X:Cx)(H:Hp)(xs:List V)(Pr:List Nat->Prop):Prop:=∀ (pins:List (Æ × Obj)) (σ:St) (s:Å) (us:List Ã),Inv X pins σ H s->Vals xs us->∃ kd,∀ h',MySort.b61 s.heap h'->MySort.N71 X.prog X.w X.A.in1.in1 { s with heap:=h' } us Pr kd
theorem H50:g90 X (.builtin "sorted") (λargs H Q=>∃ a xs,∃ Pr:List Nat->Prop,args=[.ref a]/\(SqL X.K H a xs∨SqT X.K H a xs)/\C41 X H xs Pr/\(∀ p,Pr p->∀ i∈p,i < xs.length)/\∀ p l,Pr p->H l=none->Q (.ref l) (upd H l (.lst (p.map λi=>xs.getD i .non)))):=by
 intro pins s σ H args us Q I r h;obtain⟨a,xs,Pr,rfl,hq,hk,hpr,q⟩:=h;obtain⟨u,rfl,rx⟩:=vals1 r;cases rx;have go:∀ (its:List Ã) (o:Obj) (n:Nat),Vals xs its->s.heap.get? a=some o->(o.cls=.type "list"∨o.cls=.type "tuple")->o.data=.seq its.toArray n->Ð (Õ X.prog X.w) X.A (call (.builtin "sorted") [.ref a]) (EP X pins σ Q) X.xe s:=λits o n rv ho hc hd=>by
  obtain⟨kd,kw⟩:=hk pins σ s its I rv;have k0:=kw s.heap λ_ _ e _=>e;refine MySort.b71 ho hc hd kw λp h' c hp kp hD=>?_;have hn:H (s.heap.objs.size + 1)=none:=I.hok.fresh (Æ4 _ 1);have hlen:(p.map λi=>xs.getD i .non).length<=sizeLine:=by rw[É,k0.all p hp,À9];have:=k0.len;omega
  have rv':Vals (p.map λi=>xs.getD i .non) (p.map λi=>its.getD i å):=by
   have hall:=hpr p hp;clear hp hD hlen
   induction p with
   |nil=>exact .nil
   |cons i r ih =>
    refine .cons ?_ (ih λj hj=>hall j (Î _ hj));have hi:=hall i Ó;obtain⟨u,hu,ru⟩:=rv.get (i:=i) (x:=xs[i]) (by simp[hi])
    have e1:xs.getD i V.non=xs[i]:=by simp[hi]
    have e2:its.getD i å=u:=by rw[Â8,hu];rfl
    show RelV (xs.getD i V.non) (its.getD i å);rw[e1,e2];exact ru
  exact⟨.ref (s.heap.objs.size + 1),_,I.laid (t':=s.toks) kp (Æ4 _ 1) (show f90 X.prog X.w _ h' _ (.lst _) from⟨hlen,_,c,rv',hD⟩),rfl,q p _ hp hn⟩
 rcases hq with hq | hq
 ·obtain⟨its,rv,pl,_⟩:=I.list hq;obtain⟨o,ho,hc,n,hd⟩:=pl.isList;exact go its o n rv ho (.inl hc) hd
 ·obtain⟨its,rv,⟨o,ho,hc,n,hd⟩,_⟩:=I.tuple hq;exact go its o n rv ho (.inr hc) hd
end
section
variable {K:À}{g:TG}{tt:TT}{te:TE}{σ0:St}{H:Hp}{Q:VK}
theorem q41{lo:Int}{n:Nat}(Pv:Nat->List V->Hp->Prop)(hz:n<=sizeLine)(h0:Pv 0 [] H)(hl:∀ i ys H,Pv i ys H->ys.length<=i)
  (hs:∀ i ys H,i < n->Pv i ys H->g (.int (lo + i)) σ0 H λσ2 H2=>tt σ2 H2 λb H3=>if b=true then te σ2 H3 (λy H4=>Pv (i + 1) (ys++[y]) H4) else Pv (i + 1) ys H3)
  (hd:∀ ys H p,Pv n ys H->H p=none->Q (.ref p) (upd H p (.lst ys))):U90 (Itr lo n) σ0 H g tt te Q:=by
 refine⟨λi m ys H=>m=n - i/\i<=n/\Pv i ys H,⟨n,by simp,Æ3 _,h0⟩,?_⟩
 rintro i m ys H ⟨rfl,hi,p⟩;have hy:=hl i ys H p;by_cases hlt:i < n
 ·refine .inr ⟨hlt,by omega,Pv (i + 1),λzs H' p'=>⟨n - (i + 1),by omega,rfl,hlt,p'⟩,λx H' y=>?_⟩
  obtain⟨e,y⟩:=y;subst e y;exact hs i ys _ hlt p
 ·have e:i=n:=by omega
  subst e;exact .inl ⟨È _,λz hz=>hd ys H z p hz⟩
end
inductive D where
 |non | bl (b:Bool) | int (i:Int) | str (x:Str) | tup (ds:List D) | lst (ds:List D) | dct
def D.ty:D->String
 |.non=>"NoneType"|.bl _=>"bool"|.int _=>"int"|.str _=>"str"|.tup _=>"tuple"|.lst _=>"list"|.dct=>"dict"
mutual
def Has(K:À)(H:Hp):D->V->Prop
 |.non,v=>v=.non|.bl b,v=>v=.bl b|.int i,v=>v=.int i|.str x,v=>v=.str x|.tup ds,v=>∃ a xs,v=.ref a/\SqT K H a xs/\y70 K H ds xs|.lst ds,v=>∃ a xs,v=.ref a/\SqL K H a xs/\y70 K H ds xs|.dct,v=>∃ a kvs,v=.ref a/\H a=some (.dK kvs)
def y70(K:À)(H:Hp):List D->List V->Prop
 |[],xs=>xs=[]|d::ds,xs=>∃ x r,xs=x::r/\Has K H d x/\y70 K H ds r
end
def isB(T C:String):Bool:=T == C || (T == "bool"&&C == "int")
theorem C51(K:À)(d:D):∀ C∈["int","bool","tuple","list","str"],É6 K (.type d.ty) (.type C)=some (isB d.ty C):=by
 intro C hC;simp only[Á7,ú,or_false] at hC;rcases hC with rfl | rfl | rfl | rfl | rfl <;> cases d <;> first | rfl | kernel_rfl | decide +kernel
section
variable {X:Cx}
theorem q51:g90 X (.builtin "isinstance") (λxs H Q=>∃ d x C,xs=[x,.ty C]/\Has X.K H d x/\C∈["int","bool","tuple","list","str"]/\Q (.bl (isB d.ty C)) H):=by
 intro pins s σ H xs us Q I r h;obtain⟨d,x,C,rfl,hd,hC,q⟩:=h;obtain⟨u,w',rfl,rx,rt⟩:=vals2 r;cases (show w'=Ä4 C from rt);have e:=C51 X.K d C hC;have fin:∀ tk,EP X pins σ Q (.bool (isB d.ty C)) { s with toks:=tk }:=λtk=>⟨.bl _,H,I.tok tk,rfl,q⟩;cases d with
 |non=>unfold Has at hd;subst hd;cases rx;exact Ä5 kitx_none I.kIn Ç6 e (λz=>nomatch z) fin
 |bl b=>unfold Has at hd;subst hd;cases rx;exact Ä5 kitx_bool I.kIn Ç6 e (λz=>nomatch z) fin
 |int i=>unfold Has at hd;subst hd;obtain⟨t,rfl⟩:=rx;exact Ä5 kitx_int I.kIn Ç6 e (λz=>nomatch z) fin
 |str y=>unfold Has at hd;subst hd;obtain⟨t,rfl⟩:=rx;exact Ä5 kitx_str I.kIn Ç6 e (λz=>nomatch z) fin
 |tup ds =>
  unfold Has at hd;obtain⟨a,ys,rfl,hq,_⟩:=hd;cases rx;obtain⟨its,_,⟨o,h1,h2,_⟩,_⟩:=I.tuple hq;exact Ä5 kitx_tuple I.kIn ⟨o,h1,h2⟩ e (λz=>nomatch z) fin
 |lst ds =>
  unfold Has at hd;obtain⟨a,ys,rfl,hq,_⟩:=hd;cases rx;obtain⟨its,_,pl,_⟩:=I.list hq;obtain⟨o,h1,h2,_⟩:=pl.isList;exact Ä5 kitx_list I.kIn ⟨o,h1,h2⟩ e (λz=>nomatch z) fin
 |dct =>
  unfold Has at hd;obtain⟨a,kvs,rfl,hq⟩:=hd;cases rx;obtain⟨_,_,vs,_,p⟩:=(show f90 X.prog X.w H s.heap a (.dK kvs) from I.hok a _ hq);obtain⟨o,es,ep,h1,h2,_⟩:=p;exact Ä5 kitx_dict I.kIn ⟨o,h1,h2.1⟩ e (λz=>nomatch z) fin
end
def hide(st:Æ)(H:Hp):Hp:=λb=>if b=st then none else H b
theorem e00(st:Æ)(H:Hp):a10 (hide st H) H:=λb o e=>by
 unfold hide at e;split at e
 ·cases e
 ·exact e
theorem v40{st:Æ}{H H':Hp}(e:∀ b o,b≠st->H b=some o->H' b=some o):a10 (hide st H) (hide st H'):=λb o h=>by
 unfold hide at h ⊢;by_cases q:b=st
 ·rw[if_pos q] at h;cases h
 ·rw[if_neg q] at h ⊢;exact e b o q h
theorem C50{st b:Æ}{H:Hp}{o:HO}(h:H b=some o)(n:b≠st):hide st H b=some o:=by
 unfold hide;rw[if_neg n];exact h
end L2
namespace L2
open PySem PySem.Spec PyProof.Rows
def b81(sc scX:à)(N own:List Str)(capt:List (Str × Nat)):Bool :=
 sc.kind == .function&&sc.names.all (λy=>y.2 != .cell)&&sc.names.all (λy=>y.2 != .local || sc.names.lookup y.1 == some .local) &&
  sc.names.all (λy=>y.2 != .free || (scX.names.lookup y.1 == some .cell || scX.names.lookup y.1 == some .free))&&capt.all λp=>N[p.2]? == some p.1&&sc.names.lookup p.1 == some .free
theorem l60.of{X:Cx}{sc scX:à}{N own:List Str}{capt:List (Str × Nat)}(e:X.env.scope=scX)(eN:X.N=N)(h:b81 sc scX N own capt=true):l60 X sc own capt:=by
 unfold b81 at h;simp only[Â] at h;obtain⟨⟨⟨⟨h1,h2⟩,h3⟩,h4⟩,h5⟩:=h;rw[Ã7] at h2 h3 h4 h5;refine⟨by simpa using h1,λy hy=>by simpa using h2 y hy,λy hy hl=>?_,λy hy hf=>?_,λp hp=>?_⟩
 ·have:=h3 y hy;rw[hl] at this;simpa using this
 ·have:=h4 y hy;rw[hf] at this;show X.env.scope.names.lookup y.1=_∨X.env.scope.names.lookup y.1=_;rw[e];simpa using this
 ·have:=h5 p hp;rw[eN];simpa using this
theorem gN{i:Nat}{v:V}{σ:St}{H:Hp}{R:St->Hp->Prop}(h:R (σ.set i (some v)) H):A80 i v σ H R:=h
theorem q61{σ:St}{H:Hp}{R:Bool->Hp->Prop}(h:R true H):a41 σ H R:=h
theorem q80{n:Nat}(h:n<=64):n<=sizeLine:=ë h (-0)
section
variable {X:Cx}
theorem O11(K:À)(d:D):kitAny K (.type d.ty) [.type "tuple",.type "list"]=some (isB d.ty "tuple" || isB d.ty "list"):=by
 have e1:=C51 K d "tuple" (by simp)
 have e2:=C51 K d "list" (by simp)
 unfold kitAny;rw[e1];cases isB d.ty "tuple" with
 |true=>rfl
 |false =>
  show kitAny K (.type d.ty) [.type "list"]=_;unfold kitAny;rw[e2];cases isB d.ty "list" <;> rfl
theorem b91:g90 X (.builtin "isinstance") (λxs H Q=>∃ d x a,xs=[x,.ref a]/\Has X.K H d x/\SqT X.K H a [.ty "tuple",.ty "list"]/\Q (.bl (isB d.ty "tuple" || isB d.ty "list")) H):=by
 intro pins s σ H xs us Q I r h;obtain⟨d,x,a,rfl,hd,hq,q⟩:=h;obtain⟨u,w',rfl,rx,rt⟩:=vals2 r;cases (show w'=Á9 a from rt);obtain⟨its,rv,⟨⟨cls,dd,data,sl⟩,ho,hc,n,hdt⟩,_⟩:=I.tuple hq;simp only at hc hdt;subst hc hdt;have eits:its=[.type "tuple",.type "list"]:=by
  cases rv with
  |cons p r=>cases r with
   |cons p2 r2=>cases r2;rw[show _=Ä4 "tuple" from p,show _=Ä4 "list" from p2]
 subst eits;have e:=O11 X.K d;have fin:∀ tk,EP X pins σ Q (.bool (isB d.ty "tuple" || isB d.ty "list")) { s with toks:=tk }:=λtk=>⟨.bl _,H,I.tok tk,rfl,q⟩;cases d with
 |non=>unfold Has at hd;subst hd;cases rx;exact Ð6 kitx_none I.kIn Ç6 ho e (λz=>nomatch z) fin
 |bl b=>unfold Has at hd;subst hd;cases rx;exact Ð6 kitx_bool I.kIn Ç6 ho e (λz=>nomatch z) fin
 |int i=>unfold Has at hd;subst hd;obtain⟨t,rfl⟩:=rx;exact Ð6 kitx_int I.kIn Ç6 ho e (λz=>nomatch z) fin
 |str y=>unfold Has at hd;subst hd;obtain⟨t,rfl⟩:=rx;exact Ð6 kitx_str I.kIn Ç6 ho e (λz=>nomatch z) fin
 |tup ds =>
  unfold Has at hd;obtain⟨b,ys,rfl,hq',_⟩:=hd;cases rx;obtain⟨_,_,⟨o,h1,h2,_⟩,_⟩:=I.tuple hq';exact Ð6 kitx_tuple I.kIn ⟨o,h1,h2⟩ ho e (λz=>nomatch z) fin
 |lst ds =>
  unfold Has at hd;obtain⟨b,ys,rfl,hq',_⟩:=hd;cases rx;obtain⟨_,_,pl,_⟩:=I.list hq';obtain⟨o,h1,h2,_⟩:=pl.isList;exact Ð6 kitx_list I.kIn ⟨o,h1,h2⟩ ho e (λz=>nomatch z) fin
 |dct =>
  unfold Has at hd;obtain⟨b,kvs,rfl,hq'⟩:=hd;cases rx;obtain⟨_,_,vs,_,p⟩:=(show f90 X.prog X.w H s.heap b (.dK kvs) from I.hok b _ hq');obtain⟨o,es,ep,h1,h2,_⟩:=p;exact Ð6 kitx_dict I.kIn ⟨o,h1,h2.1⟩ ho e (λz=>nomatch z) fin
end
open PySem PySem.Spec PyProof.Rows PySem.SeqAt
theorem C60(l b:Æ)(es:Array DictEntry)(n:Nat)(it:Array Ã)(n2:Nat)(dd dd2:Option Æ)(sl sl2:Array (Option Ã)) :
  Meets (Â4.«dict.__ne__» ⟨[.ref l,.ref b],[]⟩) (λ_ R s=>s.heap.get? l=some { cls:=.type "dict",dict:=dd,data:=.dict es n,slots:=sl }/\s.heap.get? b=some { cls:=.type "tuple",dict:=dd2,data:=.seq it n2,slots:=sl2 }/\R (.ok (.ret .notImplemented)) s) :=
 .of_wp λprog w A R s h=>by
  obtain⟨hp,g,d,tk,os⟩:=s;obtain⟨hl,hb,h⟩:=h;have f1:=F.sub_tuple_dict
  wp_walk using Â1 hl,Â1 hb
  exact⟨_,rfl,h⟩
theorem C70(l b:Æ)(es:Array DictEntry)(n:Nat)(it:Array Ã)(n2:Nat)(dd dd2:Option Æ)(sl sl2:Array (Option Ã)) :
  Meets (Â4.«tuple.__ne__» ⟨[.ref b,.ref l],[]⟩) (λ_ R s=>s.heap.get? l=some { cls:=.type "dict",dict:=dd,data:=.dict es n,slots:=sl }/\s.heap.get? b=some { cls:=.type "tuple",dict:=dd2,data:=.seq it n2,slots:=sl2 }/\R (.ok (.ret .notImplemented)) s) :=
 .of_wp λprog w A R s h=>by
  obtain⟨hp,g,d,tk,os⟩:=s;obtain⟨hl,hb,h⟩:=h;have f1:=F.sub_dict_tuple
  wp_walk using Â1 hl,Â1 hb
  exact⟨_,rfl,h⟩
section
variable {X:Cx}
theorem C61(hu:X.A.units + 64 < Å9):OpR X (ò .NotEq) (λx y H Q=>∃ a b kvs xs,x=.ref a/\y=.ref b/\H a=some (.dK kvs)/\SqT X.K H b xs/\Q (.bl true) H):=by
 intro pins s σ H x y v u Q I rx ry h;obtain⟨a,b,kvs,xs,rfl,rfl,ha,hb,q⟩:=h;cases rx;cases ry;obtain⟨v2,r2,⟨o2,h2,c2,n2,d2⟩,_⟩:=I.tuple hb;obtain⟨_,_,vs,_,p⟩:=(show f90 X.prog X.w H s.heap a (.dK kvs) from I.hok a _ ha);obtain⟨o1,es,n1,h1,c1,d1,_⟩:=p;have c1:=c1.1;obtain⟨cls,dd,data,sl⟩:=o1;obtain⟨cls2,dd2,data2,sl2⟩:=o2;simp only at c1 d1 c2 d2;subst c1 d1 c2 d2;have hne:a≠b:=λe=>by
  subst e;rw[h1] at h2;simp at h2
 have hu':X.A.units < cLine:=by omega
 refine rc_ne_decline_or (k:=false) ⟨_,h1,rfl⟩ ⟨_,h2,rfl⟩ (-0) F.sub_tuple_dict F.slot_dict_ne F.slot_tuple_ne_refl
  (λ_ hq=>Æ5 F.slot_dict_ne ⟨_,h1,rfl⟩ F.entry_dict_ne (F.args_dict_ne_2 _ _) (C60 a b es n1 v2.toArray n2 dd dd2 sl sl2) ⟨h1,h2,hq⟩)
  (λ_ hq=>Æ5 F.slot_tuple_ne_refl ⟨_,h2,rfl⟩ F.entry_tuple_ne (F.args_tuple_ne_2 _ _) (C70 a b es n1 v2.toArray n2 dd dd2 sl sl2) ⟨h1,h2,hq⟩)
  (λ_ hq=>wpAny_isSame_ref_other hne h1 h2 (by simp) hq) (.inr hu') ⟨.bl true,H,I,rfl,q⟩
end
end L2
namespace L2
open PySem PySem.Spec PyProof.Rows
section
variable {P:Ø}{w:ì}{A:ï}{E:Ã->Å->Prop}{s:Å}
abbrev eT1(h:á)(l:Æ):Heap:=h.push { cls:=.type "tuple_iterator",data:=.fields #[.ref l,.int 0 0] }
abbrev eT2(h:á)(l:Æ):Heap:=(eT1 h l).push { cls:=.type "enumerate",data:=.fields #[.none,.bool false,.ref h.objs.size,Æ0 0,.none,.none] }
theorem K90(l:Æ)(xs:Array Ã) :
  Meets (Â4.«enumerate.__new__» ⟨[.type "enumerate",.ref l],[]⟩) (λ_ R s=>s.heap.IsTuple l xs/\R (.ok (.ret (.ref (eT1 s.heap l).objs.size))) { s with heap:=eT2 s.heap l }) :=
 .of_wp λP w A R s h=>by
  obtain⟨hp,g,d,tk,os⟩:=s;obtain⟨hl,h⟩:=h;have hsub:=sub_enumerate;have hL1:Í9 (Å.heap ⟨hp,g,d,tk,os⟩) l xs:=hl
  wp_walk;refine wpAny_stack_any λq=>Ç ?_;split
  ·rename_i c _ _ _ _ _;cases (c == Ä4 "enumerate") <;> (wp_walk using È2 hL1) <;> exact⟨_,rfl,h⟩
  ·wp_walk using È2 hL1
   exact⟨_,rfl,h⟩
theorem V40{l:Æ}{xs:Array Ã}{Q:Ã->Å->Prop}(hl:s.heap.IsTuple l xs)
  (h:∀ h',IsEnum h' (s.heap.objs.size + 1) s.heap.objs.size 0 .none->h'.IsTupleIter s.heap.objs.size l 0->(∀ c o,s.heap.get? c=some o->h'.get? c=some o)->Q (.ref (s.heap.objs.size + 1)) { s with heap:=h' }) :
  Ð (Õ P w) A (call (.type "enumerate") [.ref l]) Q E s:=by
 refine callType_new F.called_enumerate (-0) (F.typeCall_enumerate_1 _) (F.newCall_enumerate_1 _) (λobj=>F.args_object_init_2 obj _) F.entry_enumerate_new (K90 l xs) ⟨hl,?_⟩
 have n1:(eT1 s.heap l).objs.size=s.heap.objs.size + 1:=Ê4 ..;have g2:(eT2 s.heap l).get? (eT1 s.heap l).objs.size=some _:=Ì _ rfl;have g1:(eT2 s.heap l).get? s.heap.objs.size=some _:=Ä _ (Ì _ rfl);show _/\_;rw[n1] at g2;rw[n1];exact⟨⟨_,g2,rfl⟩,h _ g2 ⟨_,g1,rfl,rfl⟩ λc o q=>Ä _ (Ä _ q)⟩
theorem c01(hh:A.handled=none){it l:Æ}{xs:Array Ã}(n:l≠it):Draws P w A it [it,l] xs.size (λi x=>xs[i]?=some x) (λi h=>h.IsTupleIter it l i/\h.IsTuple l xs) where
 live:=λi h q=>by obtain⟨⟨o,e,_⟩,_⟩:=q;exact⟨o,e⟩
 frame:=λi h h' q k=>by
  obtain⟨⟨o,e,r⟩,⟨o',e',r'⟩⟩:=q;exact⟨⟨o,k it (by simp) _ e,r⟩,⟨o',k l (by simp) _ e',r'⟩⟩
 item:=λi s Q E hi q k=>m50 q.1 q.2 (x:=xs[i]) (by simp[hi]) λh' h1 h2=>k _ h' s.toks (by simp[hi]) ⟨h1,q.2.extBut h2.extBut n⟩ h2
 done:=λs Q E q k=>k00 hh q.1 q.2 (by simp) λh' e h1 h2=>k h' e h1 h2
end
theorem w41{P:Ø}{w:ì}{A:ï}(b:Bool)(hh:A.handled=none){it l:Æ}{xs:Array Ã}(n:l≠it):Draws P w A it [it,l] xs.size (λi x=>xs[i]?=some x) (λi h=>H10 b h it l i/\p21 b h l xs):=match b with
 |true=>Draws.list hh it l n xs|false=>c01 hh n
def Ite(b:Bool)(K:À)(a:Æ):It :=
 ⟨λi H=>∃ xs x,SqB b K H a xs/\xs[i]?=some x,
  λi H v H'=>∃ T,v=.ref T/\H T=none/\∀ xs x,SqB b K H a xs->xs[i]?=some x->H'=upd H T (.tup [.int i,x]),
  λi H=>∃ xs,SqB b K H a xs/\xs.length=i⟩
theorem c21{P:Ø}{w:ì}{K:À}{es:List Ê}{ek:Nat}{ep:Pos}{a e it:Æ}{b:Bool}(h1:e≠it)(h2:a≠e)(h3:a≠it) :
  Turn P w K (.Tuple es ek ep) (Ite b K a) [e,it] e (λi h=>(∃ old,IsEnum h e it i old)/\H10 b h it a i) where
 mem:=by simp
 obj:=λi h st c hc=>by
  obtain⟨⟨old,he⟩,st⟩:=st;obtain⟨o1,g1,d1,_⟩:=st.obj;simp only[Á7,ú,or_false] at hc;rcases hc with rfl | rfl
  ·exact⟨_,he,λv e=>by cases e⟩
  ·exact⟨_,g1,d1⟩
 keep:=λi h h' st k=>by
  obtain⟨⟨old,he⟩,st⟩:=st;obtain⟨o1,g1,_,r1⟩:=st.obj;exact⟨⟨old,k e (by simp) _ he⟩,r1 h' (k it (by simp) _ g1)⟩
 item:=by
  intro X hP hw hK hc i pins s σ H E I hf st hg;subst hP hw hK;obtain⟨xs,x,hq,hx⟩:=hg;obtain⟨v1,rv,p1,_,z1⟩:=I.p31 hq;obtain⟨u,hu,ru⟩:=rv.get hx;obtain⟨⟨old,he⟩,hi⟩:=st;have hl:i < v1.toArray.size:=by simpa using (Ú.mp hu).1
  refine wpAny_pyNext_enum_itemD (w41 (A:=X.A.in1) b (by exact I.ok.hd hc) h3) he ⟨hi,p1⟩ hl h1 (by simp[h1,h2.symm]) λy g1 tk hy ge gs gT sz kp=>⟨_,rfl,?_⟩
  have hy':v1[i]?=some y:=by simpa using hy
  rw[hu] at hy';cases hy';refine wpAny_letOwnedTupleGo_enum (s:={ s with heap:=g1,toks:=tk + 1 }) ge λg2 ge2 sb=>?_;have hT:H s.heap.objs.size=none:=I.hok.fresh (È _);have kall:∀ c o,c ∉ [e,it]->s.heap.get? c=some o->g2.get? c=some o:=λc o hc q=>by
   simp only[Á7,ú,or_false,not_or] at hc;exact sb.extBut _ _ hc.1 (kp c o hc.1 hc.2 q)
  have I2:Inv X pins σ H { s with heap:=g2,toks:=tk + 1 }:=I.B90 (t':=tk + 1) hf kall;have fT:K30 X pins H s.heap.objs.size:=I.X90 (È _) hT;have gT2:g2.get? s.heap.objs.size=some { cls:=.type "tuple",data:=.seq #[.int i tk,u] }:=sb.extBut _ _ (λq=>ó _ (by have:=Û he;rw[← q] at this;exact this)) gT
  have I3:Inv X pins σ (upd H s.heap.objs.size (.tup [.int i,x])) { s with heap:=g2,toks:=tk + 1 }:=I2.o81 fT I.sz (I2.hok.w21 hT (its:=[.int i tk,u]) (.cons ⟨_,rfl⟩ (.cons ru .nil)) (by show 2<=sizeLine;rw[À9];decide) ⟨_,gT2,rfl,_,rfl⟩)
  refine⟨.ref s.heap.objs.size,_,I3,rfl,⟨_,rfl,hT,λxs' x' e1 e2=>?_⟩,⟨⟨_,ge2⟩,by obtain⟨o,q1,_,q2⟩:=gs.1.obj;exact q2 _ (sb.extBut _ _ h1.symm q1)⟩,λc hc=>?_⟩
  ·rw[z1 _ e1] at e2;rw[hx] at e2;cases e2;rfl
  ·rw[a20]
   ·exact(hf c hc).1
   ·intro q;simp only[Á7,ú,or_false] at hc;rcases hc with hc | hc
    ·exact ó _ (by have:=Û he;rw[← hc,q] at this;exact this)
    ·obtain⟨o,ho,_⟩:=H10.obj hi;exact ó _ (by have:=Û ho;rw[← hc,q] at this;exact this)
 done:=by
  intro X hP hw hK hc i pins s σ H E I hf st hg;subst hP hw hK;obtain⟨xs,hq,rfl⟩:=hg;obtain⟨v1,rv,p1,_,z1⟩:=I.p31 hq;obtain⟨⟨old,he⟩,hi⟩:=st;refine wpAny_pyNext_enum_endD (w41 (A:=X.A.in1) (xs:=v1.toArray) b (by exact I.ok.hd hc) h3) he ⟨by rw[show v1.toArray.size=xs.length by simpa using rv.length.symm];exact hi,p1⟩ λg kp=>⟨rfl,I.B90 (t':=s.toks) hf λc o hcn q=>?_⟩
  simp only[Á7,ú,or_false,not_or] at hcn;exact kp c o hcn.2 q
 self:=λ_ _ _ _ _ st h=>by obtain⟨⟨_,he⟩,_⟩:=st;exact wpAny_pyIter_enum he h
def d12(K:À)(ta:TA):TI:=λσ H R=>ta σ H λvs H1=>∃ b a,vs=[.ref a]/\(∃ xs,SqB b K H1 a xs)/\R (Ite b K a) H1
theorem V50{P:Ø}{w:ì}{A:ï}{E:Ã->Å->Prop}{s:Å}{b:Bool}{l:Æ}{xs:Array Ã}{Q:Ã->Å->Prop}(hl:p21 b s.heap l xs)
  (h:∀ h',IsEnum h' (s.heap.objs.size + 1) s.heap.objs.size 0 .none->H10 b h' s.heap.objs.size l 0->(∀ c o,s.heap.get? c=some o->h'.get? c=some o)->Q (.ref (s.heap.objs.size + 1)) { s with heap:=h' }) :
  Ð (Õ P w) A (call (.type "enumerate") [.ref l]) Q E s:=match b,hl,h with
 |true,hl,h=>call_enumerate_list hl λh' a b _ c=>h h' a b c|false,hl,h=>V40 hl h
theorem c31:é "enumerate"=some (.type "enumerate"):=by decide +kernel
theorem C71{X:Cx}{a:Ê}{es:List Ê}{ek:Nat}{ep:Pos}{ta:TA}{p pos:Pos}(hg:Gl X "enumerate")(hm:X.mg "enumerate"=none)(ha:PA X [a] ta)(hs:í [a] X.env=[(false,eval a X.env)]:=by rfl) :
  PI X (.Tuple es ek ep) (.Call (.Name "enumerate" p) [a] [] pos) (d12 X.K ta):=by
 intro pins s σ H R I h;refine Call_ (p00 I hg hm c31 (ö (thn (ha pos pins s σ H _ I h) λus s1 ⟨vs,H1,I1,r1,q1⟩=>?_) (by rw[hs];rfl) (by rfl)))
 obtain⟨b,l1,e,⟨xs,hq1⟩,q⟩:=q1;subst e;obtain⟨u,rfl,r⟩:=vals1 r1;cases r;obtain⟨v1,rv1,p1,a1,_⟩:=I1.p31 hq1;refine V50 p1 λh' he h1 kp=>wpAny_pyIter_enum (s:={ s1 with heap:=h' }) he ?_;refine⟨_,[s1.heap.objs.size + 1,s1.heap.objs.size],_,_,H1,rfl,I1.kept (t':=s1.toks) kp,c21 (Nat.succ_ne_self _) (â (Ò4 a1)) (â a1),⟨⟨_,he⟩,h1⟩,λc hc=>?_,q⟩;have hc':s1.heap.objs.size<=c:=by
  simp only[Á7,ú,or_false] at hc;rcases hc with rfl | rfl
  ·exact Æ4 _ 1
  ·exact È _
 exact I1.X90 hc' (I1.hok.fresh hc')
end L2
namespace HT
open PySem PySem.W PyProof.Rows
set_option maxRecDepth 100000
section
variable {P:Ø}{w:ì}{A:ï}{E:Ã->Å->Prop}{s:Å}
theorem C80{r:Æ}{a b c:Int}{t u v:Tok}{n:Nat}{Q:List Ã->Å->Prop}(hh:A.handled=none)(hr:Ï9 s.heap r a b c t u v)(hs:Í1 a b c=true)(hn:Á3 a b c=n)(hl:n<=2 ^ 24)
  (hQ:∀ (h':á) (tk:Nat) (acc:Array Ã),(∀ b o,s.heap.get? b=some o->h'.get? b=some o)->s.heap.objs.size<=h'.objs.size->ItemsOf (λi v=>∃ t,v=.int (a + i * c) t) acc n->Q acc.toList { s with heap:=h',toks:=tk }):Ð (Õ P w) A (collect (.ref r)) Q E s:=by
 unfold collect;refine Á (wpAny_runValue (È0 PySem.F.entry_proto_collect ?_));rw[Î8 PySem.F.plain_proto_collect _];show Ð _ A.in1 (newList [] >>= λl=>again (.builtin "list.__iadd__" ⟨[l,.ref r],[]⟩)) _ _ s;refine Á (û (Ç ⟨plainId_quiet Ô7 _,È0 PySem.F.entry_list_iadd ?_⟩));rw[Î8 Ô7 _];show Ð _ A.in1 (È7 (.ref s.heap.objs.size) (.ref r) (.ref s.heap.objs.size)) _ _ { s with heap:=s.heap.push (Á5 "list" #[] 0) };have hS:(s.heap.push (Á5 "list" #[] 0)).get? s.heap.objs.size=some { cls:=.type "list",data:=.seq #[] 0 }:=Ì _ rfl;refine Á2 (wpAny_extend_range (A:=A) (s:={ s with heap:=s.heap.push (Á5 "list" #[] 0) }) (R:=λx s'=>x=.ok (.ret (.ref s.heap.objs.size))/\∃ h' tk acc c',s'={ s with heap:=h',toks:=tk }/\(∀ b o,s.heap.get? b=some o->h'.get? b=some o)/\h'.get? s.heap.objs.size=some { cls:=.type "list",dict:=none,data:=.seq acc c',slots:=#[] }/\ItemsOf (λi v=>∃ t,v=.int (a + i * c) t) acc n) hh (Ä _ hr) hs hn hl _ (.ref s.heap.objs.size) 0 hS λh' tk acc c' hk hS' hi=>⟨rfl,h',tk,acc,c',rfl,λb o e=>hk b o (â (Û e)) (Ä _ e),hS',hi⟩) (λfin s' h=>?_) λe s' h=>?_
 ·have go:∀ s',(∃ h' tk acc c',s'={ s with heap:=h',toks:=tk }/\(∀ b o,s.heap.get? b=some o->h'.get? b=some o)/\h'.get? s.heap.objs.size=some { cls:=.type "list",dict:=none,data:=.seq acc c',slots:=#[] }/\ItemsOf (λi v=>∃ t,v=.int (a + i * c) t) acc n)->Ð (Õ P w) A (match Á9 s.heap.objs.size with
   |Á9 a=>do
    match (← load a).data with
     |Data.seq xs _=>pure xs.toList|_=>unsupported "internal:collect"
   |_=>unsupported "internal:collect") Q E s':=λs' ⟨h',tk,acc,c',e,hk,hS',hi⟩=>by
   subst e;show Ð _ A (load s.heap.objs.size >>= _) _ _ _;exact Á (wpAny_load hS' (Ç (hQ h' tk acc hk (Ê0 (Û hS')) hi)))
  cases fin with
  |done f =>
   obtain⟨e,h⟩:=h;cases e;exact go _ h
  |again c'=>exact⟨h.1,Å6 h.2 λx s'' hx=>by obtain⟨rfl,hx⟩:=hx;exact go _ hx⟩
 ·exact absurd h.1 (by simp)
open AutoSeq1 (wpAny_loadPart')
theorem v50{r:Æ}{a b c:Int}{t u v:Tok}{n:Nat}{Q:Ã->Å->Prop}(hh:A.handled=none)(hr:Ï9 s.heap r a b c t u v)(hs:Í1 a b c=true)(hn:Á3 a b c=n)(hl:n<=200000)
  (hQ:∀ (h':á) (tk:Nat) (acc:Array Ã),(∀ b o,s.heap.get? b=some o->h'.get? b=some o)->s.heap.objs.size<=h'.objs.size->ItemsOf (λi v=>∃ t,v=.int (a + i * c) t) acc n->Q (.ref h'.objs.size) { s with heap:=h'.push { cls:=.type "tuple",data:=.seq acc },toks:=tk }) :
  Ì1 (Õ P w) A (.call (.builtin "tuple.__new__") ⟨[.type "tuple",.ref r],[]⟩) (wants Q E) s:=by
 refine codeAny_of_tree ?_;show Ð _ A.in1 (do Õ3 "tuple.__new__" ⟨[.type "tuple",.ref r],[]⟩;again (.builtin "tuple.__new__" ⟨[.type "tuple",.ref r],[]⟩)) _ _ s;refine Á (wpAny_of_eq (PySem.F.newCall_tuple_1 _) (Ç ⟨plainId_quiet Ô6 _,È0 PySem.F.entry_tuple_new ?_⟩));rw[Î8 Ô6 _];have k1:=sub_tuple_self;have k2:=init_tuple_lookup;have k3:=madeHere_tuple;have k4:s.TypeIs (.ref r) "range":=⟨_,hr,rfl⟩
 wp_walk using Ë9 k4,C80 (n:=n) (show A.in1.handled=none from hh) hr hs hn ∅
 intro h' tk acc hk hz hi;show Ð _ _ (È9 acc.toList.toArray >>= λv=>ret v) _ _ _;unfold È9;rw[Ë2];refine Á (û (Ç (hQ h' tk acc hk hz hi)) (by show acc.size<=_;rw[hi.1,À9];omega))
theorem tuple_range{r:Æ}{a b c:Int}{t u v:Tok}{n:Nat}{Q:Ã->Å->Prop}(hh:A.handled=none)(hr:Ï9 s.heap r a b c t u v)(hs:Í1 a b c=true)(hn:Á3 a b c=n)(hl:n<=200000)
  (hQ:∀ (h':á) (tk:Nat) (acc:Array Ã),(∀ b o,s.heap.get? b=some o->h'.get? b=some o)->s.heap.objs.size<=h'.objs.size->ItemsOf (λi v=>∃ t,v=.int (a + i * c) t) acc n->Q (.ref h'.objs.size) { s with heap:=h'.push { cls:=.type "tuple",data:=.seq acc },toks:=tk }):Ð (Õ P w) A (call (.type "tuple") [.ref r]) Q E s:=by
 refine callType_codes (Q₁:=λobj s₁=>s₁.TypeIs obj "tuple"/\Q obj s₁) Î3 (PySem.F.typeCall_tuple_1 _) PySem.F.entry_object_init (v50 hh hr hs hn hl λh' tk acc hk hz hi=>⟨⟨_,Ì _ rfl,rfl⟩,hQ h' tk acc hk hz hi⟩) λobj s₁ h₁=>?_;exact⟨h₁.1,PySem.F.args_object_init_2 obj _,object_init_meets Î3.init.lookup Î3.made (-0) P w A.in1 _ s₁ ⟨h₁.1,rfl,h₁.2⟩⟩
end
end HT
namespace L2
open PySem PySem.Spec PyProof.Rows
theorem f90.there(x:f90 P w H h a o):∃ u,h.get? a=some u:=by
 cases o with
 |lst xs=>obtain⟨_,_,_,_,e⟩:=x;exact⟨_,e⟩
 |tup xs=>obtain⟨_,_,_,o,e,_⟩:=x;exact⟨_,e⟩
 |dK kvs=>obtain⟨_,_,_,_,o,_,_,e,_⟩:=x;exact⟨_,e⟩
 |dT kvs=>obtain⟨_,_,_,_,o,_,_,e,_⟩:=x;exact⟨_,e⟩
 |set S n=>obtain⟨o,_,_,_,e,_⟩:=x;exact⟨_,e⟩
 |ins C dx fs=>obtain⟨_,_,_,e,_⟩:=x;exact⟨_,e⟩
 |own y=>obtain⟨_,e⟩:=x;exact⟨_,e⟩
 |xd fs=>obtain⟨_,⟨_,_,_,e,_⟩,_⟩:=x;exact⟨_,e⟩
 |rng lo hi=>obtain⟨_,_,_,e⟩:=x;exact⟨_,e⟩
 |frz ob u=>obtain⟨e,_⟩:=x;exact⟨_,e⟩
 |tbl ps=>exact⟨_,(show h.get? a=some _ from x)⟩|met f y=>exact⟨_,(show h.get? a=some _ from x)⟩|ext φ=>obtain⟨_,⟨_,e⟩,_⟩:=x;exact⟨_,e⟩
def InB(B:á)(fs:List Æ)(H':Hp)(h h':á):Prop:=∀ b u,h'.get? b=some u->b ∉ fs->((∃ o,h.get? b=some o)∨H' b≠none)->B.get? b=some u
def CX1(P:Ø)(w:ì):CXT:=λouter H s E e s'=>∃ (a:Æ) (cls a0:Ã) (H':Hp) (B:á),e=.ref a/\s'.os=s.os/\Î0 s'.gens/\Un (frs outer) [] H H' s.heap s'.heap/\HOk P w H' s'.heap /\
 á.FlyingW B outer a cls a0 s'.heap/\H' a=none/\InB B (frs outer) H' s.heap s'.heap/\E cls (some a) H'
section
variable {X:Cx}{pins:List (Æ × Obj)}{σ:St}{H H':Hp}{s s':Å}{B h'':á}{a:Æ}{cls a0:Ã}{E:XK}
theorem L00(hS:X.stack=X.env::X.outer)(hx:X.ex=[])(hf:X.env.frame=some X.env.locals)(I:Inv X pins σ H s)(os:s'.os=s.os)(bare:Î0 s'.gens)(un:Un (frs X.stack) [] H H' s.heap s'.heap)(hok:HOk X.prog X.w H' s'.heap)
  (bB:InB B (frs X.stack) H' s.heap s'.heap) (na:H' a=none) (fl:á.FlyingW B X.outer a cls a0 h'') (sm:s'.heap.UpToSlots h'') (he:E cls (some a) H'):CX1 X.prog X.w X.outer X.H₀ X.s₀ E (.ref a) { s' with heap:=h'' }:=by
 have hfs:frs X.stack=X.env.locals::frs X.outer:=by rw[hS];unfold frs;rw[þ,hf]
 have U1:=I.base;rw[hx] at U1;have U:Un (frs X.stack) [] X.H₀ H' X.s₀.heap s'.heap:=(U1.mono (λb hb=>by rw[hfs];exact Î _ hb) λb hb=>hb).trans un
 have nL:∀ b o,X.s₀.heap.get? b=some o->b ∉ frs X.outer->b ∉ frs X.stack:=λb o e hn hm=>by
  rw[hfs] at hm;rcases ý.mp hm with z | z
  ·exact absurd (Û e) (by rw[z];exact Nat.not_lt.mpr I.ok.above)
  ·exact hn z
 have frN:∀ b∈frs X.stack,H' b=none:=λb hb=>by
  obtain⟨_,o,ho,_⟩:=I.stack.mem hb;exact un.free b o ho (I.q50 b hb) (by simp)
 have old:∀ b o,X.s₀.heap.get? b=some o->b ∉ frs X.outer->∃ u,s'.heap.get? b=some u/\B.get? b=some u:=λb o e hn=>by
  obtain⟨o1,e1⟩:=U1.there b o e (by simp)
  obtain⟨o2,e2⟩:=un.there b o1 e1 (by simp)
  exact⟨o2,e2,bB b o2 e2 (nL b o e hn) (.inl ⟨o1,e1⟩)⟩
 have trk:∀ b,H' b≠none->∃ u,s'.heap.get? b=some u/\B.get? b=some u:=λb hb=>by
  obtain⟨o,e⟩:=Ô0.mp hb;obtain⟨u,eu⟩:=(hok b o e).there;exact⟨u,eu,bB b u eu (λhm=>by rw[frN b hm] at e;cases e) (.inr hb)⟩
 refine⟨a,cls,a0,H',B,rfl,os.trans I.os,bare,⟨λb o e n hb _=>?_,λb o e n hb _=>?_,λb o e n hb=>U.free b o e n hb,λb o e _=>?_,U.tups,U.frzs,U.tbls⟩,λc o e=>?_,fl,na,λb u e hn hor=>?_,he⟩
 ·obtain⟨u,e1,e2⟩:=old b o e hb;have e3:=U.keep b o e n (nL b o e hb) (by simp)
  rw[e1] at e3;cases e3;exact fl.1 b _ e2
 ·obtain⟨sl,e1⟩:=U.slot b o e n (by rw[hfs];exact Î _ hb) (by simp)
  obtain⟨_,o',ho',hd⟩:=I.ok.U30.mem hb;rw[e] at ho';cases ho';obtain⟨sl',e2⟩:=sm b _ e1 hd;exact⟨sl',e2⟩
 ·by_cases hb:b∈frs X.outer
  ·obtain⟨_,o',ho',_⟩:=fl.2.2.1.mem hb;exact⟨o',ho'⟩
  ·obtain⟨u,_,e2⟩:=old b o e hb;exact⟨u,fl.1 b _ e2⟩
 ·refine(hok c o e).U20 (λb u hb q=>?_) (λ_ q=>q) λ_ _ q=>q;have hbn:H' b≠none:=by
   rcases hb with rfl | hb
   ·rw[e];exact λz=>nomatch z
   ·rw[hb];exact λz=>nomatch z
  obtain⟨u',e1,e2⟩:=trk b hbn;rw[q] at e1;cases e1;exact fl.1 b _ e2
 ·have:∃ u',B.get? b=some u':=by
   rcases hor with ⟨o,ho⟩ | hor
   ·obtain⟨u',_,e2⟩:=old b o ho hn;exact⟨u',e2⟩
   ·obtain⟨u',_,e2⟩:=trk b hor;exact⟨u',e2⟩
  obtain⟨u',e2⟩:=this;have e3:=fl.1 b _ e2;rw[e] at e3;cases e3;exact e2
end
section
variable {P:Ø}{w:ì}{K:À}{mg:Str->Option Ã}{base:á}{N:List Str}{qual:Str}{scope:à}{f:Æ}{cd:Ã}{A:ï}{outer:List Env}{s₀:Å}{H₀:Hp}{E:XK}
theorem c41(I:Inv (x90 (CX1 P w) P w K mg base N qual scope f cd A outer s₀ H₀ E) pins σ H s)(hx:á.MadeExcOf s.heap h' e cls vs)(he:E cls (some e) H) :
  (x90 (CX1 P w) P w K mg base N qual scope f cd A outer s₀ H₀ E).xe (.ref e) { s with heap:=h' }:=by
 have hin:∀ env∈(x90 (CX1 P w) P w K mg base N qual scope f cd A outer s₀ H₀ E).stack,∀ a,env.frame=some a->a∈frs (x90 (CX1 P w) P w K mg base N qual scope f cd A outer s₀ H₀ E).stack:=λenv he a ha=>Ñ0.mpr ⟨env,he,ha⟩;have kB:(hideAll s.heap (frs (x90 (CX1 P w) P w K mg base N qual scope f cd A outer s₀ H₀ E).stack)).StaysIn s.heap:=λb o q=>of_hideAll _ q;show Ð _ _ (leaving _ _) _ _ _;refine wpAny_leaves_madeW (base:=hideAll s.heap (frs (x90 (CX1 P w) P w K mg base N qual scope f cd A outer s₀ H₀ E).stack)) (h:=s.heap) I.ok.frames rfl kB (PySem.W.funFrames_hide I.stack hin) hx λh'' t fl _ _ sm=>?_;have na:H e=none:=by
  cases z:H e with
  |none=>rfl|some o=>obtain⟨u,eu⟩:=(I.hok e o z).there;rw[hx.new] at eu;cases eu
 refine L00 (X:=x90 (CX1 P w) P w K mg base N qual scope f cd A outer s₀ H₀ E) (s':={ s with heap:=h' }) rfl rfl rfl I rfl I.bare (Un.kept hx.keeps) (I.hok.kept hx.keeps) (λb u q hn hor=>?_) na fl sm he;have:∃ o,s.heap.get? b=some o:=by
  rcases hor with hor | hor
  ·exact hor
  ·obtain⟨o,z⟩:=Ô0.mp hor;exact(I.hok b o z).there
 obtain⟨o,ho⟩:=this;have:=hx.keeps b o ho;have q':h'.get? b=some u:=q;rw[this] at q';cases q';exact hideAll_get _ ho hn
theorem C81:Passes (CX1 P w) (x90 (CX1 P w) P w K mg base N qual scope f cd A outer s₀ H₀ E) E:=by
 intro pins σ H s e s' I h;obtain⟨a,cls,a0,H',B,rfl,os,bare,un,hok,fl,na,bB,he⟩:=h;show Ð _ _ (leaving _ _) _ _ _;refine wpAny_leaves_onW I.ok.frames rfl fl λh'' fl' sm=>?_;exact L00 (X:=x90 (CX1 P w) P w K mg base N qual scope f cd A outer s₀ H₀ E) (s':=s') rfl rfl rfl I os bare un hok bB na fl' sm he
end
theorem C91{K:À}{h:á}{C:Æ}{bmB:List Ã}{newId:String}(KX:K.In h)(hq:È6 K C bmB newId=true) :
  ∃ bm N nm q bs hdct sn sub ab col dd k0 k1 k2 k3 k5 mN,h.get? C=some (excClassObj nm q C N bs bm hdct sn sub ab col dd k0 k1 k2 k3 k5 newId)/\h.Ns N mN/\mN "__init__"=none/\OwnTail h bmB bm:=by
 unfold È6 at hq;split at hq
 case h_2=>cases hq
 case h_1 dd cd sl ho =>
  split at hq
  case h_2=>cases hq
  case h_1 C' bm k0 k1 k2 k3 n k5 hm hs =>
   simp only[Â,beq_iff_eq,î] at hq;obtain⟨⟨⟨⟨⟨z1,z2⟩,hdel⟩,ht⟩,hok⟩,hni⟩:=hq;subst z1 z2;cases cd with
   |mk nm bs mro ns qn hd sn sub ab col del =>
    dsimp only at hm hdel hok hni;subst hm hdel;have esl:sl=#[k0,k1,k2,k3,some (.builtin n),k5]:=by cases sl with | mk l=>simp only at hs;rw[hs]
    subst esl;refine⟨bm,ns,nm,qn,bs,hd,sn,sub,ab,col,dd,k0,k1,k2,k3,k5,h.nsMap ns,KX _ _ ho,?_,PySem.W.nsMap_none_of_in KX hok hni,PySem.W.tail_of_in KX ht⟩;exact .of_isNs (PySem.W.isNs_of_in KX hok)
def C90(X:Cx)(E:XK):Prop:=∀ (pins:List (Æ × Obj)) (σ:St) (H:Hp) (s:Å) (h':á) (e:Æ) (cls:Ã) (vs:List Ã),Inv X pins σ H s->á.MadeExcOf s.heap h' e cls vs->E cls (some e) H->X.xe (.ref e) { s with heap:=h' }
theorem c51{P:Ø}{w:ì}{K:À}{mg:Str->Option Ã}{base:á}{N:List Str}{qual:Str}{scope:à}{f:Æ}{cd:Ã}{A:ï}{outer:List Env}{s₀:Å}{H₀:Hp}{E:XK} :
  C90 (x90 (CX1 P w) P w K mg base N qual scope f cd A outer s₀ H₀ E) E:=λ_ _ _ _ _ _ _ _ I hx he=>c41 I hx he
def O21(E:XK)(C:Æ)(t:TA):TS:=λ_ σ H=>t σ H λvs H1=>vs.length<=sizeLine/\∀ e,H1 e=none->E (.ref C) (some e) H1
section
variable {X:Cx}{x:Str}{C:Æ}{E:XK}{e₀:Ê}{rest:List Ê}{t:TA}{np cpos pos:Pos}
theorem q71(hE:C90 X E)(hc:X.calm=true)(hg:Gl X x)(hm:X.mg x=some (.ref C))(hq:È6 X.K C [.type "ValueError",.type "Exception",.type "BaseException",.type "object"] "ValueError.__new__"=true)(ha:PA X (e₀::rest) t)
  (hdb:(x == ("__debug__":Str))=false:=by decide) (he:í (e₀::rest) X.env=(false,eval e₀ X.env)::í rest X.env:=by rfl) (hpl:(Î2 cpos (í rest X.env)).any (·.1)=false:=by rfl) :
  PS X (.Raise (some (.Call (.Name x np) (e₀::rest) [] cpos)) none pos) (O21 E C t):=by
 intro pins s σ H D I h;obtain⟨bm,N,nm,q,bs,hdct,sn,sub,ab,col,dd,k0,k1,k2,k3,k5,mN,hC,hN,hni,T⟩:=C91 I.ok.mod.kin hq;refine wpAny_Raise_call_subT (C:=C) (nm:=nm) (q:=q) (N:=N) (bs:=bs) (bm:=bm) (hdct:=hdct) (sn:=sn) (sub:=sub) (ab:=ab) (col:=col) (dd:=dd) (k0:=k0) (k1:=k1) (k2:=k2) (k3:=k3) (k5:=k5)
  Ó4 (mN:=mN) (T.hasType Ó4.hasBase) (I.ok.hd hc) (by rw[he];exact hpl) hni (u30 I hg hm ⟨rfl,?_⟩ hdb)
 have k:=ha cpos pins s σ H _ I h;rw[he] at k ⊢;refine Ø1 (thn k λus s2 ⟨vs,H2,I2,r,z,q⟩=>⟨rfl,by show us.length<=_;rw[← r.length];exact z,I2.bk _ _ hC,hN.keeps I2.bk,T.keeps I2.bk,λh' e hx=>?_⟩)
 refine hE pins σ H2 s2 h' e _ us I2 hx (q e ?_);cases z:H2 e with
 |none=>rfl|some o=>obtain⟨u,eu⟩:=(I2.hok e o z).there;rw[hx.new] at eu;cases eu
end
open PySem PySem.Spec PyProof.Rows PySem.W PySem.Builtin PySem.Builtin.ObjectAttr PySem.Builtin.Getset_descriptor
section
variable {prog:Ø}{w:ì}{A:ï}{E:Ã->Å->Prop}{K:À}{h:á}{gg:Array GenState}{d:Drawn}{t:Nat}{os:OsState}{x D:Æ}{ox:Obj}
structure h20(K:PySem.W.Frag)(D:Addr):Prop where
 ga:findIn K (.ref D) "__getattribute__"=some (some (.builtin "BaseException.__getattribute__"))
 gh:findIn K (.ref D) "__getattr__"=some none
 mb:mroIn K D (.type "BaseException")=some true
 mo:mroIn K D (.type "object")=some true
 fc:findIn K (.ref D) "__class__"=some (some (.builtin "object.__class__"))
 fg:specialIn K (.builtin "object.__class__") "__get__"=some (some (.builtin "getset_descriptor.__get__"))
 ft:takesIn K (.builtin "object.__class__")=some true
def excAt(a D:Æ)(h:á):Prop:=∃ ox,h.get? a=some ox/\ox.cls=.ref D
theorem excAt.ty{M:Model}{a D:Æ}{h:á}(p:excAt a D h):Looks M h (typeOf (.ref a)) (.ref D):=by
 obtain⟨ox,e,c⟩:=p;rw[← c];exact(Looks.ld e).andThen .now
theorem q81{M:Model}(KX:K.In h)(L:h20 K D):Looks M h (find (.ref x) (.ref D) "__class__") (.bind (.builtin "getset_descriptor.__get__") (.builtin "object.__class__")):=by
 have l1:=looks_takesIn (M:=M) KX L.ft;have l2:Looks M h (dataDescriptor? (some (.builtin "object.__class__")) (some (.builtin "getset_descriptor.__get__"))) (some (.builtin "getset_descriptor.__get__",.builtin "object.__class__")):=l1.andThen .now;exact(looks_findIn KX L.fc).andThen ((looks_specialIn KX L.fg).andThen (l2.andThen (Looks.tag .now)))
theorem D01{R:Result->Å->Prop}{tp:Ã}(KX:K.In h)(I:excAt x D h)(hm:mroIn K D (.type "object")=some true)(hq:R (.ok (.ret (.ref D))) ⟨h,gg,d,t,os⟩) :
  Ì1 (Õ prog w) A (.call (.builtin "getset_descriptor.__get__") ⟨[.builtin "object.__class__",.ref x,tp],[]⟩) R ⟨h,gg,d,t,os⟩:=by
 have L0:=I.ty (M:=Õ prog w);have L1:=looks_mroIn (M:=Õ prog w) KX hm
 (refine codeAny_call_builtin KF.slot_gs.plain KF.entry_gs (KF.slot_gs.check _ _ _ _ _ _ _ _ KF.type_class (KF.args_gs _ _ _) ?_);unfold Â4.«getset_descriptor.__get__» descrGet;rw[dga_obj];refine Á (Ç ?_);unfold descrGetter descrCheckInstance descrNameAndClass isInstance;simp only[KF.owner_class];repeat lk)
 (refine⟨Code.quiet_builtin _ (by decide +kernel),È0 KF.entry_class ?_⟩;unfold Â4.«object.__class__» shownTypeOf;repeat lk)
 exact hq
theorem c61{M:Model}{nameV:Ã}{Q:Unit->Å->Prop}(KX:K.In h)(I:excAt x D h)(L:h20 K D)(hq:Q () ⟨h,gg,d,t,os⟩) :
  Ð M A (Õ3 "BaseException.__getattribute__" ⟨[.ref x,nameV],[]⟩) Q E ⟨h,gg,d,t,os⟩:=by
 have hkd:builtinKind "BaseException.__getattribute__"=some .slot:=by decide +kernel
 have hsp:splitId "BaseException.__getattribute__"=some ("BaseException","__getattribute__"):=by decide +kernel
 have L0:=I.ty (M:=M);have L1:=looks_mroIn (M:=M) KX L.mb;have ha:=F.args_bexc_ga (.ref x) nameV;simp only[Õ3,hkd,hsp];unfold isInstance;refine Á (Á (L0.at (L1.at ?_)))
 repeat (first | assumption | wp_step)
theorem c71{tk:Tok}{Q:Fin->Å->Prop}(KX:K.In h)(I:excAt x D h)(L:h20 K D)(hq:Q (.done (.ret (.ref D))) ⟨h,gg,d,t,os⟩) :
  Ð (Õ prog w) A (Â4.«object.__getattribute__» ⟨[.ref x,.str "__class__" tk],[]⟩) Q E ⟨h,gg,d,t,os⟩:=by
 have L0:=I.ty (M:=Õ prog w);have L1:=q81 (M:=Õ prog w) (x:=x) KX L
 (unfold Â4.«object.__getattribute__»);refine Á (Ç (Á (Ç (Á (L0.at (Á (L1.at ?_)))))))
 show Ð _ _ (holding [Ì2 "object.__class__"] (call (.builtin "getset_descriptor.__get__") [.builtin "object.__class__",.ref x,.ref D]) >>= _) _ _ _;refine Á (Ã0 (Ì5 (D01 KX I L.mo ?_)));exact Ç hq
theorem q91{tk:Tok}{R:Result->Å->Prop}(KX:K.In h)(I:excAt x D h)(L:h20 K D)(hq:R (.ok (.ret (.ref D))) ⟨h,gg,d,t,os⟩) :
  Ì1 (Õ prog w) A (.call (.builtin "BaseException.__getattribute__") ⟨[.ref x,.str "__class__" tk],[]⟩) R ⟨h,gg,d,t,os⟩ :=
 codeAny_call_builtin F.attr_ValueError.ga.plain F.entry_bexc_ga (c61 KX I L (c71 KX I L hq))
theorem O31{tk:Tok}{fill expr:Bool}{Q:Ã->Å->Prop}(KX:K.In h)(I:excAt x D h)(L:h20 K D)(hq:Q (.ref D) ⟨h,gg,d,t,os⟩) :
  Ð (Õ prog w) A (getAttrBy (.ref x) (.str "__class__" tk) fill expr) Q E ⟨h,gg,d,t,os⟩:=by
 have L0:=I.ty (M:=Õ prog w);have L1:=looks_findIn (M:=Õ prog w) KX L.ga;have L2:=looks_findIn (M:=Õ prog w) KX L.gh;have f3:=F.attr_ValueError.ga.bind (.ref x);have hno:(expr&&onTheHeap (Ì2 "BaseException.__getattribute__"))=false:=by cases expr <;> rfl
 unfold getAttrBy
 (refine Ã0 (Á (L0.at (Á (L1.at ?_)))));
 show Ð _ _ (getAttrByItsOwn _ _ _ _ _ _) _ _ _;unfold getAttrByItsOwn hookBefore;rw[if_pos (show onTheHeap (Á9 D)=true from rfl)];refine Á (L2.at ?_);unfold callGetattribute;rw[hno,if_neg (-0)]
 unfold boundAndCalled
 (refine Á (Ò8 (Ã0 ?_)))
 repeat (any_goals (first | assumption | (with_reducible refine Ì5 (q91 KX I L ?_)) | wp_step))
theorem r01(KX:K.In s.heap)(I:excAt x D s.heap)(L:h20 K D)(hq:Q (some (.ref D)) { s with toks:=s.toks + 1 }):Ð (Õ prog w) A (getAttr? (.ref x) "__class__") Q E s:=by
 obtain⟨h,gg,d,t,os⟩:=s;unfold getAttr? getAttrBy?;refine Á (wpAny_mkText (Á (Ò8 (O31 KX I L ?_))));exact Ç hq
theorem r11(L:h20 K D)(hd:hasDictIn K D=true):KitX K (.ref x) (.ref D) (excAt x D) where
 ty:=λ_ _ _ I=>I.ty
 it:=λM h KX _=>by
  obtain⟨cdD,hcD,_⟩:=any_some hd;unfold clsIn at hcD;split at hcD
  case h_2=>cases hcD
  case h_1 ho =>
   intro A' Q' E' s' k q;unfold isType loadHead;exact Á (wpAny_loadPart (k _ _ (KX _ _ ho)) (Ç q))
 ne:=λh tp dd its n sl KX htp=>by
  obtain⟨cdD,hcD,_⟩:=any_some hd;refine Bool.eq_false_iff.mpr λsame=>?_;cases Á9.inj (beq_iff_eq.mp same);unfold clsIn at hcD;split at hcD
  case h_2=>cases hcD
  case h_1 ho=>cases (KX _ _ ho).symm.trans htp
 ca:=λKX I k=>r01 KX I L k
end
def O41(H:Hp)(a D:Æ):Prop:=H a=some (.ext (excAt a D))
theorem V60{a D:Æ}{h1 h2:á}(h:excAt a D h1)(k:∀ o,h1.get? a=some o->h2.get? a=some o):excAt a D h2:=by
 obtain⟨ox,e,c⟩:=h;exact⟨ox,k _ e,c⟩
section
variable {X:Cx}
theorem V70:g90 X (.builtin "isinstance") (λxs H Q=>∃ (a D:Æ) (c:V) (cv:Ã) (b:Bool),xs=[.ref a,c]/\((∃ C,c=.ref C/\cv=.ref C)∨∃ T,c=.ty T/\cv=.type T)/\O41 H a D/\h20 X.K D/\hasDictIn X.K D=true/\kitOne X.K (.ref D) cv=some b/\Q (.bl b) H):=by
 intro pins s σ H xs us Q I r h;obtain⟨a,D,c,cv,b,rfl,hc,hx,L,hd,e,q⟩:=h;obtain⟨u,w',rfl,rx,rt⟩:=vals2 r;cases (show u=Á9 a from rx);obtain⟨hp,_,_⟩:=(show f90 X.prog X.w H s.heap a (.ext (excAt a D)) from I.hok a _ hx);have fin:∀ tk,EP X pins σ Q (.bool b) { s with toks:=tk }:=λtk=>⟨.bl b,H,I.tok tk,rfl,q⟩;have ew:w'=cv:=by
  rcases hc with ⟨C,rfl,rfl⟩ | ⟨T,rfl,rfl⟩
  ·exact rt
  ·exact rt
 subst ew;exact kia_one (r11 L hd) I.kIn hp e (λz=>by rcases hc with ⟨C,_,rfl⟩ | ⟨T,_,rfl⟩ <;> exact nomatch z) fin
end
end L2
namespace L2
open PySem PySem.Spec PyProof.Rows
section
variable {X:Cx}{pins:List (Æ × Obj)}{σ:St}{H H':Hp}{s s':Å}{B h4:á}
theorem w51(I:Inv X pins σ H s)(os:s'.os=s.os)(bare:Î0 s'.gens)(un:Un (frs X.stack) [] H H' s.heap s'.heap)(hok:HOk X.prog X.w H' s'.heap)(bB:InB B (frs X.stack) H' s.heap s'.heap)(kB:B.StaysIn h4)(sm:s'.heap.UpToSlots h4) :
  Inv X pins σ H' { s' with heap:=h4 }:=by
 have frN:∀ b∈frs X.stack,H' b=none:=λb hb=>by
  obtain⟨_,o,ho,_⟩:=I.stack.mem hb;exact un.free b o ho (I.q50 b hb) (by simp)
 have fr4:∀ b o,s.heap.get? b=some o->b∈frs X.stack->∃ sl,h4.get? b=some { o with slots:=sl }:=λb o e hb=>by
  obtain⟨sl,e1⟩:=un.slot b o e (I.q50 b hb) hb (by simp)
  obtain⟨_,o',ho',hd⟩:=I.stack.mem hb;rw[e] at ho';cases ho';obtain⟨sl',e2⟩:=sm b _ e1 hd;exact⟨sl',e2⟩
 have old:∀ b o,s.heap.get? b=some o->b ∉ frs X.stack->∃ u,s'.heap.get? b=some u/\h4.get? b=some u:=λb o e hn=>by
  obtain⟨o2,e2⟩:=un.there b o e (by simp)
  exact⟨o2,e2,kB b _ (bB b o2 e2 hn (.inl ⟨o,e⟩))⟩
 refine I.K91 (s':={ s' with heap:=h4 }) (ch:=[]) os ⟨λb o e n hb _=>?_,λb o e n hb _=>fr4 b o e hb,un.free,λb o e _=>?_,un.tups,un.frzs,un.tbls⟩ (λc o e=>?_) bare λb hb=>absurd hb (by simp)
 ·obtain⟨u,e1,e2⟩:=old b o e hb;have e3:=un.keep b o e n hb (by simp)
  rw[e1] at e3;cases e3;exact e2
 ·by_cases hb:b∈frs X.stack
  ·obtain⟨sl,e1⟩:=fr4 b o e hb;exact⟨_,e1⟩
  ·obtain⟨u,_,e2⟩:=old b o e hb;exact⟨u,e2⟩
 ·refine(hok c o e).U20 (λb u hb q=>?_) (λ_ q=>q) λ_ _ q=>q;have hbn:H' b≠none:=by
   rcases hb with rfl | hb
   ·rw[e];exact λz=>nomatch z
   ·rw[hb];exact λz=>nomatch z
  exact kB b _ (bB b u q (λhm=>hbn (frN b hm)) (.inr hbn))
theorem Inv.c81{h':á}{m m':Str->Option Ã}{t':Nat}(I:Inv X pins σ H s)(hl:∀ (i:Nat) (x:Str) (v:V),X.N[i]?=some x->σ[i]?=some (some v)->Vis X.env.scope x->∃ u,RelV v u/\Look X.env s.heap m x u)
  (hn':h'.Ns X.env.locals m') (hs:Ò3 X.env.locals s.heap h') (hm:∀ (i:Nat) (x:Str),X.N[i]?=some x->m' x=m x):Inv X pins σ H { s with heap:=h',toks:=t' }:=by
 have oth:∀ b o,b≠X.env.locals->s.heap.get? b=some o->h'.get? b=some o:=λb o hb e=>(hs.2 b hb).trans e;have neL:∀ b o,X.s₀.heap.get? b=some o->b≠X.env.locals:=λb o e=>â (Ñ (Û e) I.ok.above);have cel:∀ x c v,X.env.cells.lookup x=some c->s.heap.IsCell c v->h'.IsCell c v:=λx c v e ⟨o,ho,hd⟩=>⟨o,oth c o (I.cne x c e) ho,hd⟩;refine⟨I.ok,I.os,I.bare,⟨λb o e n hb hx=>oth b o (neL b o e) (I.base.keep b o e n hb hx),λb o e n hb hx=>?_,I.base.free,λb o e hx=>?_,I.base.tups,I.base.frzs,I.base.tbls⟩,⟨m',hn',λi x v e1 e2 e3=>?_⟩,λx c e=>?_,I.free,I.freeC,λp hp=>?_,λc o e=>?_,I.len⟩
 ·obtain⟨sl,e1⟩:=I.base.slot b o e n hb hx;exact⟨sl,oth b _ (neL b o e) e1⟩
 ·obtain⟨o',e1⟩:=I.base.there b o e hx;exact⟨o',oth b _ (neL b o e) e1⟩
 ·obtain⟨u,r,l⟩:=hl i x v e1 e2 e3;refine⟨u,r,?_⟩;rcases l with ⟨k,z⟩ | ⟨k,c,ec,z⟩
  ·exact .inl ⟨k,(hm i x e1).trans z⟩
  ·exact .inr ⟨k,c,ec,cel x c _ ec z⟩
 ·obtain⟨v,z⟩:=I.cell x c e;exact⟨v,cel x c v e z⟩
 ·obtain⟨e,n,ne,nf,d⟩:=I.pin p hp;exact⟨oth _ _ ne e,n,ne,nf,d⟩
 ·refine(I.hok c o e).U20 (λb u hb q=>oth b u (λz=>?_) q) (λ_ q=>q) λ_ _ q=>q;rcases hb with rfl | hb
  ·rw[z,I.free] at e;cases e
  ·rw[z,I.free] at hb;cases hb
theorem Inv.w61{T:Æ}{o:HO}(I:Inv X pins σ H s)(nT:H T=none)(n0:X.s₀.heap.get? T=none)(hL:T≠X.env.locals)(hc:∀ x c,X.env.cells.lookup x=some c->c≠T)(hp:∀ p∈X.pn++pins,p.1≠T)(new:f90 X.prog X.w (upd H T o) s.heap T o) :
  Inv X pins σ (upd H T o) s:=by
 have u:=I.base;refine⟨I.ok,I.os,I.bare,⟨u.keep,u.slot,λb ob e n hx=>?_,u.there,λb xs e=>?_,λb ob xs e=>?_,λb ps e=>?_⟩,I.loc,I.cell,?_,λx c e=>?_,λp hpp=>?_,λc v e=>?_,I.len⟩
 ·rw[a20 (λz=>by rw[z,n0] at e;cases e)];exact u.free b ob e n hx
 ·have z:=u.tups b xs e;rw[a20 (a60 z nT)];exact z
 ·have z:=u.frzs b ob xs e;rw[a20 (a60 z nT)];exact z
 ·obtain⟨more,z⟩:=u.tbls b ps e;exact⟨more,by rw[a20 (a60 z nT)];exact z⟩
 ·rw[a20 hL.symm];exact I.free
 ·rw[a20 (hc x c e)];exact I.freeC x c e
 ·obtain⟨e,n,r⟩:=I.pin p hpp;exact⟨e,by rw[a20 (hp p hpp)];exact n,r⟩
 ·by_cases hcT:c=T
  ·subst hcT;rw[a90] at e;cases e;exact new
  ·rw[a20 hcT] at e;exact(I.hok c v e).U20 (λ_ _ _ q=>q) (λb q=>by rw[a20 (a60 q nT)];exact q) λb xs q=>by rw[a20 (a60 q nT)];exact q
end
structure y20(P:Program)(w:World)(K:PySem.W.Frag)(mg:Str->Option Value)(base:Heap)(CX:CXT)(k:Nat)(f:Addr)(fd:FuncData)(ps:List Str)(sp:Shared->Sp):Prop where
 len:∀ s vs H Q E,sp s vs H Q E->vs.length=ps.length
 run:∀ (A:Around) (outer:List Env) (s:Shared) (H:Hp) (args:Args) (us:List Value) (vs:List V) (Q:VK) (E:XK),l20 k A->w01 P w K mg base A outer s H->BindsTo s fd args (ps.zip us)->Vals vs us->sp s vs H Q E ->
  codeAny (model P w) A (.call (.ref f) args) (CR CX outer P w H s Q E) s
theorem w71{CX:CXT}{P:Ø}{w:ì}{K:À}{mg:Str->Option Ã}{base:á}{k:Nat}{f:Æ}{name qual:Str}{params:Ç2}{body:List À0}{scope:à}{dV kV doc pm cdv ct oc:Ã}{an od:Option Æ}
  {osl:Array (Option Ã)}{N ps:List Str}{sp:Å->Sp} (lk:K.lookup f=some ⟨oc,od,.func (fnOf name qual params body scope dV kV doc pm an cdv ct),osl⟩) (hcd:PySem.W.codeIn K cdv qual=true) (S:h00 N ps scope)
  (len:∀ s vs H Q E,sp s vs H Q E->vs.length=ps.length)
  (hbody:∀ (A:ï) (outer:List Env) (s:Å) (H:Hp) (vs:List V) (Q:VK) (E:XK),l20 k (A.deeper (Ê6 qual scope s.heap.objs.size f cdv))->sp s vs H Q E ->
   ∃ t,PSs (x90 CX P w K mg base N qual scope f cdv A outer s H E) body t/\t { nx:=λ_ H'=>Q .non H',rt:=Q } (start N vs) H) :
  y20 P w K mg base CX (k + 1) f (fnOf name qual params body scope dV kV doc pm an cdv ct) ps sp:=by
 refine⟨len,λA outer s H args us vs Q E hr e0 hb r hsp=>?_⟩;have hl:=len _ _ _ _ _ hsp;have KX:K.In s.heap:=e0.mod.kin.keeps λb o e=>(e0.bs b o e).1;have lim:s.heap.NoLimit:=e0.mod.nolimit.keeps λb o e=>(e0.bs b o e).1;have hkind:∀ y∈ps.zip us,scope.names.lookup y.1=some .local∨(scope.names.lookup y.1=some .cell/\((cellsFrom (s.heap.objs.size + 1) scope.names []).lookup y.1).isSome=true):=λ⟨n,v⟩ hy=>by
  rcases S.par n (of_mem_zip hy).1 with q | q
  ·exact .inl q
  ·exact .inr ⟨q,cellsFrom_some _ _ _ (.inl q)⟩
 refine codeAny_call_function hr.depth (KX _ _ lk) rfl S.co S.gen rfl (codeRec_of KX hcd) (hb _ _ _ _ ?_);refine Ö7 S.kind hkind λenv he s1 x=>?_;subst he;refine⟨lim.keeps x.toInCall.keep,codeAny_func ?_⟩;obtain⟨t,ht,hq⟩:=hbody A outer s H vs Q E (hr.deeper _) hsp;have I:Inv (x90 CX P w K mg base N qual scope f cdv A outer s H E) [] (start N vs) H s1:=G40 S hr.hd e0 hl r x;refine Á2 (ht [] s1 (start N vs) H _ I hq) (λfl s' hs=>?_) λe s' hs=>hs;have fin:∀ {σ':St}{H':Hp}{v:V}{u:Ã},Inv (x90 CX P w K mg base N qual scope f cdv A outer s H E) [] σ' H' s'->RelV v u->Q v H'->CE outer P w H s Q u s' :=
  λ{σ' H' v u} J rv q=>⟨v,H',J.os,J.bare,J.base,J.hok,rv,q⟩
 cases fl with
 |ret u =>
  obtain⟨v,σ',H',J,rv,q⟩:=hs;exact fin J rv q
 |next =>
  obtain⟨σ',H',J,q⟩:=hs;exact fin (v:=V.non) (u:=å) J rfl q
 |brk =>
  obtain⟨_,_,_,q⟩:=hs;exact è q
 |cont =>
  obtain⟨_,_,_,q⟩:=hs;exact è q
theorem Fun.okS{P:Ø}{w:ì}{K:À}{mg:Str->Option Ã}{base:á}{x qual:Str}{st:À0}{f:Æ}{fd:ø}{N ps:List Str}{k:Nat}{sp:Å->Sp}(F:Fun K x qual st f fd)(S:h00 N ps (b10 st))(len:∀ s vs H Q E,sp s vs H Q E->vs.length=ps.length)
  (hb:∀ (cdv:Ã) (A:ï) (outer:List Env) (s:Å) (H:Hp) (vs:List V) (Q:VK) (E:XK),l20 k (A.deeper (Ê6 qual (b10 st) s.heap.objs.size f cdv))->sp s vs H Q E ->
   ∃ t,PSs (x90 CX0 P w K mg base N qual (b10 st) f cdv A outer s H E).nox (f50 st) t/\t { nx:=λ_ H'=>Q .non H',rt:=Q } (start N vs) H):y20 P w K mg base CX0 (k + 1) f fd ps sp:=by
 obtain⟨oc,od,kV,doc,pm,an,cdv,ct,osl,rfl,lk,hcd⟩:=F.ex;refine w71 lk hcd S len λA outer s H vs Q E hr hsp=>?_;obtain⟨t,h,q⟩:=hb cdv A outer s H vs Q E hr hsp;exact⟨t,h.nox,q⟩
def t10(P:Ø)(w:ì)(K:À)(mg:Str->Option Ã)(base:á)(N:List Str)(qual:Str)(scope:à)(f:Æ)(cd:Ã)(cl:List (Str × Æ))(A:ï)(outer:List Env)(s:Å)(H:Hp)(E:XK):Cx where
 prog:=P
 w:=w
 K:=K
 mg:=mg
 base:=base
 A:=A.deeper (envX qual scope s.heap.objs.size f cd cl)
 N:=N
 s₀:=s
 H₀:=H
 env:=envX qual scope s.heap.objs.size f cd cl
 outer:=outer
 stack:=envX qual scope s.heap.objs.size f cd cl::outer
 ex:=[]
 calm:=true
 fn:=λ_=>false
 pn:=[]
 xe:=λe s'=>Ð (Õ P w) (A.deeper (envX qual scope s.heap.objs.size f cd cl)) (leaving (envX qual scope s.heap.objs.size f cd cl) e) (λ_ s''=>CX1 P w outer H s E e s'') (λe' s''=>CX1 P w outer H s E e' s'') s'
section
variable {P:Ø}{w:ì}{K:À}{mg:Str->Option Ã}{base:á}{N:List Str}{qual:Str}{scope:à}{f:Æ}{cd:Ã}{cl:List (Str × Æ)}{A:ï}{outer:List Env}{s₀:Å}{H₀:Hp}{E:XK}
theorem c91:Passes (CX1 P w) (t10 P w K mg base N qual scope f cd cl A outer s₀ H₀ E) E:=by
 intro pins σ H s e s' I h;obtain⟨a,cls,a0,H',B,rfl,os,bare,un,hok,fl,na,bB,he⟩:=h;show Ð _ _ (leaving _ _) _ _ _;refine wpAny_leaves_onW I.ok.frames rfl fl λh'' fl' sm=>?_;exact L00 (X:=t10 P w K mg base N qual scope f cd cl A outer s₀ H₀ E) (s':=s') rfl rfl rfl I os bare un hok bB na fl' sm he
structure q90(scope:Scope)(cl:List (Str × Addr))(N:List Str)(vs:List V)(H:Hp)(h:Heap):Prop where
 inj:∀ x y c,cl.lookup x=some c->cl.lookup y=some c->x=y
 has:∀ x,(scope.names.lookup x=some .cell∨scope.names.lookup x=some .free)->∃ c,cl.lookup x=some c
 cell:∀ x c,cl.lookup x=some c->∃ v,h.IsCell c v
 free:∀ x c,cl.lookup x=some c->H c=none
 val:∀ (i:Nat) (x:Str) (v:V),N[i]?=some x->vs[i]?=some v->scope.names.lookup x=some .free/\∃ c u,cl.lookup x=some c/\RelV v u/\h.IsCell c (some u)
 len:vs.length=N.length
theorem d01{vs:List V}{h₁:á}{t:Nat}(e0:w01 P w K mg base A outer s₀ H₀)(hd:A.handled=none)(hk:scope.kind=.function)(FR:q90 scope cl N vs H₀ s₀.heap)(hns:h₁.Ns s₀.heap.objs.size λ_=>none)
  (hkp:∀ b o,s₀.heap.get? b=some o->h₁.get? b=some o) :
  Inv (t10 P w K mg base N qual scope f cd cl A outer s₀ H₀ E) [] (vs.map some) H₀ { s₀ with heap:=h₁,toks:=t }:=by
 have noA:∀ b:Æ,b ∉ (t10 P w K mg base N qual scope f cd cl A outer s₀ H₀ E).ex:=λb z=>absurd (show b∈([]:List Æ) from z) (by simp)
 have cel:∀ c v,s₀.heap.IsCell c v->h₁.IsCell c v:=λc v ⟨o,ho,hd⟩=>⟨o,hkp c o ho,hd⟩;refine⟨⟨e0.mod,hk,rfl,rfl,È _,FR.inj,FR.has,(λ_ _ z=>nomatch z),(λ_=>hd),Ö6 e0.frames,.inr ⟨rfl,rfl⟩,λb z=>absurd z (noA b),e0.bs,e0.bsz,λb _ _=>noA b,λb z=>absurd z (noA b),e0.U30,e0.frf⟩,
  rfl,e0.bare,Un.kept hkp,⟨_,hns,λi x v h1 h2 h3=>?_⟩,λx c h=>?_,e0.hok.fresh (È _),FR.free,λp hp=>absurd (show p∈([]:List (Æ × Obj)) from hp) (by simp),e0.hok.kept hkp,?_⟩
 ·have hv:vs[i]?=some v:=by
   rw[Ù] at h2;cases e:vs[i]? with
   |none=>rw[e] at h2;cases h2
   |some a=>rw[e] at h2;cases h2;rfl
  obtain⟨k,c,u,ec,r,z⟩:=FR.val i x v h1 hv;exact⟨u,r,.inr ⟨.inr k,c,ec,cel c _ z⟩⟩
 ·obtain⟨v,z⟩:=FR.cell x c h;exact⟨v,cel c v z⟩
 ·rw[É];exact FR.len
end
def recAt(c:Æ)(qual:Str):á->Prop:=λh=>h.CodeRec (.ref c) qual
theorem y80{c:Æ}{qual:Str}{h1 h2:á}(h:recAt c qual h1)(k:∀ o,h1.get? c=some o->h2.get? c=some o):recAt c qual h2:=by
 obtain⟨c',oc,vs,tq,e,ho,hd,hq⟩:=h;cases e;exact⟨c,oc,vs,tq,rfl,k _ ho,hd,hq⟩
section
variable {P:Ø}{w:ì}{K:À}{mg:Str->Option Ã}{base:á}{N:List Str}{qual:Str}{scope:à}{f c':Æ}{cl:List (Str × Æ)}{s₀:Å}{H₀:Hp}{k:Nat}{pm ctv cls:Ã}{params:Ç2}{body:Ê}{vs:List V}
theorem q90.later{outer:List Env}{H:Hp}{s:Å}(FR:q90 scope cl N vs H₀ s₀.heap)(un:Un (frs outer) [] H₀ H s₀.heap s.heap):q90 scope cl N vs H s.heap:=by
 have cel:∀ x c v,cl.lookup x=some c->s₀.heap.IsCell c v->s.heap.IsCell c v:=λx c v e ⟨o,ho,hd⟩=>by
  obtain⟨sl,e1⟩:=un.any ho (FR.free x c e) (by simp)
  exact⟨_,e1,hd⟩
 refine⟨FR.inj,FR.has,λx c e=>?_,λx c e=>?_,λi x v h1 h2=>?_,FR.len⟩
 ·obtain⟨v,z⟩:=FR.cell x c e;exact⟨v,cel x c v e z⟩
 ·obtain⟨v,o,ho,_⟩:=FR.cell x c e;exact un.free c o ho (FR.free x c e) (by simp)
 ·obtain⟨k,c,u,ec,r,z⟩:=FR.val i x v h1 h2;exact⟨k,c,u,ec,r,cel x c _ ec z⟩
end
def Tab(H:Hp)(P:Æ)(qual:Str):Prop:=∃ ps:Array Ã,H P=some (.tbl ps)/\Õ4 ps.toList/\∀ pos c,Ñ9 pos ps.toList=some c->∃ c',c=.ref c'/\H c'=some (.ext (recAt c' qual))
theorem V80{line col:Int}{pos':Pos}{c c2:Ã}(tl:List Ã)(h:Õ4 tl)(e:Ñ9 pos' (tl++[Æ0 line,Æ0 col,c])=some c2):c2=c∨Ñ9 pos' tl=some c2:=by
 fun_induction Õ4 tl with
 |case1 =>
  simp only[nil_append,Ñ9,Æ0] at e;split at e
  ·cases e;exact .inl rfl
  ·cases e
 |case2 a t b u x rest ih =>
  simp only[List.cons_append,Ñ9] at e ⊢;split at e
  ·rename_i hc;rw[if_pos hc];exact .inr e
  ·rename_i hc;rw[if_neg hc];exact ih h e
 |case3 tl h1 h2=>exact h.elim
theorem r21(hf:∀ y∈lsc.names,y.2=.free->∃ c,env.cells.lookup y.1=some c):∃ cl,closureFor lsc env=pure cl/\(∀ x c,cl.lookup x=some c->env.cells.lookup x=some c)/\∀ y∈lsc.names,y.2=.free->∃ c,cl.lookup y.1=some c:=by
 obtain⟨cl,e,h1,_,h3⟩:=B70 env lsc.names [] hf (λx c z=>by simp at z)
 refine⟨cl,?_,h1,h3⟩;unfold closureFor
 first
  |(rw[show(forIn lsc.names ([]:List (Str × Æ)) _:Sem _)=_ from e];rfl)
  |(simp only[bind_pure];exact e)
structure v60(P:Addr)(H H':Hp):Prop where
 same:∀ b o,b≠P->H b=some o->H' b=some o
section
variable {X:Cx}{pins:List (Æ × Obj)}{σ:St}{H:Hp}{s:Å}{c P:Æ}{qual:Str}{params:Ç2}{body:Ê}{lsc:à}{lpos:Pos}{A:ï}{Q:Ã->Å->Prop}{E:Ã->Å->Prop}
theorem r31(I:Inv X pins σ H s)(hdef:defaultsOf params X.env=([],[]))(hcode:X.env.code=.ref c)(hhd:Â2 X.K c P=true)(TB:Tab H P qual)(hqu:X.env.qual++"<lambda>"=qual)
  (hbm:∃ bm ob,X.mg "__builtins__"=some (.ref bm)/\bm≠É5/\X.base.get? bm=some ob/\ob.cls=.type "module"/\ob.dict=some É5/\ob.data=.plain)
  (hfr:∀ y∈lsc.names,y.2=.free->∃ c,X.env.cells.lookup y.1=some c)
  (k:∀ (cl:List (Str × Æ)) (f c':Æ) (pm ctv:Ã) (h2:á) (tk:Tok) (H2:Hp),(∀ x c,cl.lookup x=some c->X.env.cells.lookup x=some c)->(∀ y∈lsc.names,y.2=.free->∃ c,cl.lookup y.1=some c) ->
   Inv X pins σ H2 { s with heap:=h2,toks:=tk }->Tab H2 P qual->v60 P H H2->(∃ o,h2.get? f=some o/\o.data=.func (kla_fn "<lambda>" qual params body lsc cl pm (.ref c') ctv))->H2 f=none->H2 c'=some (.ext (recAt c' qual))->s.heap.objs.size<=f ->
   Q (.ref f) { s with heap:=h2,toks:=tk }):Ð (Õ X.prog X.w) A (eval (.Lambda params body lsc lpos) X.env) Q E s:=by
 refine PySem.W.kla_eval hdef ?_;rw[hqu];obtain⟨cl,ecl,cl1,cl2⟩:=r21 hfr;obtain⟨ps,hP,ht,hall⟩:=TB;have hPt:s.heap.get? P=some (Å7 ps):=I.hok P _ hP;have hg:=I.mod.glob.keeps I.bk;have bsN:∀ b o,X.base.get? b=some o->b≠P:=λb o e z=>by have:=(I.bs b o e).2;rw[z,hP] at this;cases this
 have hgP:Ý≠P:=by obtain⟨o,_,_,e,_⟩:=I.mod.glob;exact bsN _ o e
 obtain⟨bm,ob,b1,b2,b3,b4,b5,b6⟩:=hbm;have hbGl:bm≠mainGlobals:=λq=>by
  obtain⟨o,es,ep,e,hd,_⟩:=I.mod.glob;rw[q,e] at b3;(cases b3;rw[hd] at b6;cases b6)
 have BA:s.heap.BuiltinsAt X.mg P:=⟨bm,ob,b1,b2,hbGl,bsN _ _ b3,I.bk _ _ b3,b4,b5,b6⟩;have CH:=codeHd_of_K I.kIn hhd;cases hca:Ñ9 lpos ps.toList with
 |some cv =>
  obtain⟨c',rfl,hc'⟩:=hall lpos cv hca;refine PySem.W.kla_makeFunctionHit ecl I.ok.glob hg hcode CH hPt ht hca BA λctv h' tk hk hsz=>?_;have kp:∀ b o,s.heap.get? b=some o->(h'.push { cls:=.type "function",data:=.func (kla_fn "<lambda>" qual params body lsc cl ((X.mg "__name__").getD .none) (.ref c') ctv) }).get? b=some o:=λb o e=>Ä _ (hk b o e);have nf:H h'.objs.size=none:=I.hok.fresh hsz;exact k cl h'.objs.size c' _ ctv _ tk H cl1 cl2 (I.kept (t':=tk) kp) ⟨ps,hP,ht,hall⟩ ⟨λ_ _ _ e=>e⟩ ⟨_,Ì _ rfl,rfl⟩ nf hc' hsz
 |none =>
  refine PySem.W.kla_makeFunction ecl I.ok.glob hg hcode CH hPt ht hca hgP BA λc' ctv h' tk hx hge hlt hrec htb=>?_;have lP:P < s.heap.objs.size:=Û hPt;have cP:c'≠P:=Ë3 (Ñ lP hge);have nC:H c'=none:=I.hok.fresh hge;have kp:∀ b o,b≠P->s.heap.get? b=some o->(h'.push (kla_obj "<lambda>" qual params body lsc cl ((X.mg "__name__").getD .none) c' ctv)).get? b=some o:=λb o hb e=>Ä _ (hx b o hb e);have tb:(h'.push (kla_obj "<lambda>" qual params body lsc cl ((X.mg "__name__").getD .none) c' ctv)).get? P=some (Å7 (ps++#[Æ0 lpos.line,Æ0 lpos.col,.ref c'])):=Ä _ htb;have rc:recAt c' qual (h'.push (kla_obj "<lambda>" qual params body lsc cl ((X.mg "__name__").getD .none) c' ctv)):=y80 hrec λo q=>Ä _ q;have h2P:upd (upd H P (.tbl (ps++#[Æ0 lpos.line,Æ0 lpos.col,.ref c']))) c' (.ext (recAt c' qual)) P=some (.tbl (ps++#[Æ0 lpos.line,Æ0 lpos.col,.ref c'])):=by rw[a20 cP.symm];exact a90
  have oth:∀ b,b≠P->b≠c'->upd (upd H P (.tbl (ps++#[Æ0 lpos.line,Æ0 lpos.col,.ref c']))) c' (.ext (recAt c' qual)) b=H b:=λb h1 h2=>by rw[a20 h2,a20 h1]
  have neC:∀ b o,H b=some o->b≠c':=λb o e=>a60 e nC;have I2:Inv X pins σ (upd (upd H P (.tbl (ps++#[Æ0 lpos.line,Æ0 lpos.col,.ref c']))) c' (.ext (recAt c' qual))) { s with heap:=h'.push (kla_obj "<lambda>" qual params body lsc cl ((X.mg "__name__").getD .none) c' ctv),toks:=tk }:=by
   have nP:∀ b,H b=none->b≠P:=λb n z=>by rw[z,hP] at n;cases n
   refine I.step (g':=s.gens) (d':=s.drawn) (ch:=[]) (λb hb=>absurd hb (by simp)) (λb o _ _ _ e n=>kp b o (nP b n) e) (λb o _ _ _ e n=>⟨o.slots,kp b o (nP b n) e⟩) (λb o _ e n=>?_) (λb o _ e=>?_) (λb xs e=>?_) (λb o u e=>?_) (λb qs e=>?_) (λm hm=>?_) (λb u e=>?_) I.bare
   ·rw[oth b (nP b n) (â (Ñ (Û e) hge))];exact n
   ·by_cases hb:b=P
    ·subst hb;exact⟨_,tb⟩
    ·exact⟨o,kp b o hb e⟩
   ·rw[oth b (λz=>by rw[z,hP] at e;cases e) (neC b _ e)];exact e
   ·rw[oth b (λz=>by rw[z,hP] at e;cases e) (neC b _ e)];exact e
   ·by_cases hb:b=P
    ·subst hb;rw[hP] at e;cases e;exact⟨_,h2P⟩
    ·exact⟨#[],by rw[oth b hb (neC b _ e),e];simp⟩
   ·obtain⟨o,es,ep,ho,r⟩:=hm;exact⟨o,es,ep,kp _ o (nP _ I.free) ho,r⟩
   ·by_cases hbc:b=c'
    ·subst hbc;rw[a90] at e;cases e;obtain⟨_,oc,_,_,e1,e2,_⟩:=id rc;cases e1;exact⟨rc,⟨oc,e2⟩,λh1 h2 p kk=>y80 p kk⟩
    ·by_cases hb:b=P
     ·subst hb;rw[h2P] at e;cases e;exact tb
     ·rw[oth b hb hbc] at e;refine(I.hok b u e).U20 (λb2 u2 hb2 q=>kp b2 u2 (λz=>?_) q) (λb2 q=>?_) λb2 xs q=>?_
      ·rcases hb2 with y | y
       ·exact hb (y.symm.trans z)
       ·rw[z,hP] at y;cases y
      ·rw[oth b2 (λz=>by rw[z,hP] at q;cases q) (neC b2 _ q)];exact q
      ·rw[oth b2 (λz=>by rw[z,hP] at q;cases q) (neC b2 _ q)];exact q
  have lf:s.heap.objs.size<=h'.objs.size:=Ê0 (Â9 hge hlt);refine k cl h'.objs.size c' _ ctv _ tk _ cl1 cl2 I2 ⟨_,h2P,?_,λpos cc e=>?_⟩ ⟨λb o hb e=>by rw[oth b hb (neC b _ e)];exact e⟩ ⟨_,Ì _ rfl,rfl⟩ ?_ a90 lf
  ·rw[Array.toList_append];exact TriplesOk_snoc _ _ _ _ ht
  ·rw[Array.toList_append] at e;rcases V80 _ ht e with z | z
   ·exact⟨c',z,a90⟩
   ·obtain⟨c2,rfl,hc2⟩:=hall pos cc z;exact⟨c2,rfl,by rw[oth c2 (λy=>by rw[y,hP] at hc2;cases hc2) (neC c2 _ hc2)];exact hc2⟩
  ·rw[oth _ (Ë3 (Ñ lP lf)) (Ë3 hlt)];exact I.hok.fresh lf
end
def BMain(mg:Str->Option Ã)(h:á):Prop:=∃ bm ob,mg "__builtins__"=some (.ref bm)/\bm≠É5/\h.get? bm=some ob/\ob.cls=.type "module"/\ob.dict=some É5/\ob.data=.plain
theorem O51{P:Ø}{w:ì}{X:Cx}:Passes (CX1 P w) X (λ_ _ _=>False):=λ_ _ _ _ _ _ _ h=>by
 obtain⟨_,_,_,_,_,_,_,_,_,_,_,_,_,e⟩:=h;exact e.elim
theorem Tab.same{H H':Hp}{P:Æ}{q:Str}(t:Tab H P q)(s:a10 H H'):Tab H' P q:=by
 obtain⟨ps,e,tr,h⟩:=t;refine⟨ps,s _ _ e,tr,λpos c hc=>?_⟩;obtain⟨c',e1,e2⟩:=h pos c hc;exact⟨c',e1,s _ _ e2⟩
def FnL(P:Ø)(w:ì)(H₀:Hp)(s₀:Å)(f:Æ)(fd:ø):Prop:=∀ (outer:List Env) (s:Å) (H:Hp),Un (frs outer) [] H₀ H s₀.heap s.heap->a10 H₀ H->HOk P w H s.heap->∃ c d sl,s.heap.get? f=some ⟨c,d,.func fd,sl⟩
theorem FnL.new{P:Ø}{w:ì}{H₀:Hp}{s₀:Å}{f:Æ}{fd:ø}(ho:∃ o,s₀.heap.get? f=some o/\o.data=.func fd)(nf:H₀ f=none):FnL P w H₀ s₀ f fd:=λouter s H un _ _=>by
 obtain⟨⟨c,d,dt,sl⟩,e,hd⟩:=ho;have hd:dt=.func fd:=hd;subst hd;obtain⟨sl,h⟩:=un.any e nf (by simp)
 exact⟨_,_,sl,h⟩
structure s20(P:Program)(w:World)(K:PySem.W.Frag)(mg:Str->Option Value)(base:Heap)(k:Nat)(f:Addr)(H₀:Hp)(s₀:Shared)(cls:Value)(RR:Hp->Prop):Prop where
 fn:∃ fd,FnL P w H₀ s₀ f fd
 run:∀ (A:Around) (outer:List Env) (s:Shared) (H:Hp),l20 k A->w01 P w K mg base A outer s H->Un (frs outer) [] H₀ H s₀.heap s.heap->a10 H₀ H ->
  codeAny (model P w) A (.call (.ref f) ⟨[],[]⟩) (CR (CX1 P w) outer P w H s (λ_ _=>False) λc _ H'=>c=cls/\RR H') s
def d22(X:Cx)(i j:Nat)(f C:Æ)(RR:Hp->Prop):TS:=λD σ H=>σ[i]?=some (some (.ref f))/\a10 X.H₀ H/\∀ a H',RR H'->H' a=none->D.nx (σ.set j (some (.ref a))) (upd H' a (.ext (excAt a C)))
section
variable {X:Cx}{k i j:Nat}{f C D:Æ}{x y z n:Str}{p1 p2 p3 p4 p5 p6 p7 p8 p9:Pos}
theorem d11(hx0:X.ex=[])(hS:X.stack=X.env::X.outer)(hf:X.env.frame=some X.env.locals)(hr:l20 k X.A)(th:s20 X.prog X.w X.K X.mg X.base k f X.H₀ X.s₀ (.ref C) RR)
  (hy:X.N[i]?=some y) (vy:Vis X.env.scope y) (dy:(y == ("__debug__":Str))=false) (cy:(y == ("__classdict__":Str))=false)
  (hg:Gl X x) (hm:X.mg x=some (.ref D)) (dx:(x == ("__debug__":Str))=false) (he:PySem.W.exmOne X.K (.ref C) (.ref D)=some true)
  (hn:X.env.kindOf n=some .local) (nN:n ∉ X.N) (dn:(n == ("__debug__":Str))=false) (hN:X.N.Nodup) (hz:X.N[j]?=some z) (lz:Loc X.env.scope z) (hfn:X.fn z=true) :
  PS X (.Try [.Expr (.Call (.Name y p1) [] [] p2) p3] [.ExceptHandler (some (.Name x p4)) (some n) [.Assign [.Name z p5] (.Name n p6) p7] p8] [] [] p9) (d22 X i j f C RR):=by
 intro pins s σ H Dd I h;obtain⟨eσ,sH,q⟩:=h;have U0:Un (frs X.stack) [] X.H₀ H X.s₀.heap s.heap:=by
  have u:=I.base;rw[hx0] at u;exact u.mono (λb hb=>by rw[hS];unfold frs;rw[þ,hf];exact Î _ hb) λb hb=>hb
 obtain⟨fd,hfd⟩:=th.fn;obtain⟨c0,d0,sl,hof⟩:=hfd X.stack s H U0 sH I.hok;have hkind:(X.env.scope.kind == .class || (X.env.scope.kind == .module&&X.env.locals != X.env.globals))=false:=by rw[I.ok.kind];rfl
 refine wpAny_Try_except (Î9 ?_);refine wpAny_Expr_any ?_ I.quiet rfl;refine Ã4 ?_;have ld:∀ {Q:Ã->Å->Prop}{E:Ã->Å->Prop},Q (.ref f) s->Ð (Õ X.prog X.w) X.A (eval (.Name y p1) X.env) Q E s:=λ{Q E} hq=>by
  obtain⟨m,hnm,hl⟩:=I.loc;obtain⟨u,r,l⟩:=hl i y _ hy eσ vy;cases (show u=Á9 f from r);rcases l with ⟨hk,hv⟩ | ⟨hk,c,hc,hcell⟩
  ·exact Ì6 (Ñ5 I.ok.kind hk hnm hv hq) dy
  ·rcases hk with hk | hk
   ·exact Ì6 (wpAny_loadName_cell I.ok.kind hk hc hcell hq) dy
   ·exact Ì6 (wpAny_loadName_free I.ok.kind hk hc hcell hq cy) dy
 refine ld ?_;refine callWith_of (P:=λh=>h.get? f=some ⟨c0,d0,.func fd,sl⟩) rfl (λh e=>⟨.frame,.inl rfl,?_⟩) (evalArgs_nil3 ⟨hof,?_⟩)
 ·exact(Ï2 (part:=none) e).andThen .now
 refine Ì5 (Å6 (th.run X.A X.stack s H hr I.M81 U0 sH) λr s1 hq=>?_);cases r with
 |ok fl =>
  cases fl with
  |ret u=>obtain⟨_,_,_,_,_,_,_,z⟩:=hq;exact z.elim
  |next=>exact è hq
  |brk=>exact è hq|cont=>exact è hq
 |error e =>
  obtain⟨a,cls,a0,H1,B,rfl,os1,bare1,un,hok,fl,na,bB,rfl,s1H⟩:=hq;have nA:s.heap.get? a=none:=by
   cases ea:s.heap.get? a with
   |none=>rfl
   |some o =>
    exfalso;obtain⟨oe,vs,hoe,_,hde,_⟩:=fl.first;by_cases hb:a∈frs X.stack
    ·obtain⟨sl',e1⟩:=un.slot a o ea (I.q50 a hb) hb (by simp)
     obtain⟨_,o',ho',hd'⟩:=I.stack.mem hb;rw[ea] at ho';cases ho';rw[hoe] at e1;cases e1;exact hd' vs hde
    ·have:=bB a oe hoe hb (.inl ⟨o,ea⟩);rw[fl.2.1] at this;cases this
  have n0:X.s₀.heap.get? a=none:=by
   cases ea:X.s₀.heap.get? a with
   |none=>rfl
   |some o =>
    obtain⟨o',e1⟩:=U0.there a o ea (by simp)
    rw[nA] at e1;cases e1
  have aL:a≠X.env.locals:=λz=>by
   obtain⟨m,⟨o,_,_,ho,_⟩,_⟩:=I.loc;rw[z,ho] at nA;cases nA
  have aC:∀ x c,X.env.cells.lookup x=some c->c≠a:=λx c e z=>by
   obtain⟨v,o,ho,_⟩:=I.cell x c e;rw[z,nA] at ho;cases ho
  have aP:∀ p∈X.pn++pins,p.1≠a:=λp hp z=>by
   have:=(I.pin p hp).1;rw[z,nA] at this;cases this
  refine wpAny_looks_onW (I.ok.frames.trans (by rw[hS])) hf (by rw[← hS];exact fl) λh2 held2 sm2=>?_
  refine wpAny_landsW held2 λh3 fl3 sm3=>?_;have I3:Inv X pins σ H1 { s1 with heap:=h3 }:=w51 I os1 bare1 un hok bB fl3.1 (sm2.trans sm3);have at3:excAt a C h3:=by obtain⟨oe,e1,e2⟩:=fl3.there;exact⟨oe,e1,e2⟩
  refine wpAny_handleBy_cons (codeAny_handlers_test ?_) (λz=>nomatch z);refine Ê1 I3.ok.kind hg (Ö0 (by rw[I3.ok.glob];exact I3.mod.glob.keeps I3.bk) hm ?_) dx
  refine(PySem.W.exm_one (h:=h3) I3.kIn at3.ty he).here ?_;refine codeAny_handlers_suite_as (lands_againW fl3 λh4 fl4 sm4=>?_);have I4:Inv X pins σ H1 { s1 with heap:=h4 }:=w51 I os1 bare1 un hok bB fl4.1 ((sm2.trans sm3).trans sm4);have at4:excAt a C h4:=by obtain⟨oe,e1,e2⟩:=fl4.there;exact⟨oe,e1,e2⟩
  obtain⟨m4,hn4,hl4⟩:=id I4.loc;refine wpAny_storeName_local hn hn4 (λh5 hn5 hs5=>?_) hkind;have offN:∀ (i:Nat) (x:Str),X.N[i]?=some x->x≠n:=λi x e z=>nN (by rw[← z];exact Ü e)
  have I5:Inv X pins σ H1 { s1 with heap:=h5,toks:=s1.toks + 1 }:=Inv.c81 (s:={ s1 with heap:=h4 }) I4 hl4 hn5 hs5 λi x e=>if_neg (offN i x e);refine Î9 (wpAny_Assign_Name ?_ rfl);refine Ì6 (Ñ5 I.ok.kind hn hn5 (if_pos rfl) ?_) dn;refine u20 (v:=.ref a) I5 hN hz lz rfl (λs6 I6 hsame=>?_) (.inl hfn);refine Ê3 ?_;show Ð _ _ (do bindName X.env n .none;unbindBehindTheSuite X.env n p8) _ _ _;obtain⟨m6,hn6,hl6⟩:=id I6.loc;refine wpAny_nameGoes_keeps hn hn6 hkind λh7 v7 hn7 hs7=>?_;have I7:=Inv.c81 (t':=s6.toks + 1) I6 hl6 hn7 hs7 λi x e=>if_neg (offN i x e);have at7:excAt a C h7:=by
   obtain⟨oe,e1,e2⟩:=at4;obtain⟨b6,hb6,hor⟩:=hsame;have e5:h5.get? a=some oe:=(hs5.2 a aL).trans e1;have e6:s6.heap.get? a=some oe:=(hb6.2 a (λz=>by
    rcases hor with y | y
    ·exact aL (z.trans y)
    ·exact aC _ _ y z.symm)).trans e5
   exact⟨oe,(hs7.2 a aL).trans e6,e2⟩
  have nT:H1 a=none:=na;have I8:=Inv.w61 (T:=a) (o:=.ext (excAt a C)) I7 nT n0 aL aC aP ⟨at7,by obtain⟨oe,e1,_⟩:=at7;exact⟨oe,e1⟩,λh1 h2 p kk=>V60 p kk⟩
  exact⟨_,_,I8,q a H1 s1H na⟩
end
section
variable {P:Ø}{w:ì}{K:À}{mg:Str->Option Ã}{base:á}{N:List Str}{qual:Str}{scope:à}{f c':Æ}{cl:List (Str × Æ)}{s₀:Å}{H₀:Hp}{k:Nat}{pm ctv cls:Ã}{params:Ç2}{body:Ê}{vs:List V}
theorem V90{RR:Hp->Prop}(hf:FnL P w H₀ s₀ f (kla_fn "<lambda>" qual params body scope cl pm (.ref c') ctv))(hc:H₀ c'=some (.ext (recAt c' qual)))
  (hk:scope.kind=.function) (hco:scope.isCoroutine=false) (hgen:scope.isGenerator=false) (hcell:∀ x∈scope.names,x.2≠.cell)
  (hb:bindArgs (kla_fn "<lambda>" qual params body scope cl pm (.ref c') ctv) ⟨[],[]⟩=pure []) (FR:q90 scope cl N vs H₀ s₀.heap)
  (hbody:∀ (A:ï) (outer:List Env) (s:Å) (H:Hp),l20 k (A.deeper (envX qual scope s.heap.objs.size f (.ref c') cl))->a10 H₀ H ->
   ∃ t,PE (t10 P w K mg base N qual scope f (.ref c') cl A outer s H λc _ H'=>c=cls/\RR H') body t/\t (vs.map some) H λ_ _=>False) :
  s20 P w K mg base (k + 1) f H₀ s₀ cls RR:=by
 refine⟨⟨_,hf⟩,λA outer s H hr e0 un sm=>?_⟩;obtain⟨c0,d0,sl,hof⟩:=hf outer s H un sm e0.hok;have hrec:s.heap.CodeRec (.ref c') qual:=(e0.hok c' _ (sm _ _ hc)).1;have lim:s.heap.NoLimit:=e0.mod.nolimit.keeps λb o e=>(e0.bs b o e).1;refine kla_callFunE hr.depth hof rfl hco hgen rfl hrec ?_;rw[hb];refine Ç (Ñ4 hcell (λy hy=>absurd hy (by simp)) (λh₁ hns hsb=>⟨lim.fresh _ hsb,?_⟩) hk)
 show Ì1 _ _ (.expr body (envX qual scope s.heap.objs.size f (.ref c') cl)) _ _;have hkeep1:∀ b o,s.heap.get? b=some o->h₁.get? b=some o:=λb o e=>hsb.extBut b o (â (Û e)) (Ä _ e);obtain⟨t,ht,hq⟩:=hbody A outer s H (hr.deeper _) sm;have I:Inv (t10 P w K mg base N qual scope f (.ref c') cl A outer s H λc _ H'=>c=cls/\RR H') [] (vs.map some) H { s with heap:=h₁,toks:=s.toks + 0 }:=d01 e0 hr.hd hk (FR.later un) hns hkeep1;refine kla_codeExpr (Á2 (ht [] _ _ H _ I hq) (λv s' hv=>?_) λe s' he=>he);obtain⟨_,_,_,_,z⟩:=hv;exact z.elim
end
def q52(X:Cx)(P:Æ)(qual:Str)(N:List Str)(lsc:à)(body:Ê)(k:Nat)(cls:Ã)(RR:Hp->Hp->Prop)(sp:Å->Sp):TE:=λσ H Q=>Tab H P qual/\∃ vs:List V,vs.length=N.length /\
 (∀ (i:Nat) (x:Str) (v:V),N[i]?=some x->vs[i]?=some v->∃ j:Nat,X.N[j]?=some x/\σ[j]?=some (some v)) /\
 ∀ H2,v60 P H H2->Tab H2 P qual ->
  (∀ (f c':Æ) (cl:List (Str × Æ)) (A:ï) (outer:List Env) (s:Å) (H3:Hp),l20 k (A.deeper (envX qual lsc s.heap.objs.size f (.ref c') cl))->a10 H2 H3 ->
   ∃ t,PE (t10 X.prog X.w X.K X.mg X.base N qual lsc f (.ref c') cl A outer s H3 λc _ H'=>c=cls/\RR H2 H') body t/\t (vs.map some) H3 λ_ _=>False) /\
  ∀ (s2:Å) (f:Æ),s20 X.prog X.w X.K X.mg X.base (k + 1) f H2 s2 cls (RR H2)->sp s2 [.ref f] H2 Q λ_ _ _=>False
def fnAt(f:Æ)(fd:ø):á->Prop:=λh=>∃ o,h.get? f=some o/\o.data=.func fd
theorem d21(h:fnAt f fd h1)(k:∀ o,h1.get? f=some o->h2.get? f=some o):fnAt f fd h2:=by
 obtain⟨o,e,d⟩:=h;exact⟨o,k _ e,d⟩
theorem FnL.at(h:H₀ f=some (.ext (fnAt f fd))):FnL P w H₀ s₀ f fd:=λouter s H _ sm hok=>by
 obtain⟨⟨⟨c,d,dt,sl⟩,e,hd⟩,_⟩:=hok f _ (sm _ _ h);have hd:dt=.func fd:=hd;subst hd;exact⟨_,_,_,e⟩
def d32(X:Cx)(P:Æ)(qual:Str)(params:Ç2)(body:Ê)(lsc:à):TE:=λσ H Q=>Tab H P qual/\∀ (cl:List (Str × Æ)) (f c':Æ) (pm ctv:Ã) (H2:Hp),(∀ x c,cl.lookup x=some c->X.env.cells.lookup x=some c)->(∀ y∈lsc.names,y.2=.free->∃ c,cl.lookup y.1=some c) ->
 Tab H2 P qual->v60 P H H2->H f=none->H2 f=some (.ext (fnAt f (kla_fn "<lambda>" qual params body lsc cl pm (.ref c') ctv)))->H2 c'=some (.ext (recAt c' qual))->Q (.ref f) H2
section
variable {X:Cx}{c P:Æ}{qual:Str}{params:Ç2}{body:Ê}{lsc:à}{lpos:Pos}
theorem w81(hcode:X.env.code=.ref c)(hhd:Â2 X.K c P=true)(hqu:X.env.qual++"<lambda>"=qual)(hdef:defaultsOf params X.env=([],[]))
  (hbm:∃ bm ob,X.mg "__builtins__"=some (.ref bm)/\bm≠É5/\X.base.get? bm=some ob/\ob.cls=.type "module"/\ob.dict=some É5/\ob.data=.plain)
  (hfr:∀ y∈lsc.names,y.2=.free->X.env.kindOf y.1=some .cell):PE X (.Lambda params body lsc lpos) (d32 X P qual params body lsc):=by
 intro pins s σ H Q I h;obtain⟨TB,q⟩:=h;refine r31 I hdef hcode hhd TB hqu hbm (λy hy hf=>I.ok.has y.1 (.inl (hfr y hy hf))) λcl f c' pm ctv h2 tk H2 cl1 cl2 I2 TB2 KB ho nf hc hsz=>?_;have old:∀ {b:Æ}{o:Obj},s.heap.get? b=some o->b≠f:=λe z=>by subst z;exact ó _ (Ñ (Û e) hsz)
 have n0:X.s₀.heap.get? f=none:=by
  cases e:X.s₀.heap.get? f with
  |none=>rfl|some o=>exact absurd (Ñ (Û e) (ë I.sz hsz)) (ó _)
 have hL:f≠X.env.locals:=λz=>by
  obtain⟨m,⟨o,_,_,e,_⟩,_⟩:=I.loc;exact old e z.symm
 have hC:∀ x c,X.env.cells.lookup x=some c->c≠f:=λx c e=>by
  obtain⟨v,o,e1,_⟩:=I.cell x c e;exact old e1
 have hP:∀ p∈X.pn++pins,p.1≠f:=λp hp=>old (I.pin p hp).1;have fP:f≠P:=λz=>by
  obtain⟨ps,e,_⟩:=TB;subst z;exact old (I.hok f _ e) rfl
 have fC:f≠c':=λz=>by subst z;rw[nf] at hc;cases hc
 have Hf:H f=none:=I.hok.fresh hsz;have I3:=Inv.w61 (T:=f) (o:=.ext (fnAt f (kla_fn "<lambda>" qual params body lsc cl pm (.ref c') ctv))) I2 nf n0 hL hC hP ⟨ho,by obtain⟨o,e,_⟩:=ho;exact⟨o,e⟩,λh1 h2 p kk=>d21 p kk⟩
 refine⟨.ref f,_,I3,rfl,q cl f c' pm ctv _ cl1 cl2 ?_ ⟨λb o hb e=>?_⟩ Hf a90 ?_⟩
 ·obtain⟨ps,e,tr,k⟩:=TB2;refine⟨ps,by rw[a20 fP.symm];exact e,tr,λpos cc h=>?_⟩
  obtain⟨c2,e1,e2⟩:=k pos cc h;exact⟨c2,e1,by rw[a20 (λz=>by rw[z,nf] at e2;cases e2)];exact e2⟩
 ·rw[a20 (λz=>by rw[z,Hf] at e;cases e)];exact KB.same b o hb e
 ·rw[a20 fC.symm];exact hc
end
section
variable {X:Cx}{f:Æ}{fd:ø}{g par n:Str}{p p2 pos:Pos}{i k kr:Nat}{sp:Å->Sp}{Ok:Æ->Ã->(Hp->Prop)->Hp->Prop}
theorem s30(F:y20 X.prog X.w X.K X.mg X.base CX0 kr f fd [par] sp)(hr:l20 kr X.A)(hg:Gl X g)(hm:X.mg g=some (.ref f))(hk:Ç7 X.K (.ref f)=true)(hb:Binds X.K fd [par] [])
  (hi:X.N[i]?=some n) (hv:Vis X.env.scope n) (d1:(n == ("__debug__":Str))=false) (d2:(n == ("__classdict__":Str))=false)
  (th:∀ pins σ H s,Inv X pins σ H s->∀ a cls RR,Ok a cls RR H->s20 X.prog X.w X.K X.mg X.base (k + 1) a H s cls RR)
  (hdb:(g == ("__debug__":Str))=false:=by decide) :
  PE X (.Call (.Name g p) [.Name n p2] [] pos) (λσ H Q=>∃ a cls RR,σ[i]?=some (some (.ref a))/\Ok a cls RR H/\∀ s2:Å,s20 X.prog X.w X.K X.mg X.base (k + 1) a H s2 cls RR->sp s2 [.ref a] H Q λ_ _ _=>False):=by
 intro pins s σ H Q I h;obtain⟨a,cls,RR,e,ok,q⟩:=h;have he:í [.Name n p2] X.env=[(false,eval (.Name n p2) X.env)]:=rfl;refine Ã4 (u30 I hg hm ?_ hdb);refine callWith_K (h₀:=X.base) I.ok.mod.kin hk ?_ he rfl;rw[he];refine Ð8 (thn (e20 (i:=i) hi hv d1 d2 pins s σ H (λv H'=>v=.ref a/\H'=H) I ⟨_,e,rfl,rfl⟩) λv s1 hr1=>?_);obtain⟨y,H1,I1,r1,rfl,rfl⟩:=hr1;cases (show v=Á9 a from r1);refine Ë8 ⟨I1.kIn,?_⟩;refine Ì5 (Å6 (F.run X.A X.stack s1 H1 ⟨[.ref a],[]⟩ [.ref a] [.ref a] Q _ hr I1.M81 (hb _ [.ref a] I1.kIn rfl) (.cons rfl .nil) (q s1 (th _ _ _ _ I1 _ _ _ ok))) λr s' hq=>?_);cases r with
 |error e=>exact è hq
 |ok fl =>
  cases fl with
  |ret u=>exact I1.after hq|next=>exact è hq
  |brk=>exact è hq|cont=>exact è hq
end
theorem PE.mp(h:PE X e t)(i:∀ σ H Q,t' σ H Q->t σ H Q):PE X e t':=λpins s σ H Q I q=>h pins s σ H Q I (i _ _ _ q)
structure LT where
 f:Addr
 c':Addr
 cl:List (Str × Addr)
 pm:Value
 ctv:Value
 lsc:Scope
 body:Expr
 N:List Str
def noArgs:Arguments:=⟨[],[],none,[],[],none,[]⟩
def LT.fd(t:LT)(qual:Str):FuncData:=kla_fn "<lambda>" qual noArgs t.body t.lsc t.cl t.pm (.ref t.c') t.ctv
structure LTf(X:Cx)(lsc:Scope)(N:List Str):Prop where
 hfr:∀ y∈lsc.names,y.2=.free->X.env.kindOf y.1=some .cell
 hnc:∀ y∈lsc.names,y.2≠.cell
 hNf:∀ x∈N,lsc.names.lookup x=some .free
 lk:lsc.kind=.function
 lco:lsc.isCoroutine=false
 lge:lsc.isGenerator=false
structure d31(X:Cx)(qual:Str)(H:Hp)(t:LT):Prop where
 form:LTf X t.lsc t.N
 fn:H t.f=some (.ext (fnAt t.f (t.fd qual)))
 rc:H t.c'=some (.ext (recAt t.c' qual))
 cl1:∀ x c,t.cl.lookup x=some c->X.env.cells.lookup x=some c
 cl2:∀ y∈t.lsc.names,y.2=.free->∃ c,t.cl.lookup y.1=some c
structure LTv(X:Cx)(σ:St)(t:LT)(vs:List V):Prop where
 len:vs.length=t.N.length
 vals:∀ (i:Nat) (x:Str) (v:V),t.N[i]?=some x->vs[i]?=some v->∃ j:Nat,X.N[j]?=some x/\σ[j]?=some (some v)
theorem d31.frees{X:Cx}{qual:Str}{σ:St}{H:Hp}{t:LT}{vs:List V}{pins:List (Æ × Obj)}{s:Å}(k:d31 X qual H t)(kv:LTv X σ t vs)(I:Inv X pins σ H s):q90 t.lsc t.cl t.N vs H s.heap:=by
 refine⟨λx y c e1 e2=>I.ok.inj x y c (k.cl1 x c e1) (k.cl1 y c e2),λx hx=>?_,λx c e=>I.cell x c (k.cl1 x c e),λx c e=>I.freeC x c (k.cl1 x c e),λi x v h1 h2=>?_,kv.len⟩
 ·rcases hx with hx | hx
  ·exact absurd rfl (k.form.hnc _ (À2 hx))
  ·exact k.cl2 _ (À2 hx) rfl
 ·have hf:=k.form.hNf x (Ü h1);have mem:=À2 hf;have kc:X.env.kindOf x=some .cell:=k.form.hfr _ mem rfl;obtain⟨j,e1,e2⟩:=kv.vals i x v h1 h2;obtain⟨m,_,hl⟩:=I.loc;obtain⟨u,r,l⟩:=hl j x v e1 e2 (Ò0 (Í2 kc));obtain⟨c2,ec2⟩:=k.cl2 _ mem rfl;refine⟨hf,c2,u,ec2,r,?_⟩;rcases l with ⟨kl,_⟩ | ⟨_,c3,ec3,z⟩
  ·rw[kc] at kl;cases kl
  ·have:=k.cl1 _ _ ec2;rw[ec3] at this;cases this;exact z
theorem q90.O61{scope:à}{cl:List (Str × Æ)}{N:List Str}{vs:List V}{H₀ H:Hp}{h₀ h:á}{fs ex:List Æ}(FR:q90 scope cl N vs H₀ h₀)(un:Un fs ex H₀ H h₀ h)(hx:∀ x c,cl.lookup x=some c->c ∉ ex):q90 scope cl N vs H h:=by
 have cel:∀ x c v,cl.lookup x=some c->h₀.IsCell c v->h.IsCell c v:=λx c v e ⟨o,ho,hd⟩=>by
  obtain⟨sl,e1⟩:=un.any ho (FR.free x c e) (hx x c e);exact⟨_,e1,hd⟩
 refine⟨FR.inj,FR.has,λx c e=>?_,λx c e=>?_,λi x v h1 h2=>?_,FR.len⟩
 ·obtain⟨v,z⟩:=FR.cell x c e;exact⟨v,cel x c v e z⟩
 ·obtain⟨v,o,ho,_⟩:=FR.cell x c e;exact un.free c o ho (FR.free x c e) (hx x c e)
 ·obtain⟨k,c,u,ec,r,z⟩:=FR.val i x v h1 h2;exact⟨k,c,u,ec,r,cel x c _ ec z⟩
def Raises(X:Cx)(qual:Str)(k:Nat)(H:Hp)(t:LT)(vs:List V)(cls:Ã)(RR:Hp->Prop):Prop:=∀ (A:ï) (outer:List Env) (s:Å) (H3:Hp),l20 k (A.deeper (envX qual t.lsc s.heap.objs.size t.f (.ref t.c') t.cl))->a10 H H3 ->
 ∃ u,PE (t10 X.prog X.w X.K X.mg X.base t.N qual t.lsc t.f (.ref t.c') t.cl A outer s H3 λc _ H'=>c=cls/\RR H') t.body u/\u (vs.map some) H3 λ_ _=>False
def r41(H:Hp)(qual:Str)(t:LT):Prop:=H t.f=some (.ext (fnAt t.f (t.fd qual)))/\H t.c'=some (.ext (recAt t.c' qual))
theorem P40{X:Cx}{qual:Str}{k:Nat}{H:Hp}{s:Å}{t:LT}{vs:List V}{cls:Ã}{RR:Hp->Prop}(fm:LTf X t.lsc t.N)(h:r41 H qual t)(FR:q90 t.lsc t.cl t.N vs H s.heap)(r:Raises X qual k H t vs cls RR):s20 X.prog X.w X.K X.mg X.base (k + 1) t.f H s cls RR :=
 V90 (FnL.at h.1) h.2 fm.lk fm.lco fm.lge fm.hnc rfl FR r
section
variable {X:Cx}{f:Æ}{fd:ø}{g par n qual:Str}{p p2 p3 pos ps:Pos}{k kr:Nat}{sp:Å->Sp}{src:Ê}{wi:TI}{sc:à}
def teL(X:Cx)(qual:Str)(k:Nat)(sp:Å->Sp)(σ1:St)(H1:Hp):TE:=λσ H Q=>∃ t vs cls RR,d31 X qual H1 t/\LTv X σ1 t vs/\σ[0]?=some (some (.ref t.f))/\r41 H qual t/\Raises X qual k H t vs cls RR/\∀ s2:Å,s20 X.prog X.w X.K X.mg X.base (k + 1) t.f H s2 cls RR->sp s2 [.ref t.f] H Q λ_ _ _=>False
theorem W00(hc:X.calm=true)(S:l60 X sc [n] [])(hi:PI X (.Name n p3) src wi)(F:y20 X.prog X.w X.K X.mg X.base CX0 kr f fd [par] sp)(hr:l20 kr X.A)(hg:∀ cl C s H fp,Gl (b60 X (c60 [n] []) sc cl C s H fp) g)(hm:X.mg g=some (.ref f))(hk:Ç7 X.K (.ref f)=true)(hb:Binds X.K fd [par] [])
  (hp:∀ cl C s H fp,PG (b60 X (c60 [n] []) sc cl C s H fp) (.Name n p3) (A80 0)) (hv:∀ cl C s H fp,Vis (b60 X (c60 [n] []) sc cl C s H fp).env.scope n) (d1:(n == ("__debug__":Str))=false) (d2:(n == ("__classdict__":Str))=false) (hdb:(g == ("__debug__":Str))=false) (hs:∀ x,Ä1 src X.env x=pure x) :
  PE X (.ListComp (.Call (.Name g p) [.Name n p2] [] pos) [⟨.Name n p3,src,[],0⟩] sc ps) (λσ H Q=>wi σ H λJ H1=>True/\U90 J [none] H1 (A80 0) a41 (teL X qual k sp σ H1) Q):=by
 refine o91 (te:=teL X qual k sp) (Cond:=λ_ _=>True) hc S hi hp (λ_ _ _ _ _=>a51) (λcl pins σ H s I hcl _ C fp hf=>?_) hs
 ·refine PE.mp (s30 (k:=k) (X:=b60 X (c60 [n] []) sc cl C s H fp) (Ok:=λa cls RR H'=>∃ t vs,d31 X qual H t/\LTv X σ t vs/\a=t.f/\r41 H' qual t/\Raises X qual k H' t vs cls RR) (i:=0) F hr (hg cl C s H fp) hm hk hb rfl (hv cl C s H fp) d1 d2 (λpins' σ' H' s' I' a cls RR ok=>?_) hdb) λσ' H' Q' q'=>?_
  ·obtain⟨t,vs,lt,lv,rfl,la,rs⟩:=ok;exact P40 (X:=X) lt.form la ((lt.frees lv I).O61 I'.base λx c e z=>(hf c z).2.2.2.2.1 x c (lt.cl1 x c e) rfl) rs
  ·obtain⟨t,vs,cls,RR,lt,lv,e,la,rs,q2⟩:=q';exact⟨t.f,cls,RR,e,⟨t,vs,lt,lv,rfl,la,rs⟩,q2⟩
end
structure w91(P:Program)(w:World)(K:PySem.W.Frag)(mg:Str->Option Value)(base:Heap)(k:Nat)(f:Addr)(H₀:Hp)(s₀:Shared)(gv:Hp->VK->Prop):Prop where
 fn:∃ fd,FnL P w H₀ s₀ f fd
 run:∀ (A:Around) (outer:List Env) (s:Shared) (H:Hp) (Q:VK),l20 k A->w01 P w K mg base A outer s H->Un (frs outer) [] H₀ H s₀.heap s.heap->a10 H₀ H->gv H Q ->
  codeAny (model P w) A (.call (.ref f) ⟨[],[]⟩) (CR (CX1 P w) outer P w H s Q λ_ _ _=>False) s
def Gives(X:Cx)(qual:Str)(k:Nat)(H:Hp)(t:LT)(vs:List V)(gv:Hp->VK->Prop):Prop:=∀ (A:ï) (outer:List Env) (s:Å) (H3:Hp) (Q:VK),l20 k (A.deeper (envX qual t.lsc s.heap.objs.size t.f (.ref t.c') t.cl))->a10 H H3->gv H3 Q ->
 ∃ u,PE (t10 X.prog X.w X.K X.mg X.base t.N qual t.lsc t.f (.ref t.c') t.cl A outer s H3 λ_ _ _=>False) t.body u/\u (vs.map some) H3 Q
theorem PE.weak{X:Cx}{e:Ê}{u:TE}(h:PE X e u):PE X e λσ H Q=>∃ Q0,u σ H Q0/\∀ v H1,Q0 v H1->Q v H1:=λpins s σ H Q I ⟨Q0,q,le⟩=>Á2 (h pins s σ H Q0 I q) (λv s' ⟨x,H',J,rv,q⟩=>⟨x,H',J,rv,le _ _ q⟩) λe s' he=>he
theorem Gives.weak{X:Cx}{qual:Str}{k:Nat}{H:Hp}{t:LT}{vs:List V}{gv:Hp->VK->Prop}(h:Gives X qual k H t vs gv):Gives X qual k H t vs λH1 Q=>∃ Q0,gv H1 Q0/\∀ v H2,Q0 v H2->Q v H2:=λA outer s H3 Q hr sm ⟨Q0,g,le⟩ =>
 let ⟨_,hu,q⟩:=h A outer s H3 Q0 hr sm g
 ⟨_,PE.weak hu,Q0,q,le⟩
theorem Gives.same{X:Cx}{qual:Str}{k:Nat}{H H':Hp}{t:LT}{vs:List V}{gv:Hp->VK->Prop}(h:Gives X qual k H t vs gv)(sm:a10 H H'):Gives X qual k H' t vs gv:=λA outer s H3 Q hr sm' g=>h A outer s H3 Q hr (sm.trans sm') g
theorem d41{X:Cx}{qual:Str}{k:Nat}{H:Hp}{s₀:Å}{t:LT}{vs:List V}{gv:Hp->VK->Prop}(fm:LTf X t.lsc t.N)(h:r41 H qual t)(FR:q90 t.lsc t.cl t.N vs H s₀.heap)(r:Gives X qual k H t vs gv):w91 X.prog X.w X.K X.mg X.base (k + 1) t.f H s₀ gv:=by
 refine⟨⟨_,FnL.at h.1⟩,λA outer s H3 Q hr e0 un sm hg=>?_⟩;obtain⟨c0,d0,sl,hof⟩:=FnL.at (P:=X.prog) (w:=X.w) (s₀:=s₀) h.1 outer s H3 un sm e0.hok;have hrec:s.heap.CodeRec (.ref t.c') qual:=(e0.hok t.c' _ (sm _ _ h.2)).1;have lim:s.heap.NoLimit:=e0.mod.nolimit.keeps λb o e=>(e0.bs b o e).1;refine kla_callFunE hr.depth hof rfl fm.lco fm.lge rfl hrec ?_;have hb:bindArgs (t.fd qual) ⟨[],[]⟩=pure []:=rfl;rw[hb];refine Ç (Ñ4 fm.hnc (λy hy=>absurd hy (by simp)) (λh₁ hns hsb=>⟨lim.fresh _ hsb,?_⟩) fm.lk)
 show Ì1 _ _ (.expr t.body (envX qual t.lsc s.heap.objs.size t.f (.ref t.c') t.cl)) _ _;have kp:∀ b o,s.heap.get? b=some o->h₁.get? b=some o:=λb o e=>hsb.extBut b o (â (Û e)) (Ä _ e);obtain⟨u,hu,hq⟩:=r A outer s H3 Q (hr.deeper _) sm hg;have I:Inv (t10 X.prog X.w X.K X.mg X.base t.N qual t.lsc t.f (.ref t.c') t.cl A outer s H3 λ_ _ _=>False) [] (vs.map some) H3 { s with heap:=h₁,toks:=s.toks + 0 }:=d01 e0 hr.hd fm.lk (FR.later un) hns kp;refine kla_codeExpr (Á2 (hu [] _ _ H3 _ I hq) (λv s' hv=>?_) λe s' he=>he);obtain⟨x,H',J,rv,q⟩:=hv;exact⟨x,H',J.os,J.bare,J.base,J.hok,rv,q⟩
section
variable {X:Cx}{i k:Nat}{y:Str}{p1 p2:Pos}{Ok:Æ->(Hp->VK->Prop)->Hp->Prop}
theorem d51(hr:l20 (k + 1) X.A)(hy:X.N[i]?=some y)(vy:Vis X.env.scope y)(dy:(y == ("__debug__":Str))=false)(cy:(y == ("__classdict__":Str))=false)
  (th:∀ pins σ H s,Inv X pins σ H s->∀ a gv,Ok a gv H->w91 X.prog X.w X.K X.mg X.base (k + 1) a H s gv):PE X (.Call (.Name y p1) [] [] p2) (λσ H Q=>∃ a gv,σ[i]?=some (some (.ref a))/\Ok a gv H/\gv H Q):=by
 intro pins s σ H Q I h;obtain⟨a,gv,e,ok,g⟩:=h;refine Ã4 (thn (e20 (i:=i) hy vy dy cy pins s σ H (λv H'=>v=.ref a/\H'=H) I ⟨_,e,rfl,rfl⟩) λv s1 hr1=>?_);obtain⟨x,H1,I1,r1,rfl,rfl⟩:=hr1;cases (show v=Á9 a from r1);have T1:=th pins σ H1 s1 I1 a gv ok;obtain⟨fd1,hfd1⟩:=T1.fn;obtain⟨c1,d1,sl1,hof1⟩:=hfd1 X.stack s1 H1 Un.refl (a10.refl H1) I1.hok;refine callWith_of (P:=λh=>h.get? a=some ⟨c1,d1,.func fd1,sl1⟩) rfl (λh e=>⟨.frame,.inl rfl,?_⟩) (evalArgs_nil3 ⟨hof1,?_⟩)
 ·exact(Ï2 (part:=none) e).andThen .now
 refine Ì5 (Å6 (T1.run X.A X.stack s1 H1 Q hr I1.M81 Un.refl (a10.refl H1) g) λr s2 hq=>?_);cases r with
 |ok fl =>
  cases fl with
  |ret u=>exact I1.after hq|next=>exact è hq
  |brk=>exact è hq|cont=>exact è hq
 |error e =>
  obtain⟨_,_,_,_,_,_,_,_,_,_,_,_,_,z⟩:=hq;exact z.elim
end
abbrev Z21:List Str:=["_law_call","_law_error","_law_marks"]
abbrev O71:Scope:={ kind:=.function,names:=[(".0",.local),("_law_k",.local),("_law_marks",.free)],isGenerator:=false,isCoroutine:=false,more:=[] }
abbrev p40:Scope:={ kind:=.function,names:=[("_law_call",.local),("_law_error",.local),("e",.local),("_law_marks",.cell),("ChanceError",.globalImplicit),("isinstance",.globalImplicit),("NoWeb",.globalImplicit),("NoLot",.globalImplicit),("NoPlaces",.globalImplicit),("NoPlace",.globalImplicit),("NoTie",.globalImplicit),("NoChance",.globalImplicit),("NoChances",.globalImplicit),("NoPaper",.globalImplicit),("TooMany",.globalImplicit),("NoText",.globalImplicit),("NoLine",.globalImplicit),("NoDeed",.globalImplicit),("ValueError",.globalImplicit),("range",.globalImplicit)],isGenerator:=false,isCoroutine:=false,more:=[("fast",.str "_law_call"),("fast",.str "_law_error"),("fast",.str "e"),("fast",.str "_law_marks"),("fast",.str "_law_k")] }
def L10(n:Nat):List Stmt:=[.Assign [(.Name "_law_error" ⟨n,4,n,14⟩)] (.Constant .none 0 ⟨n,17,n,21⟩) ⟨n,4,n,21⟩,
   .Try [.Expr (.Call (.Name "_law_call" ⟨n + 2,8,n + 2,17⟩) [] [] ⟨n + 2,8,n + 2,19⟩) ⟨n + 2,8,n + 2,19⟩] [.ExceptHandler (some (.Name "ChanceError" ⟨n + 3,11,n + 3,22⟩)) (some "e") [.Assign [(.Name "_law_error" ⟨n + 4,8,n + 4,18⟩)] (.Name "e" ⟨n + 4,21,n + 4,22⟩) ⟨n + 4,8,n + 4,22⟩] ⟨n + 3,4,n + 4,22⟩] [] [] ⟨n + 1,4,n + 4,22⟩,
   .Assign [(.Name "_law_marks" ⟨n + 5,4,n + 5,14⟩)] (.List [(.Call (.Name "isinstance" ⟨n + 5,18,n + 5,28⟩) [(.Name "_law_error" ⟨n + 5,29,n + 5,39⟩),(.Name "NoWeb" ⟨n + 5,41,n + 5,46⟩)] [] ⟨n + 5,18,n + 5,47⟩),(.Call (.Name "isinstance" ⟨n + 5,49,n + 5,59⟩) [(.Name "_law_error" ⟨n + 5,60,n + 5,70⟩),(.Name "NoLot" ⟨n + 5,72,n + 5,77⟩)] [] ⟨n + 5,49,n + 5,78⟩),(.Call (.Name "isinstance" ⟨n + 5,80,n + 5,90⟩) [(.Name "_law_error" ⟨n + 5,91,n + 5,101⟩),(.Name "NoPlaces" ⟨n + 5,103,n + 5,111⟩)] [] ⟨n + 5,80,n + 5,112⟩)] ⟨n + 5,17,n + 5,113⟩) ⟨n + 5,4,n + 5,113⟩,
   .Assign [(.Name "_law_marks" ⟨n + 6,4,n + 6,14⟩)] (.BinOp (.Name "_law_marks" ⟨n + 6,17,n + 6,27⟩) .Add (.List [(.Call (.Name "isinstance" ⟨n + 6,31,n + 6,41⟩) [(.Name "_law_error" ⟨n + 6,42,n + 6,52⟩),(.Name "NoPlace" ⟨n + 6,54,n + 6,61⟩)] [] ⟨n + 6,31,n + 6,62⟩),(.Call (.Name "isinstance" ⟨n + 6,64,n + 6,74⟩) [(.Name "_law_error" ⟨n + 6,75,n + 6,85⟩),(.Name "NoTie" ⟨n + 6,87,n + 6,92⟩)] [] ⟨n + 6,64,n + 6,93⟩),(.Call (.Name "isinstance" ⟨n + 6,95,n + 6,105⟩) [(.Name "_law_error" ⟨n + 6,106,n + 6,116⟩),(.Name "NoChance" ⟨n + 6,118,n + 6,126⟩)] [] ⟨n + 6,95,n + 6,127⟩)] ⟨n + 6,30,n + 6,128⟩) ⟨n + 6,17,n + 6,128⟩) ⟨n + 6,4,n + 6,128⟩,
   .Assign [(.Name "_law_marks" ⟨n + 7,4,n + 7,14⟩)] (.BinOp (.Name "_law_marks" ⟨n + 7,17,n + 7,27⟩) .Add (.List [(.Call (.Name "isinstance" ⟨n + 7,31,n + 7,41⟩) [(.Name "_law_error" ⟨n + 7,42,n + 7,52⟩),(.Name "NoChances" ⟨n + 7,54,n + 7,63⟩)] [] ⟨n + 7,31,n + 7,64⟩),(.Call (.Name "isinstance" ⟨n + 7,66,n + 7,76⟩) [(.Name "_law_error" ⟨n + 7,77,n + 7,87⟩),(.Name "NoPaper" ⟨n + 7,89,n + 7,96⟩)] [] ⟨n + 7,66,n + 7,97⟩),(.Call (.Name "isinstance" ⟨n + 7,99,n + 7,109⟩) [(.Name "_law_error" ⟨n + 7,110,n + 7,120⟩),(.Name "TooMany" ⟨n + 7,122,n + 7,129⟩)] [] ⟨n + 7,99,n + 7,130⟩)] ⟨n + 7,30,n + 7,131⟩) ⟨n + 7,17,n + 7,131⟩) ⟨n + 7,4,n + 7,131⟩,
   .Assign [(.Name "_law_marks" ⟨n + 8,4,n + 8,14⟩)] (.BinOp (.Name "_law_marks" ⟨n + 8,17,n + 8,27⟩) .Add (.List [(.Call (.Name "isinstance" ⟨n + 8,31,n + 8,41⟩) [(.Name "_law_error" ⟨n + 8,42,n + 8,52⟩),(.Name "NoText" ⟨n + 8,54,n + 8,60⟩)] [] ⟨n + 8,31,n + 8,61⟩),(.Call (.Name "isinstance" ⟨n + 8,63,n + 8,73⟩) [(.Name "_law_error" ⟨n + 8,74,n + 8,84⟩),(.Name "NoLine" ⟨n + 8,86,n + 8,92⟩)] [] ⟨n + 8,63,n + 8,93⟩),(.Call (.Name "isinstance" ⟨n + 8,95,n + 8,105⟩) [(.Name "_law_error" ⟨n + 8,106,n + 8,116⟩),(.Name "NoDeed" ⟨n + 8,118,n + 8,124⟩)] [] ⟨n + 8,95,n + 8,125⟩)] ⟨n + 8,30,n + 8,126⟩) ⟨n + 8,17,n + 8,126⟩) ⟨n + 8,4,n + 8,126⟩,
   .If (.UnaryOp .Not (.Call (.Name "isinstance" ⟨n + 9,11,n + 9,21⟩) [(.Name "_law_error" ⟨n + 9,22,n + 9,32⟩),(.Name "ValueError" ⟨n + 9,34,n + 9,44⟩)] [] ⟨n + 9,11,n + 9,45⟩) ⟨n + 9,7,n + 9,45⟩) [.Return (some (.Constant .none 0 ⟨n + 10,15,n + 10,19⟩)) ⟨n + 10,8,n + 10,19⟩] [] ⟨n + 9,4,n + 10,19⟩,
   .Return (some (.ListComp (.Name "_law_k" ⟨n + 11,12,n + 11,18⟩) [{ target:=(.Name "_law_k" ⟨n + 11,23,n + 11,29⟩),iter:=(.Call (.Name "range" ⟨n + 11,33,n + 11,38⟩) [(.Constant (.int 12) 0 ⟨n + 11,39,n + 11,41⟩)] [] ⟨n + 11,33,n + 11,42⟩),ifs:=[(.Subscript (.Name "_law_marks" ⟨n + 11,46,n + 11,56⟩) (.Name "_law_k" ⟨n + 11,57,n + 11,63⟩) ⟨n + 11,46,n + 11,64⟩)],is_async:=0 }] O71 ⟨n + 11,11,n + 11,65⟩)) ⟨n + 11,4,n + 11,65⟩]
theorem O81:b81 O71 p40 Z21 ["_law_k"] [("_law_marks",2)]=true:=by decide +kernel
theorem r51(K:À)(hK:X.K=K:=by rfl):IxR X (l92 K):=by subst hK;exact K40
abbrev names12:List Str:=["NoWeb","NoLot","NoPlaces","NoPlace","NoTie","NoChance","NoChances","NoPaper","TooMany","NoText","NoLine","NoDeed"]
structure v70(K:PySem.W.Frag)(mg:Str->Option Value)(C:Addr)(j:Nat):Prop where
 cl:∀ (i:Nat) (x:Str),names12[i]?=some x->∃ Ci,mg x=some (.ref Ci)/\PySem.W.kitOne K (.ref C) (.ref Ci)=some (decide (i=j))
 lk:h20 K C
 hd:PySem.W.hasDictIn K C=true
 ve:PySem.W.kitOne K (.ref C) (.type "ValueError")=some true
 nv:mg "ValueError"=none
 ce:∃ D,mg "ChanceError"=some (.ref D)/\PySem.W.exmOne K (.ref C) (.ref D)=some true
 lt:j < 12
theorem H60:é "ValueError"=some (.type "ValueError"):=by decide +kernel
theorem D00:é "isinstance"=some (.builtin "isinstance"):=by decide +kernel
def D11(P:Ø)(w:ì)(K:À)(mg:Str->Option Ã)(base:á)(k:Nat):Å->Sp:=λs vs H Q _=>∃ (f C:Æ) (j:Nat) (RR:Hp->Prop),vs=[.ref f]/\s20 P w K mg base k f H s (.ref C) RR/\v70 K mg C j/\∀ l H1 H',RR H1->a10 H1 H'->H' l=none->Q (.ref l) (upd H' l (.lst [.int j]))
abbrev v80(j:Nat):List V:=[V.bl (decide (0=j)),.bl (decide (1=j)),.bl (decide (2=j))]++[.bl (decide (3=j)),.bl (decide (4=j)),.bl (decide (5=j))]++[.bl (decide (6=j)),.bl (decide (7=j)),.bl (decide (8=j))]++[.bl (decide (9=j)),.bl (decide (10=j)),.bl (decide (11=j))]
theorem r61{i j:Nat}(h:i < 12):atI (v80 j) (0 + (i:Int))=some (.bl (decide (i=j))):=by
 rw[Int.zero_add];refine B30 ?_;rw[show v80 j=(ñ 12).map λi=>V.bl (decide (i=j)) from rfl,Ù,List.getElem?_range h];rfl
section
variable {P:Ø}{w:ì}{K:À}{mg:Str->Option Ã}{base:á}
theorem scR:h00 Z21 ["_law_call"] p40:=⟨rfl,rfl,rfl,by decide +kernel,rfl,by decide +kernel,by decide +kernel⟩
theorem ndR:(c60 ["_law_k"] [("_law_marks",2)]).Nodup:=by decide +kernel
def tIs(K:À)(c:V)(cv:Ã):TE:=λσ H Q=>∃ (a C:Æ) (b:Bool),σ[1]?=some (some (.ref a))/\O41 H a C/\h20 K C/\PySem.W.hasDictIn K C=true/\É6 K (.ref C) cv=some b/\Q (.bl b) H
def q62(K:À)(c0 c1 c2:Æ):TE:=λσ H Q=>∃ (a C:Æ) (b0 b1 b2:Bool),σ[1]?=some (some (.ref a))/\O41 H a C/\h20 K C/\PySem.W.hasDictIn K C=true/\É6 K (.ref C) (.ref c0)=some b0/\É6 K (.ref C) (.ref c1)=some b1/\É6 K (.ref C) (.ref c2)=some b2/\∀ l,H l=none->Q (.ref l) (upd H l (.lst [.bl b0,.bl b1,.bl b2]))
section
variable {X:Cx}{c0 c1 c2:Æ}{x x0 x1 x2:Str}{p p0 p1 p2 p3 q0 q1 q2 q3 r0 r1 r2 r3:Pos}
theorem r71(hN:X.N[1]?=some ("_law_error":Str))(hv:Vis X.env.scope "_law_error")(hi:Gl X "isinstance")(Ti:X.mg "isinstance"=none)(hc:PE X (.Name x p2) (tC c))(hcv:(∃ C,c=.ref C/\cv=.ref C)∨∃ T,c=.ty T/\cv=.type T):PE X (.Call (.Name "isinstance" p0) [.Name "_law_error" p1,.Name x p2] [] p3) (tIs X.K c cv) :=
 λpins s σ H Q I q=>by
  obtain⟨a,C,b,e,h1,h2,h3,h4,h5⟩:=q;have g:=t60 (p:=p0) (pos:=p3) V70 hi Ti D00 (c40 (e20 (i:=1) (pos:=p1) hN hv) (c40 hc h80));exact g pins s σ H Q I ⟨_,e,a,C,_,_,b,rfl,hcv,h1,h2,h3,h4,h5⟩
theorem P50(hN:X.N[1]?=some ("_law_error":Str))(hv:Vis X.env.scope "_law_error")(hi:Gl X "isinstance")(Ti:X.mg "isinstance"=none)(g0:PE X (.Name x0 p2) (tC (.ref c0)))(g1:PE X (.Name x1 q2) (tC (.ref c1)))(g2:PE X (.Name x2 r2) (tC (.ref c2))) :
  PE X (.List [.Call (.Name "isinstance" p0) [.Name "_law_error" p1,.Name x0 p2] [] p3,.Call (.Name "isinstance" q0) [.Name "_law_error" q1,.Name x1 q2] [] q3,.Call (.Name "isinstance" r0) [.Name "_law_error" r1,.Name x2 r2] [] r3] p) (q62 X.K c0 c1 c2) :=
 λpins s σ H Q I q=>by
  obtain⟨a,C,b0,b1,b2,e,h1,h2,h3,k0,k1,k2,h5⟩:=q;exact O80 (c40 (r71 hN hv hi Ti g0 (.inl ⟨c0,rfl,rfl⟩)) (c40 (r71 hN hv hi Ti g1 (.inl ⟨c1,rfl,rfl⟩)) (c40 (r71 hN hv hi Ti g2 (.inl ⟨c2,rfl,rfl⟩)) h80))) pins s σ H Q I
   ⟨a,C,b0,e,h1,h2,h3,k0,a,C,b1,e,h1,h2,h3,k1,a,C,b2,e,h1,h2,h3,k2,q80 (by show 3<=64;decide),h5⟩
end
theorem O91{st:À0}{f:Æ}{fd:ø}{k n:Nat}(F:Fun K "_law_refused" "_law_refused" st f fd)(es:b10 st=p40)(eb:f50 st=L10 n)(Ti:mg "isinstance"=none)(Tr:mg "range"=none):y20 P w K mg base CX0 (k + 1) f fd ["_law_call"] (D11 P w K mg base k):=by
 refine F.okS (by rw[es];exact scR) (λs vs H Q E h=>?_) (λcdv A outer s H vs Q E hr h=>?_)
 ·obtain⟨f,C,j,RR,rfl,_⟩:=h;rfl
 ·obtain⟨g,C,j,RR,rfl,th,R,q⟩:=h;have hsc:=O81;rw[es] at hr;rw[es,eb];unfold L10;clear eb;obtain⟨c0,m0,k0⟩:=R.cl 0 _ rfl;obtain⟨c1,m1,k1⟩:=R.cl 1 _ rfl;obtain⟨c2,m2,k2⟩:=R.cl 2 _ rfl;obtain⟨c3,m3,k3⟩:=R.cl 3 _ rfl;obtain⟨c4,m4,k4⟩:=R.cl 4 _ rfl;obtain⟨c5,m5,k5⟩:=R.cl 5 _ rfl;obtain⟨c6,m6,k6⟩:=R.cl 6 _ rfl;obtain⟨c7,m7,k7⟩:=R.cl 7 _ rfl;obtain⟨c8,m8,k8⟩:=R.cl 8 _ rfl;obtain⟨c9,m9,k9⟩:=R.cl 9 _ rfl;obtain⟨c10,m10,k10⟩:=R.cl 10 _ rfl;obtain⟨c11,m11,k11⟩:=R.cl 11 _ rfl;obtain⟨D,mD,kD⟩:=R.ce;refine⟨_,d50 (n50 (i:=1) scR.nd rfl (Í2 rfl) O30)
   (d50 (d11 (i:=0) (j:=1) (f:=g) (C:=C) (D:=D) (k:=k) rfl rfl rfl hr th rfl (Í2 rfl) (-0) (-0) rfl mD (-0) kD rfl (by show ¬ (("e":Str)∈Z21);decide +kernel) (-0) scR.nd rfl (Í2 rfl) rfl)
   (d50 (n50 (i:=2) scR.nd rfl (Ò0 rfl) (P50 rfl (Í2 rfl) rfl Ti (e50 rfl m0 rfl) (e50 rfl m1 rfl) (e50 rfl m2 rfl)))
   (d50 (n50 (i:=2) scR.nd rfl (Ò0 rfl) (n71 a01 (pv 2) (P50 rfl (Í2 rfl) rfl Ti (e50 rfl m3 rfl) (e50 rfl m4 rfl) (e50 rfl m5 rfl))))
   (d50 (n50 (i:=2) scR.nd rfl (Ò0 rfl) (n71 a01 (pv 2) (P50 rfl (Í2 rfl) rfl Ti (e50 rfl m6 rfl) (e50 rfl m7 rfl) (e50 rfl m8 rfl))))
   (d50 (n50 (i:=2) scR.nd rfl (Ò0 rfl) (n71 a01 (pv 2) (P50 rfl (Í2 rfl) rfl Ti (e50 rfl m9 rfl) (e50 rfl m10 rfl) (e50 rfl m11 rfl))))
   (d50 (Y40 (v41 (O40 (r71 (cv:=.type "ValueError") rfl (Í2 rfl) rfl Ti (A50 (v:=.ty "ValueError") rfl R.nv H60 rfl) (.inr ⟨_,rfl,rfl⟩)))) (A60 (y50 O30)) u40)
   (A60 (y50 (a71 (own:=["_law_k"]) (capt:=[("_law_marks",2)]) rfl (by exact l60.of (scX:=p40) (N:=Z21) rfl rfl hsc) (F70 rfl Tr (c40 F50 h80))
    (λcl C s H fp=>K20 (i:=0) ndR rfl (Í2 rfl)) (λcl C s H fp=>a61 (O40 (B11 (r51 K) (pv 1) (pv 0) (λ_ _=>rfl)))) (λcl C s H fp=>pv 0)))))))))),?_⟩
  refine⟨rfl,a10.refl H,λa H1 s1 na=>?_⟩;have hX:O41 (upd H1 a (.ext (excAt a C))) a C:=a90;have keep:∀ {H'},a10 (upd H1 a (.ext (excAt a C))) H'->O41 H' a C:=λsm=>sm _ _ hX;refine⟨a,C,_,_,_,rfl,hX,R.lk,R.hd,k0,k1,k2,λl1 hl1=>?_⟩;have t1:=a10.new (.lst [.bl (decide (0=j)),.bl (decide (1=j)),.bl (decide (2=j))]) hl1;refine⟨_,rfl,a,C,_,_,_,rfl,keep t1,R.lk,R.hd,k3,k4,k5,λl2 hl2=>?_⟩;have t2:=a10.new (.lst [.bl (decide (3=j)),.bl (decide (4=j)),.bl (decide (5=j))]) hl2;refine⟨l1,l2,_,_,rfl,rfl,t2 _ _ a90,a90,q80 (by show 3 + 3<=64;decide),λl3 hl3=>?_⟩
  have t3:=t1.trans (t2.trans (a10.new (.lst ([.bl (decide (0=j)),.bl (decide (1=j)),.bl (decide (2=j))]++[.bl (decide (3=j)),.bl (decide (4=j)),.bl (decide (5=j))])) hl3));refine⟨_,rfl,a,C,_,_,_,rfl,keep t3,R.lk,R.hd,k6,k7,k8,λl4 hl4=>?_⟩;have t4:=a10.new (.lst [.bl (decide (6=j)),.bl (decide (7=j)),.bl (decide (8=j))]) hl4;refine⟨l3,l4,_,_,rfl,rfl,t4 _ _ a90,a90,q80 (by show 6 + 3<=64;decide),λl5 hl5=>?_⟩
  have t5:=t3.trans (t4.trans (a10.new (.lst ([.bl (decide (0=j)),.bl (decide (1=j)),.bl (decide (2=j))]++[.bl (decide (3=j)),.bl (decide (4=j)),.bl (decide (5=j))]++[.bl (decide (6=j)),.bl (decide (7=j)),.bl (decide (8=j))])) hl5));refine⟨_,rfl,a,C,_,_,_,rfl,keep t5,R.lk,R.hd,k9,k10,k11,λl6 hl6=>?_⟩;have t6:=a10.new (.lst [.bl (decide (9=j)),.bl (decide (10=j)),.bl (decide (11=j))]) hl6;refine⟨l5,l6,_,_,rfl,rfl,t6 _ _ a90,a90,q80 (by show 9 + 3<=64;decide),λl7 hl7=>?_⟩
  have t7:=t5.trans (t6.trans (a10.new (.lst (v80 j)) hl7));refine⟨a,C,_,rfl,keep t7,R.lk,R.hd,R.ve,_,rfl,m02 ?_⟩;refine⟨12,rfl,by decide,by decide,q41 (lo:=0) (n:=12) (λi ys H'=>a10 (upd H1 a (.ext (excAt a C))) H'/\H' l7=some (.lst (v80 j))/\ys=if j < i then [.int j] else []) (q80 (-0)) ⟨t7,a90,by rw[if_neg ∅]⟩ (λi ys H' p=>by rw[p.2.2];split <;> simp <;> omega) ?_ ?_⟩
  ·rintro i ys H' hi ⟨s8,h8,rfl⟩;refine gN ?_;refine⟨_,rfl,_,rfl,l7,v80 j,0 + (i:Int),.bl (decide (i=j)),rfl,rfl,SqL.of h8,r61 hi,_,rfl,?_⟩;refine q12 (λe=>?_) (λe=>?_)
   ·have ej:i=j:=of_decide_eq_true e;subst ej;refine⟨_,rfl,s8,h8,?_⟩;rw[if_neg ∅,if_pos ∅,Int.zero_add];rfl
   ·have ej:¬ i=j:=λz=>e (decide_eq_true z);refine⟨s8,h8,?_⟩;by_cases hj:j < i
    ·rw[if_pos hj,if_pos ∅]
    ·rw[if_neg hj,if_neg ∅]
  ·rintro ys H' p ⟨s8,_,rfl⟩ hp;rw[if_pos R.lt];exact q p H1 H' s1 ((a10.new _ na).trans s8) hp
end
end L2
namespace Q
open PySem L2
abbrev Z:=Option (Int × Bool)
inductive S where
 |d (x:D) | fr (xs:List D) | z
inductive R (α:Type) where
 |ok (a:α) (z:Z) | er (c:Nat) (z:Z)
abbrev M(α:Type):=Z->Option (R α)
def M.ret{α:Type}(a:α):M α:=λz=>some (.ok a z)
def M.no{α:Type}:M α:=λ_=>none
def M.of{α:Type}:Option α->M α
 |some a=>M.ret a|none=>M.no
def M.bind{α β:Type}(m:M α)(f:α->M β):M β:=λz=>match m z with
 |some (.ok a z1)=>f a z1|some (.er c z1)=>some (.er c z1)|none=>none
def M.calm{α:Type}(m:M α):M α:=λz=>match m z with
 |some (.ok a z1)=>some (.ok a z1)|_=>none
abbrev Env:=List (Option S)
def pl:List S->Option D
 |[.d x]=>some x|[.fr xs]=>some (.lst xs)|_=>none
def one:List S->Option S
 |[s]=>some s|_=>none
def plS:S->S
 |.fr xs=>.d (.lst xs)|s=>s
def plD:S->Option D
 |.d x=>some x|.fr xs=>some (.lst xs)|_=>none
def plA:List S->Option (List D)
 |[]=>some []|.d x::r=>(plA r).map (x::·)|.fr xs::r=>(plA r).map (.lst xs::·)|_::_=>none
inductive Bi where
 |add | sub | mul | fdiv | mod | pow
inductive Cm where
 |eq | ne | lt | le | gt | ge | is | mem
inductive Bf where
 |len | sorted | tuple | list | min | max | all | int | sset | Z11
inductive Ty where
 |int | bool | tuple | list | str | seq
inductive Pat where
 |v (i:Nat) | tup (ps:Pat) | nil | cons (p r:Pat)
inductive It where
 |seq | rng1 | rng2 | zip
 |enum
inductive Ex where
 |nil | cons (a r:Ex)
 |var (i:Nat) | con (x:D) | gint (g:Str) (i:Int)
 |tup (as:Ex) | lst (as:Ex)
 |bin (o:Bi) (a b:Ex) | cmp (o:Cm) (a b:Ex) | neg (a:Ex)
 |not (a:Ex) | and (a b:Ex) | or (a b:Ex) | orT (a b:Ex) | ite (c a b:Ex)
 |ch (o o':Cm) (a b c:Ex)
 |bf (f:Bf) (as:Ex) | isi (t:Ty) (a:Ex)
 |idx (a i:Ex) | sl (a lo hi:Ex)
 |call (f:Nat) (as:Ex)
 |comp (own:Nat) (capt:List Nat) (p:Pat) (it:It) (src cond el:Ex)
 |zget (i k:Nat) | lrng (b:Bool) (as:Ex)
 |rgt (capt:List Nat) (a b:Ex) (sm:Nat)
abbrev most:Nat:=100000
def d61:Nat:=2 ^ 4000
mutual
noncomputable def eqD:D->D->Bool
 |.non,.non=>true|.bl a,.bl b=>a == b|.int a,.int b=>a == b|.str a,.str b=>a == b|.bl a,.int b=>(if a then 1 else 0) == b|.int a,.bl b=>a == (if b then 1 else 0)|.tup a,.tup b=>J71 a b|.lst a,.lst b=>J71 a b|.dct,.dct=>true|_,_=>false
noncomputable def J71:List D->List D->Bool
 |[],[]=>true|a::r,b::q=>eqD a b&&J71 r q|_,_=>false
end
mutual
noncomputable def ltD:D->D->Option Bool
 |.int a,.int b=>some (decide (a < b))|.tup a,.tup b=>D21 a b|_,_=>none
noncomputable def D21:List D->List D->Option Bool
 |[],[]=>some false|[],_::_=>some true|_::_,[]=>some false|a::r,b::q=>if eqD a b then D21 r q else ltD a b
end
mutual
noncomputable def s40:D->Bool
 |.dct=>false|.tup l=>h60 l|.lst l=>h60 l|.str x=>PyData.strOk x|_=>true
noncomputable def h60:List D->Bool
 |[]=>true|x::r=>s40 x&&h60 r
end
mutual
noncomputable def deep:D->Nat
 |.tup l=>j40 l + 1|.lst l=>j40 l + 1|_=>0
noncomputable def j40:List D->Nat
 |[]=>0|x::r=>Nat.max (deep x) (j40 r)
end
def okD(d:D):Bool:=s40 d&&decide (deep d<=40)
def Z31(l:List D):Bool:=h60 l&&decide (j40 l<=39)
theorem f60{c:Prop}[Decidable c]{α:Type}{a:Option α}{b:α}(h:(if c then a else none)=some b):c/\a=some b:=by
 by_cases k:c
 ·rw[if_pos k] at h;exact⟨k,h⟩
 ·rw[if_neg k] at h;cases h
def eqO(a b:D):Option Bool:=if okD a&&okD b then some (eqD a b) else none
def eqE:D->D->Option Bool
 |.tup l,.tup []=>some l.isEmpty|_,_=>none
def eqQ(a b:D):Option Bool:=if okD a&&okD b then some (eqD a b) else eqE a b
def ltO(a b:D):Option Bool:=if okD a&&okD b then ltD a b else none
def memD(x:D)(l:List D):Bool:=l.any λy=>eqD y x
def Z41(x:D)(l:List D):Option Bool:=if okD x&&Z31 l then some (memD x l) else none
def L20:List D->Option (List Int)
 |[]=>some []|.int i::r=>(L20 r).map (i::·)|_=>none
def W10:Bi->D->D->Option S
 |.add,.int i,.int j=>some (.d (.int (i + j)))|.add,.tup a,.tup b=>if a.length + b.length<=most then some (.d (.tup (a++b))) else none|.add,.lst a,.lst b=>if a.length + b.length<=most then some (.fr (a++b)) else none|.sub,.int i,.int j=>some (.d (.int (i - j)))|.mul,.int i,.int j=>if i.natAbs < d61/\j.natAbs < d61 then some (.d (.int (i * j))) else none|.mul,.tup a,.int j=>if 0<=j/\j.toNat * a.length<=most/\j < 1000000 then some (.d (.tup (ã j.toNat a).flatten)) else none|.mul,.lst a,.int j=>if 0<=j/\j.toNat * a.length<=most/\j < 1000000 then some (.fr (ã j.toNat a).flatten) else none|.fdiv,.int i,.int j=>if 0 < j/\j.natAbs < d61 then some (.d (.int (i / j))) else none|.mod,.int i,.int j=>if 0 < j then some (.d (.int (i % j))) else none|.pow,.int i,.int j=>if 0<=j/\j<=1000/\i.natAbs < 2 ^ 64 then some (.d (.int (i ^ j.toNat))) else none|_,_,_=>none
def h90:D->Bool
 |.non=>true|_=>false
def neO:D->D->Option Bool
 |.dct,.tup _=>some true|a,b=>(eqO a b).map (!·)
def q40:Cm->D->D->Option Bool
 |.eq,a,b=>eqQ a b|.ne,a,b=>neO a b|.lt,a,b=>ltO a b|.gt,.int a,.int b=>some (decide (b < a))|.le,.int a,.int b=>some (decide (a<=b))|.le,.tup a,.tup b=>(L20 a).bind λns=>(L20 b).map λms=>HT.leB ns ms|.ge,.int a,.int b=>some (decide (b<=a))|.is,.bl a,.bl b=>some (a == b)|.is,a,.non=>some (h90 a)|.mem,a,.tup l=>Z41 a l|.mem,a,.lst l=>Z41 a l|_,_,_=>none
def J81:Ty->D->Bool
 |.int,.int _=>true|.int,.bl _=>true|.bool,.bl _=>true|.tuple,.tup _=>true|.list,.lst _=>true|.str,.str _=>true|.seq,.tup _=>true|.seq,.lst _=>true|_,_=>false
def asB:D->Option Bool
 |.bl b=>some b|_=>none
def P01:D->Option (List D)
 |.tup l=>some l|_=>none
def asI:D->Option Int
 |.int i=>some i|_=>none
def r81:D->Option (List D)
 |.tup l=>some l|.lst l=>some l|_=>none
mutual
noncomputable def flt:D->List Int
 |.int i=>[i]|.tup l=>m22 l|_=>[]
noncomputable def m22:List D->List Int
 |[]=>[]|x::r=>flt x++m22 r
end
mutual
noncomputable def eqT:D->D->Bool
 |.int i,.int j=>i == j|.tup a,.tup b=>r91 a b|_,_=>false
noncomputable def r91:List D->List D->Bool
 |[],[]=>true|x::r,y::q=>eqT x y&&r91 r q|_,_=>false
end
def P60:D->Nat
 |.int _=>0|.tup (.int _::_)=>1|.tup (.tup _::_)=>2|_=>3
def e30(x y:D):Bool:=P60 y == P60 x&&(ltD x y == some (MySort.f80 (flt x) (flt y))&&(eqT x y || !(flt x == flt y)))
def l70(l:List D):Bool:=l.all λx=>decide (P60 x < 3)&&(okD x&&l.all (e30 x))
def d71(k:D):List D->List D
 |[]=>[k]|y::r=>if MySort.f80 (flt y) (flt k) then y::d71 k r else k::y::r
def d70:List D->List D
 |[]=>[]|k::r=>d71 k (d70 r)
def d42(_:List D):Option (List D):=none
abbrev d52(l:List D):Option (List D):=d42 l
def sortedS(x:D):Option S:=(r81 x).bind λl=>if l.length < 64/\l70 l=true then some (.fr (d70 l)) else(d52 l).map S.fr
def bfD:Bf->List D->Option S
 |.len,[x]=>(r81 x).map λl=>.d (.int l.length)|.tuple,[x]=>(r81 x).map λl=>.d (.tup l)|.list,[x]=>(r81 x).map λl=>.fr l|.all,[.lst l]=>(l.mapM asB).map λbs=>.d (.bl (bs.all id))|.sorted,[x]=>sortedS x|.min,[.int i,.int j]=>some (.d (.int (if j < i then j else i)))|.max,[.int i,.int j]=>some (.d (.int (if j > i then j else i)))|.int,[.bl b]=>some (.d (.int (if b then 1 else 0)))|.int,[.int i]=>some (.d (.int i))|_,_=>none
def d81:D->D->Option D
 |.tup l,.int i=>atI l i|.lst l,.int i=>atI l i|_,_=>none
def cutD(l:List D)(lo hi:Option Int):List D:=(l.drop (HT.sIx l.length 0 lo)).take (HT.sIx l.length l.length hi - HT.sIx l.length 0 lo)
def slD:D->Option Int->Option Int->Option S
 |.tup l,lo,hi=>some (.d (.tup (cutD l lo hi)))|.lst l,lo,hi=>some (.fr (cutD l lo hi))|_,_,_=>none
def d91:List S->Option (Option Int)
 |[]=>some none|[.d (.int i)]=>some (some i)|_=>none
def o20:List D->Nat->List D
 |[],_=>[]|x::r,i=>.tup [.int i,x]::o20 r (i + 1)
def t20:List D->List D->List D
 |x::r,y::q=>.tup [x,y]::t20 r q|_,_=>[]
def inR:Int->Bool
 |.ofNat n=>Nat.blt n 100000|.negSucc n=>Nat.blt n 99999
theorem v90:inR j=true↔-100000 < j/\j < 100000:=by
 cases j with
 |ofNat n=>show ble (n + 1) 100000=true↔_;rw[Nat.ble_eq];show _↔-100000 < (n:Int)/\(n:Int) < 100000;omega|negSucc n=>show ble (n + 1) 99999=true↔_;rw[Nat.ble_eq,Int.negSucc_eq];omega
def itD:It->List D->Option (List D)
 |.seq,[x]=>r81 x|.rng1,[.int j]=>if inR j=true then some ((ñ j.toNat).map λ(i:Nat)=>D.int i) else none|.rng2,[.int i,.int j]=>if inR i=true/\inR j=true then some ((ñ (j - i).toNat).map λ(k:Nat)=>D.int (i + k)) else none|.zip,[.tup a,.tup b]=>some (t20 a b)|.zip,[.lst a,.lst b]=>some (t20 a b)|.enum,[.tup a]=>some (o20 a 0)|.enum,[.lst a]=>some (o20 a 0)|_,_=>none
def lrS:Bool->List D->S
 |true,xs=>.d (.tup xs)|false,xs=>.fr xs
def lrN:Bool->Str
 |true=>"tuple"|false=>"list"
def lrD:List D->Option (List D)
 |[x]=>itD .rng1 [x]|l=>itD .rng2 l
mutual
noncomputable def e60:Pat->D->Env->Option Env
 |.v i=>λx ρ=>some (ρ.set i (some (.d x)))
 |.tup ps=>λx ρ=>match x with
  |.tup l=>bindL ps l ρ|_=>none
 |.nil=>λ_ _=>none|.cons _ _=>λ_ _=>none
noncomputable def bindL:Pat->List D->Env->Option Env
 |.nil=>λl ρ=>match l with
  |[]=>some ρ|_=>none
 |.cons p r=>λl ρ=>match l with
  |x::l=>(e60 p x ρ).bind λρ=>bindL r l ρ|_=>none
 |.v _=>λ_ _=>none|.tup _=>λ_ _=>none
end
def turns(f:D->M (Option D)):List D->M (List D)
 |[]=>M.ret []|x::r=>M.bind (f x) λo=>M.bind (turns f r) λl=>M.ret (match o with | some y=>y::l | none=>l)
def t30(fc fe:Env->M (List S))(p:Pat)(ρ0:Env)(x:D):M (Option D):=M.bind (M.of (e60 p x ρ0)) λρ'=>M.bind (fc ρ') λc=>match c with
 |[]=>M.bind (fe ρ') λy=>M.bind (M.of (pl y)) λy=>M.ret (some y)|[.d (.bl true)]=>M.bind (fe ρ') λy=>M.bind (M.of (pl y)) λy=>M.ret (some y)|[.d (.bl false)]=>M.ret none|_=>M.no
def e01(k:Nat):Option (Option S)->Z->Option (R (List S))
 |some (some .z),some p=>if k=0 then some (.ok [.d (.int p.1)] (some p)) else if k=1 then some (.ok [.d (.bl p.2)] (some p)) else none|_,_=>none
abbrev FT:=Bool->Nat->List S->M S
abbrev W20(F:FT):FT:=λ_=>F true
def W30(ρ:Env):List Nat->Option (List S)
 |[]=>some []
 |i::r=>match ρ[i]? with
  |some (some s)=>(W30 ρ r).map (s::·)|_=>none
def Z51(m:M (List S)):M (List S):=λz=>match m z with
 |some (.er c z1)=>if c < 12 then some (.ok [.d (.bl (c == 8))] z1) else none|_=>none
def Z61(m:M (List S))(g:S->M S):M (List S):=λz=>match m z with
 |some (.ok l z1)=>match one l with
  |some s=>match g s z1 with
   |some (.ok r z2)=>some (.ok [r] z2)|_=>none
  |none=>none
 |_=>none
def s01(o:Option (List S))(d:D)(m:Env->M (List S))(g:S->M S):M (List S):=match o with
 |none=>M.no
 |some ss=>match h90 d with
  |true=>Z51 (m (ss.map some))|false=>Z61 (m (ss.map some)) g
def ev:FT->Ex->Env->M (List S)
 |F,.nil=>λ_=>M.ret []|F,.cons a r=>λρ=>M.bind (ev F a ρ) λx=>M.bind (M.of (one x)) λs=>M.bind (ev F r ρ) λy=>M.ret (s::y)
 |F,.var i=>λρ=>match ρ[i]? with
  |some (some s)=>M.ret [plS s]|_=>M.no
 |F,.con x=>λ_=>M.ret [.d x]|F,.gint _ i=>λ_=>M.ret [.d (.int i)]|F,.tup as=>λρ=>M.bind (ev F as ρ) λl=>M.bind (M.of (plA l)) λds=>if ds.length<=most then M.ret [.d (.tup ds)] else M.no|F,.lst as=>λρ=>M.bind (ev F as ρ) λl=>M.bind (M.of (plA l)) λds=>if ds.length<=most then M.ret [.fr ds] else M.no|F,.bin o a b=>λρ=>M.bind (ev F a ρ) λx=>M.bind (M.of (pl x)) λx=>M.bind (ev F b ρ) λy=>M.bind (M.of (pl y)) λy=>M.bind (M.of (W10 o x y)) λs=>M.ret [s]|F,.cmp o a b=>λρ=>M.bind (ev F a ρ) λx=>M.bind (M.of (pl x)) λx=>M.bind (ev F b ρ) λy=>M.bind (M.of (pl y)) λy=>M.bind (M.of (q40 o x y)) λb=>M.ret [.d (.bl b)]|F,.neg a=>λρ=>M.bind (ev F a ρ) λx=>M.bind (M.of ((pl x).bind asI)) λi=>M.ret [.d (.int (-i))]|F,.not a=>λρ=>M.bind (ev F a ρ) λx=>M.bind (M.of ((pl x).bind asB)) λb=>M.ret [.d (.bl !b)]|F,.and a b=>λρ=>M.bind (ev F a ρ) λx=>M.bind (M.of ((pl x).bind asB)) λc=>if c then M.bind (ev F b ρ) λy=>M.bind (M.of ((pl y).bind asB)) λc=>M.ret [.d (.bl c)] else M.ret [.d (.bl false)]|F,.or a b=>λρ=>M.bind (ev F a ρ) λx=>M.bind (M.of ((pl x).bind asB)) λc=>if c then M.ret [.d (.bl true)] else M.bind (ev F b ρ) λy=>M.bind (M.of ((pl y).bind asB)) λc=>M.ret [.d (.bl c)]|F,.orT a b=>λρ=>M.calm (M.bind (ev F a ρ) λx=>M.bind (M.of ((pl x).bind P01)) λl=>if l.isEmpty then M.bind (ev F b ρ) λy=>M.bind (M.of ((pl y).bind P01)) λl=>M.ret [.d (.tup l)] else M.ret [.d (.tup l)])|F,.ite c a b=>λρ=>M.bind (ev F c ρ) λx=>M.bind (M.of ((pl x).bind asB)) λc=>if c then ev F a ρ else ev F b ρ
 |F,.ch o o' a b c=>λρ=>M.bind (ev F a ρ) λx=>M.bind (M.of (pl x)) λx=>M.bind (ev F b ρ) λy=>M.bind (M.of (pl y)) λy=>M.bind (M.of (q40 o x y)) λk =>
   if k then M.bind (ev F c ρ) λw=>M.bind (M.of (pl w)) λw=>M.bind (M.of (q40 o' y w)) λk=>M.ret [.d (.bl k)] else M.ret [.d (.bl false)]
 |F,.bf f as=>λρ=>M.bind (ev F as ρ) λl=>M.bind (M.of (plA l)) λds=>M.bind (M.of (bfD f ds)) λs=>M.ret [s]|F,.isi t a=>λρ=>M.bind (ev F a ρ) λx=>M.bind (M.of (pl x)) λx=>M.ret [.d (.bl (J81 t x))]|F,.idx a i=>λρ=>M.bind (ev F a ρ) λx=>M.bind (M.of (pl x)) λx=>M.bind (ev F i ρ) λy=>M.bind (M.of (pl y)) λy=>M.bind (M.of (d81 x y)) λr=>M.ret [.d r]|F,.sl a lo hi=>λρ=>M.bind (ev F a ρ) λx=>M.bind (M.of (pl x)) λx=>M.bind (ev F lo ρ) λu=>M.bind (M.of (d91 u)) λu=>M.bind (ev F hi ρ) λv=>M.bind (M.of (d91 v)) λv=>M.bind (M.of (slD x u v)) λs=>M.ret [s]|F,.call f as=>λρ=>M.bind (ev F as ρ) λl=>M.bind (F false f (l.map plS)) λs=>M.ret [s]|F,.comp own capt p it src cond el=>λρ=>M.bind (ev F src ρ) λl=>M.bind (M.of ((plA l).bind (itD it))) λxs=>if xs.length<=most then M.bind (M.calm (turns (t30 (ev F cond) (ev F el) p (ã own none++capt.map λi=>(ρ[i]?).getD none)) xs)) λys=>M.ret [.fr ys] else M.no|F,.zget i k=>λρ z=>e01 k ρ[i]? z|F,.lrng b as=>λρ=>M.bind (ev F as ρ) λl=>M.bind (M.of ((plA l).bind lrD)) λxs=>M.ret [lrS b xs]|F,.rgt capt a b sm=>λρ=>M.bind (ev F b ρ) λl=>M.bind (M.of (pl l)) λd=>s01 (W30 ρ capt) d (λρ'=>ev (W20 F) a ρ') λs=>F true sm [plS s,.d d]
def H70(ρ:Env):Env:=ρ.map λo=>match o with
 |some .z=>none|o=>o
def x01(c:Nat):D:=.lst [.int c]
def o30(F:FT)(ρ:Env):List (List Nat × Ex)->Z->Option (List Nat × Z)
 |[],z=>some ([],z)
 |(capt,a)::r,z=>match W30 ρ capt with
  |none=>none
  |some ss=>match ev (W20 F) a (ss.map some) z with
   |some (.er c z1)=>if c < 12 then(o30 F ρ r z1).map λp=>(c::p.1,p.2) else none|_=>none
inductive Sm where
 |nil | seq (s r:Sm)
 |set (p:Pat) (e:Ex) | ret (e:Ex) | iff (c:Ex) (t e:Sm)
 |fr (p:Pat) (it:It) (src:Ex) (b:Sm)
 |whl (c:Ex) (b:Sm)
 |rais (c:Nat) | exp (e:Ex)
 |app (i:Nat) (e:Ex) | sti (i:Nat) (x e:Ex)
 |newz (i:Nat) (f:Nat) (as:Ex) | zset (i:Nat) (e:Ex) | apop (i j:Nat) (e:Ex)
 |lams (i:Nat) (ls:List (List Nat × Ex)) (g:Option (Nat × Ex)) (e:Ex) (t r:Sm)
inductive O where
 |nx (ρ:Env) | rt (s:S)
def D10(F:FT)(all:List (List Nat × Ex))(e:Ex)(kt kr:Env->M O)(ρ:Env):M O:=λz=>match o30 F ρ all z with
 |none=>none
 |some (cs,z1)=>M.bind (ev F e ρ) (λl=>M.bind (M.of (pl l)) λd=>M.bind (M.of (q40 .ne (.lst (cs.map x01)) d)) λb=>M.bind (if b then kt ρ else M.ret (.nx ρ)) λo=>match o with
  |.nx ρ=>kr ρ
  |.rt s=>M.ret (.rt s)) z1
def e11(F:FT)(all:List (List Nat × Ex))(g:Option (Nat × Ex))(e:Ex)(kt kr:Env->M O)(ρ:Env):M O:=match g with
 |none=>D10 F all e kt kr ρ|some (j,a)=>if j < ρ.length then M.bind (ev F a ρ) λl=>M.bind (M.of ((pl l).bind asB)) λb=>if b then D10 F all e kt kr (ρ.set j (some (.d (.bl b)))) else kr (ρ.set j (some (.d (.bl b)))) else M.no
mutual
noncomputable def bare:D->Bool
 |.lst _=>false|.tup l=>g20 l|.dct=>false|_=>true
noncomputable def g20:List D->Bool
 |[]=>true|x::r=>bare x&&g20 r
end
def l40:S->Bool
 |.d x=>bare x|.fr xs=>g20 xs|_=>true
def L30(ρ:Env):Env:=ρ.map λo=>o.map plS
def y30(b:Bool):Option S->Option S
 |some (.fr xs)=>some (if b then .fr xs else .d (.lst xs))|o=>o
theorem P70(b:Bool)(ρ:Env):ρ.map (y30 b)=if b then ρ else L30 ρ:=by
 have h:∀ o:Option S,y30 b o=if b then o else o.map plS:=λo=>by
  match o with
  |some (.fr xs)=>cases b <;> rfl
  |some (.d _)=>cases b <;> rfl
  |some .z=>cases b <;> rfl
  |none=>cases b <;> rfl
 rw[show y30 b=λo=>if b then o else o.map plS from funext h];cases b with
 |true=>exact List.map_id ρ|false=>rfl
def j50(s:S)(ρ:Env):Env:=ρ.map (y30 (l40 s))
def H80:Pat->S->Env->Option Env
 |p,.d x,ρ=>e60 p x ρ|.v i,s,ρ=>if i < ρ.length then some (ρ.set i (some s)) else none|_,_,_=>none
def K00(f:D->Env->M O):List D->Env->M O
 |[],ρ=>M.ret (.nx ρ)
 |x::r,ρ=>M.bind (f x ρ) λo=>match o with
  |.nx ρ=>K00 f r ρ|.rt s=>M.ret (.rt s)
def x11(c:Env->M (List S))(f:Env->M O):Nat->Env->M O
 |0,_=>M.no
 |n + 1,ρ=>M.bind (c ρ) λx=>M.bind (M.of ((pl x).bind asB)) λk=>if k then M.bind (f ρ) λo=>match o with
  |.nx ρ=>x11 c f n ρ|.rt s=>M.ret (.rt s)
  else M.ret (.nx ρ)
def ownAt(ρ:Env)(i:Nat):Option (List D):=match ρ[i]? with
 |some (some (.fr xs))=>some xs|_=>none
def H90(xs:List D)(i:Int)(y:D):Option (List D):=(ixN xs.length i).map λj=>xs.set j y
def d62:D->Bool
 |.tup l=>g20 l|.lst l=>g20 l|_=>true
def W40(l:List S):Bool:=match plA l with
 |some ds=>ds.all d62|none=>false
def noS:S->Option S
 |.z=>none|s=>some s
def D31:(it:It)->(e:Ex)->Option {i:Nat // it=.seq/\e=.cons (.var i) .nil}
 |.seq,.cons (.var i) .nil=>some ⟨i,rfl,rfl⟩|_,_=>none
def W50:List S->Bool
 |[]=>false|.d (.lst _)::_=>true|_::r=>W50 r
def P80(it:It)(e:Ex)(l:List S)(ρ:Env):Env:=match D31 it e with
 |some i=>ρ.set i.1 ((ρ[i.1]?.getD none).map plS)
 |none=>match W50 l with
  |true=>L30 ρ|false=>ρ
def D41(it:It)(e:Ex)(l:List S)(ρ:Env):Env:=(P80 it e l ρ).map (y30 (W40 l))
abbrev J91:Nat:=20000
def e21(ρ:Env)(i j:Nat)(xs ys:List D)(k:Int):Option O :=
 if i≠j/\0<=k/\inR k=true/\xs.length < most then(ys[k.toNat]?).bind λy=>if bare y=true then some (.nx ((ρ.set j (some (.fr (ys.eraseIdx k.toNat)))).set i (some (.fr (xs++[y]))))) else none else none
def P11(F:FT)(i j:Nat)(e:Ex):Env->M O:=λρ=>M.bind (M.of (ownAt ρ i)) λxs=>M.bind (M.of (ownAt ρ j)) λys=>M.bind (ev F e ρ) λl=>M.bind (M.of ((pl l).bind asI)) λk=>M.bind (M.of (e21 ρ i j xs ys k)) λo=>M.ret o
def e31(tp:Bool)(ρ:Env)(i:Nat):List S->Option (R O)
 |[.fr [.int n,.bl b]]=>if tp then some (.ok (.nx ((H70 ρ).set i (some .z))) (some (n,b))) else none|_=>none
def e41(ρ:Env)(v:Int):Option (Option S)->Z->Option (R O)
 |some (some .z),some p=>some (.ok (.nx ρ) (some (v,p.2)))|_,_=>none
def ex(F:FT)(tp:Bool):Sm->Env->M O
 |.nil=>λρ=>M.ret (.nx ρ)
 |.seq s r=>λρ=>M.bind (ex F tp s ρ) λo=>match o with
  |.nx ρ=>ex F tp r ρ|.rt s=>M.ret (.rt s)
 |.set p e=>λρ=>M.bind (ev F e ρ) λl=>M.bind (M.of (one l)) λs=>M.bind (M.of (H80 p s (j50 s ρ))) λρ=>M.ret (.nx ρ)
 |.ret e=>λρ=>match e with
  |.var i=>(match ρ[i]? with
   |some (some s)=>M.bind (M.of (noS s)) λs=>M.ret (.rt s)
   |_=>M.no)
  |e=>M.bind (ev F e ρ) λl=>M.bind (M.of ((one l).bind noS)) λs=>M.ret (.rt s)
 |.iff c t e=>λρ=>M.bind (ev F c ρ) λx=>M.bind (M.of ((pl x).bind asB)) λc=>if c then ex F tp t ρ else ex F tp e ρ|.fr p it src b=>λρ=>M.bind (ev F src ρ) λl=>M.bind (M.of ((plA l).bind (itD it))) λxs=>K00 (λx ρ=>M.bind (M.of (e60 p x ρ)) λρ=>ex F tp b ρ) xs (D41 it src l ρ)|.lams i ls g e t r=>λρ=>if i < ρ.length then e11 F ls g e (ex F tp t) (ex F tp r) (ρ.set i none) else M.no|.whl c b=>λρ=>x11 (ev F c) (ex F tp b) J91 ρ|.rais c=>λ_ z=>some (.er c z)|.exp e=>λρ=>M.bind (ev F e ρ) λl=>M.bind (M.of (one l)) λ_=>M.ret (.nx ρ)|.app i e=>λρ=>M.bind (M.of (ownAt ρ i)) λxs=>M.bind (ev F e ρ) λl=>M.bind (M.of (pl l)) λx=>if bare x=true/\xs.length < most then M.ret (.nx (ρ.set i (some (.fr (xs++[x]))))) else M.no
 |.sti i ix e=>λρ=>M.bind (ev F e ρ) λl=>M.bind (M.of (pl l)) λx=>M.bind (M.of (ownAt ρ i)) λxs=>M.bind (ev F ix ρ) λj=>M.bind (M.of ((pl j).bind asI)) λj=>M.bind (M.of (H90 xs j x)) λxs =>
   if bare x=true then M.ret (.nx (ρ.set i (some (.fr xs)))) else M.no
 |.newz i f as=>λρ=>M.bind (ev F (.call f as) ρ) λl=>λ_=>e31 tp ρ i l|.zset i e=>λρ=>M.bind (ev F e ρ) λl=>M.bind (M.of ((pl l).bind asI)) λv=>λz=>e41 ρ v ρ[i]? z|.apop i j e=>λρ=>P11 F i j e ρ
inductive Df where
 |code (ps ns:Nat) (b:Sm) | prim (f:List S->M S)
def p50:Z->Z->Z
 |none,_=>none|some _,z=>z
def start(ns:Nat)(l:List S):Env:=l.map some++ã (ns - l.length) none
def run(F:FT):Df->List S->M S
 |.code ps ns b,l=>λz=>if l.length=ps/\ps<=ns then(match ex F z.isNone b (start ns (l.map plS)) z with
  |some (.ok (.nx _) z1)=>some (.ok (.d .non) (p50 z z1))|some (.ok (.rt s) z1)=>some (.ok s (p50 z z1))|some (.er c z1)=>some (.er c (p50 z z1))
  |none=>none) else none
 |.prim f,l=>f l
def c70(T:List Df):Nat->Nat->List S->M S
 |k + 3,f,l=>match T[f]? with
  |some d=>run (λb g m=>match b with | true=>c70 T k g m | false=>c70 T (k + 2) g m) d l
  |none=>M.no
 |_,_,_=>M.no
abbrev w00(T:List Df)(k:Nat):FT:=λb g m=>match b with | true=>c70 T (k - 2) g m | false=>c70 T k g m
theorem L40(T:List Df)(k f:Nat)(l:List S):c70 T (k + 3) f l=match T[f]? with
  |some d=>run (w00 T (k + 2)) d l|none=>M.no:=rfl
end Q
namespace Q
open PySem L2 PySem.Spec PyProof.Rows
def m90(K:À)(H:Hp)(a:Æ)(xs:List V):Prop:=Rd H a (.lst xs)∨∃ (its:Array Ã) (n:Nat),K.lookup a=some { cls:=.type "list",data:=.seq its n }/\its.size<=sizeLine/\Vals xs its.toList
theorem m90.of{K:À}{H:Hp}{a:Æ}{xs:List V}(h:H a=some (.lst xs)):m90 K H a xs:=.inl (.inl h)
theorem m90.sq{K:À}{H:Hp}{a:Æ}{xs:List V}(h:m90 K H a xs):SqL K H a xs:=by
 rcases h with h | ⟨its,n,h1,h2,h3⟩
 ·exact .inl h
 ·exact .inr ⟨_,its,n,h1,rfl,rfl,rfl,h2,h3⟩
theorem m90.same{K:À}{H H':Hp}{a:Æ}{xs:List V}(h:m90 K H a xs)(e:a10 H H'):m90 K H' a xs:=by
 rcases h with (h | ⟨o,h⟩) | h
 ·exact .inl (.inl (e _ _ h))
 ·exact .inl (.inr ⟨o,e _ _ h⟩)
 ·exact .inr h
theorem m90.mem(I:Inv X pins σ H s)(h:m90 X.K H a xs):xs.length<=sizeLine/\∃ (its:List Ã) (n:Nat),Vals xs its/\xs.length=its.length/\s.heap.get? a=some { cls:=.type "list",data:=.seq its.toArray n }:=by
 rcases h with (h | ⟨o,h⟩) | ⟨its,n,h1,h2,h3⟩
 ·exact I.N41 h
 ·obtain⟨e,z,its,n,r,e2⟩:=I.hok a _ h;exact⟨z,its,n,r,r.length,e2⟩
 ·refine⟨by rw[h3.length,Ç4];exact h2,its.toList,n,h3,h3.length,?_⟩
  have:=I.kIn a _ h1;rw[Ë2];exact this
mutual
def Hd(K:À)(H:Hp):D->V->Prop
 |.non,v=>v=.non|.bl b,v=>v=.bl b|.int i,v=>v=.int i|.str x,v=>v=.str x|.tup ds,v=>∃ a xs,v=.ref a/\SqT K H a xs/\HdA K H ds xs|.lst ds,v=>∃ a xs,v=.ref a/\m90 K H a xs/\HdA K H ds xs|.dct,v=>∃ a kvs,v=.ref a/\H a=some (.dK kvs)
def HdA(K:À)(H:Hp):List D->List V->Prop
 |[],xs=>xs=[]|d::ds,xs=>∃ x r,xs=x::r/\Hd K H d x/\HdA K H ds r
end
section
variable {K:À}{H H':Hp}
mutual
theorem Hd.same(e:a10 H H'):∀ {d:D}{v:V},Hd K H d v->Hd K H' d v
 |.non,_,h=>by unfold Hd at h ⊢;exact h|.bl _,_,h=>by unfold Hd at h ⊢;exact h|.int _,_,h=>by unfold Hd at h ⊢;exact h|.str _,_,h=>by unfold Hd at h ⊢;exact h
 |.tup ds,_,h=>by
  unfold Hd at h ⊢;obtain⟨a,xs,rfl,h1,h2⟩:=h;exact⟨a,xs,rfl,e.sqT h1,HdA.same e h2⟩
 |.lst ds,_,h=>by
  unfold Hd at h ⊢;obtain⟨a,xs,rfl,h1,h2⟩:=h;exact⟨a,xs,rfl,h1.same e,HdA.same e h2⟩
 |.dct,_,h=>by
  unfold Hd at h ⊢;obtain⟨a,kvs,rfl,h1⟩:=h;exact⟨a,kvs,rfl,e _ _ h1⟩
theorem HdA.same(e:a10 H H'):∀ {ds:List D}{xs:List V},HdA K H ds xs->HdA K H' ds xs
 |[],_,h=>by unfold HdA at h ⊢;exact h
 |d::ds,_,h=>by
  unfold HdA at h ⊢;obtain⟨x,r,rfl,h1,h2⟩:=h;exact⟨x,r,rfl,Hd.same e h1,HdA.same e h2⟩
end
mutual
theorem Hd.has:∀ {d:D}{v:V},Hd K H d v->Has K H d v
 |.non,_,h=>by unfold Hd at h;unfold Has;exact h|.bl _,_,h=>by unfold Hd at h;unfold Has;exact h|.int _,_,h=>by unfold Hd at h;unfold Has;exact h|.str _,_,h=>by unfold Hd at h;unfold Has;exact h
 |.tup ds,_,h=>by
  unfold Hd at h;unfold Has;obtain⟨a,xs,rfl,h1,h2⟩:=h;exact⟨a,xs,rfl,h1,HdA.has h2⟩
 |.lst ds,_,h=>by
  unfold Hd at h;unfold Has;obtain⟨a,xs,rfl,h1,h2⟩:=h;exact⟨a,xs,rfl,h1.sq,HdA.has h2⟩
 |.dct,_,h=>by unfold Hd at h;unfold Has;exact h
theorem HdA.has:∀ {ds:List D}{xs:List V},HdA K H ds xs->y70 K H ds xs
 |[],_,h=>by unfold HdA at h;unfold y70;exact h
 |d::ds,_,h=>by
  unfold HdA at h;unfold y70;obtain⟨x,r,rfl,h1,h2⟩:=h;exact⟨x,r,rfl,Hd.has h1,HdA.has h2⟩
end
theorem HdA.nil:HdA K H [] []:=by unfold HdA;rfl
theorem HdA.cons(h:Hd K H d x)(r:HdA K H ds xs):HdA K H (d::ds) (x::xs):=by unfold HdA;exact⟨x,xs,rfl,h,r⟩
theorem HdA.c30(h:HdA K H (d::ds) xs):∃ x r,xs=x::r/\Hd K H d x/\HdA K H ds r:=by unfold HdA at h;exact h
theorem HdA.e70(h:HdA K H [] xs):xs=[]:=by unfold HdA at h;exact h
theorem HdA.length:∀ {ds:List D}{xs:List V},HdA K H ds xs->xs.length=ds.length
 |[],_,h=>by rw[h.e70];rfl
 |d::ds,_,h=>by
  obtain⟨x,r,rfl,_,h2⟩:=h.c30;simp[h2.length]
theorem HdA.get:∀ {ds:List D}{xs:List V}{i:Nat}{d:D},HdA K H ds xs->ds[i]?=some d->∃ x,xs[i]?=some x/\Hd K H d x
 |[],_,_,_,_,e=>by simp at e
 |d::ds,_,i,d',h,e=>by
  obtain⟨y,r,rfl,h1,h2⟩:=h.c30;cases i with
  |zero=>simp at e;subst e;exact⟨y,rfl,h1⟩
  |succ i =>
   obtain⟨x',e1,e2⟩:=HdA.get (i:=i) h2 (by simpa using e)
   exact⟨x',by simpa using e1,e2⟩
theorem HdA.append:∀ {ds es:List D}{xs ys:List V},HdA K H ds xs->HdA K H es ys->HdA K H (ds++es) (xs++ys)
 |[],_,_,_,h,g=>by rw[h.e70];exact g
 |d::ds,_,_,_,h,g=>by
  obtain⟨x,r,rfl,h1,h2⟩:=h.c30;exact .cons h1 (HdA.append h2 g)
theorem HdA.take:∀ {ds:List D}{xs:List V} (n:Nat),HdA K H ds xs->HdA K H (ds.take n) (xs.take n)
 |ds,xs,0,_=>by simp;exact .nil|[],_,n + 1,h=>by rw[h.e70];simp;exact .nil
 |d::ds,_,n + 1,h=>by
  obtain⟨x,r,rfl,h1,h2⟩:=h.c30;exact .cons h1 (HdA.take n h2)
theorem HdA.drop:∀ {ds:List D}{xs:List V} (n:Nat),HdA K H ds xs->HdA K H (ds.drop n) (xs.drop n)
 |ds,xs,0,h=>by simpa using h|[],_,n + 1,h=>by rw[h.e70];simp;exact .nil
 |d::ds,_,n + 1,h=>by
  obtain⟨x,r,rfl,h1,h2⟩:=h.c30;exact HdA.drop n h2
theorem HdA.reverse:∀ {ds:List D}{xs:List V},HdA K H ds xs->HdA K H ds.reverse xs.reverse
 |[],_,h=>by rw[h.e70];simp;exact .nil
 |d::ds,_,h=>by
  obtain⟨x,r,rfl,h1,h2⟩:=h.c30;rw[Î6,Î6];exact(HdA.reverse h2).append (.cons h1 .nil)
theorem HdA.rep(h:HdA K H ds xs):∀ n:Nat,HdA K H (ã n ds).flatten (ã n xs).flatten
 |0=>by simp;exact .nil|n + 1=>by rw[Ä3,Ä3,È4,È4];exact h.append (h.rep n)
theorem HdA.set:∀ {ds:List D}{xs:List V}{d:D}{x:V} (i:Nat),HdA K H ds xs->Hd K H d x->HdA K H (ds.set i d) (xs.set i x)
 |[],_,_,_,_,h,_=>by rw[h.e70];simp;exact .nil
 |e::ds,_,d,x,i,h,g=>by
  obtain⟨y,r,rfl,h1,h2⟩:=h.c30;cases i with
  |zero=>exact .cons g h2|succ i=>exact .cons h1 (HdA.set i h2 g)
theorem HdA.ints:∀ ns:List Int,HdA K H (ns.map D.int) (ns.map V.int)
 |[]=>.nil|n::r=>.cons (by unfold Hd;rfl) (HdA.ints r)
theorem Hd.i50(h:Hd K H (.int i) v):v=.int i:=by unfold Hd at h;exact h
theorem Hd.bl_(h:Hd K H (.bl b) v):v=.bl b:=by unfold Hd at h;exact h
theorem Hd.Z71(h:Hd K H .non v):v=.non:=by unfold Hd at h;exact h
theorem Hd.d72{x:Str}{v:V}(h:Hd K H (.str x) v):v=.str x:=by unfold Hd at h;exact h
theorem Hd.w10(h:Hd K H (.tup ds) v):∃ a xs,v=.ref a/\SqT K H a xs/\HdA K H ds xs:=by unfold Hd at h;exact h
theorem Hd.P90(h:Hd K H (.lst ds) v):∃ a xs,v=.ref a/\m90 K H a xs/\HdA K H ds xs:=by unfold Hd at h;exact h
theorem Hd.int:Hd K H (.int i) (.int i):=by unfold Hd;rfl
theorem Hd.bl:Hd K H (.bl b) (.bl b):=by unfold Hd;rfl
theorem Hd.non:Hd K H .non .non:=by unfold Hd;rfl
theorem Hd.str{x:Str}:Hd K H (.str x) (.str x):=by unfold Hd;rfl
theorem Hd.tup(h:SqT K H a xs)(r:HdA K H ds xs):Hd K H (.tup ds) (.ref a):=by unfold Hd;exact⟨a,xs,rfl,h,r⟩
theorem Hd.lst(h:H a=some (.lst xs))(r:HdA K H ds xs):Hd K H (.lst ds) (.ref a):=by unfold Hd;exact⟨a,xs,rfl,m90.of h,r⟩
end
def noT(H:Hp):Hp:=λb=>match H b with
 |some (.tbl _)=>none|o=>o
theorem I00(h:noT H b=some o):H b=some o/\∀ ps,o≠.tbl ps:=by
 unfold noT at h;split at h
 ·cases h
 ·rename_i n;exact⟨h,λps e=>n ps (by rw[h,e])⟩
theorem L50(h:H b=some o)(n:∀ ps,o≠.tbl ps):noT H b=some o:=by
 unfold noT;split
 ·rename_i ps e;rw[h] at e;cases e;exact absurd rfl (n ps)
 ·exact h
theorem t70(H:Hp):a10 (noT H) H:=λ_ _ h=>(I00 h).1
theorem Q00(e:a10 H H'):a10 (noT H) (noT H'):=λb o h=>L50 (e b o (I00 h).1) (I00 h).2
def hz(zA:Option Æ)(H:Hp):Hp:=match zA with
 |some a=>hide a (noT H)|none=>noT H
class Tb where
 tb:List (Addr × Str)
variable [TB:Tb]
def zAt(zA:Option Æ)(z:Z)(H:Hp):Prop:=match zA,z with
 |some a,some (n,b)=>H a=some (.lst [.int n,.bl b])|none,none=>True|_,_=>False
structure c50(zA:Option Addr)(z:Z)(H:Hp):Prop where
 zat:zAt zA z H
 tab:∀ p∈TB.tb,Tab H p.1 p.2
theorem a30(zA:Option Æ)(H:Hp):a10 (hz zA H) H:=by
 cases zA with
 |none=>exact t70 H|some a=>exact a10.trans (e00 a _) (t70 H)
theorem h30(e:a10 H H'):a10 (hz zA H) (hz zA H'):=by
 cases zA with
 |none=>exact Q00 e|some a=>exact v40 λb o _ h=>Q00 e b o h
theorem d30(h:H b=some o)(n:zA≠some b)(ht:∀ ps,o≠.tbl ps:=by exact λ_ h=>nomatch h):hz zA H b=some o:=by
 cases zA with
 |none=>exact L50 h ht|some a=>exact C50 (L50 h ht) λe=>n (by rw[e])
theorem l50(h:hz zA H b=some o):H b=some o/\zA≠some b:=by
 cases zA with
 |none=>exact⟨t70 H b o h,λe=>nomatch e⟩
 |some a =>
  refine⟨t70 H b o (e00 a _ b o h),λe=>?_⟩;cases e;have:hide b (noT H) b=some o:=h;unfold hide at this;rw[if_pos rfl] at this;cases this
theorem l80(h:hz zA H b=some o):∀ ps,o≠.tbl ps:=by
 cases zA with
 |none=>exact(I00 h).2|some a=>exact(I00 (e00 a _ b o h)).2
structure Ext(zA:Option Addr)(H H':Hp):Prop where
 same:a10 (hz zA H) (hz zA H')
 tbl:∀ b ps,H b=some (.tbl ps)->∃ qs,H' b=some (.tbl qs)
instance {zA:Option Æ}{H H':Hp}:CoeFun (Ext zA H H') (λ_=>∀ b o,hz zA H b=some o->hz zA H' b=some o):=⟨λx=>x.same⟩
instance {zA:Option Æ}{H H':Hp}:CoeOut (Ext zA H H') (a10 (hz zA H) (hz zA H')):=⟨λx=>x.same⟩
theorem Ext.refl:Ext zA H H:=⟨a10.refl _,λb ps h=>⟨ps,h⟩⟩
theorem Ext.trans(a:Ext zA H H1)(b:Ext zA H1 H2):Ext zA H H2:=⟨a10.trans a.same b.same,λc ps h=>let ⟨qs,h1⟩:=a.tbl c ps h;b.tbl c qs h1⟩
theorem Ext.of(e:a10 H H'):Ext zA H H':=⟨h30 e,λb ps h=>⟨ps,e b _ h⟩⟩
theorem Ext.at(e:Ext zA H H')(h:H a=some o)(n:zA≠some a)(ht:∀ ps,o≠.tbl ps:=by exact λ_ h=>nomatch h):H' a=some o:=(l50 (e.same a o (d30 h n ht))).1
theorem Ext.free(e:Ext zA H H')(h:H' a=none)(n:zA≠some a):H a=none:=by
 cases q:H a with
 |none=>rfl
 |some o =>
  by_cases ht:∃ ps,o=.tbl ps
  ·obtain⟨ps,rfl⟩:=ht;obtain⟨qs,q'⟩:=e.tbl a ps q;rw[q'] at h;cases h
  ·rw[e.at q n λps z=>ht ⟨ps,z⟩] at h;cases h
theorem zAt.same(h:zAt zA z H)(e:a10 H H'):zAt zA z H':=by
 cases zA with
 |none=>cases z with
  |none=>trivial|some _=>exact h.elim
 |some a=>cases z with
  |none=>exact h.elim|some p=>exact e _ _ h
theorem c50.same(h:c50 zA z H)(e:a10 H H'):c50 zA z H':=⟨h.zat.same e,λp hp=>(h.tab p hp).same e⟩
theorem Tab.upd{H:Hp}{P a:Æ}{q:Str}{xs:List V}{o:HO}(t:Tab H P q)(h:H a=some (.lst xs)):Tab (upd H a o) P q:=by
 obtain⟨ps,e,tr,k⟩:=t;have ne:∀ {b:Æ}{u:HO},H b=some u->(∀ l,u≠.lst l)->b≠a:=λ{b u} e1 e2 z=>by
  subst z;rw[h] at e1;cases e1;exact e2 _ rfl
 refine⟨ps,by rw[a20 (ne e λ_ z=>nomatch z)];exact e,tr,λpos c hc=>?_⟩
 obtain⟨c',e1,e2⟩:=k pos c hc;exact⟨c',e1,by rw[a20 (ne e2 λ_ z=>nomatch z)];exact e2⟩
theorem c50.D51{K:À}{zA:Option Æ}{z:Z}{H:Hp}(h:c50 zA z H){a:Æ}{xs:List V}(t:SqT K H a xs):SqT K (hz zA H) a xs:=by
 have h:=h.zat;rcases t with (t | ⟨o,t⟩) | t
 ·refine .inl (.inl (d30 t λe=>?_));subst e;cases z with
  |none=>exact h.elim
  |some p =>
   have h':H a=some (.lst [.int p.1,.bl p.2]):=h;rw[t] at h';cases h'
 ·refine .inl (.inr ⟨o,d30 t λe=>?_⟩);subst e;cases z with
  |none=>exact h.elim
  |some p =>
   have h':H a=some (.lst [.int p.1,.bl p.2]):=h;rw[t] at h';cases h'
 ·exact .inr t
theorem c50.Q10(h:c50 zA z H)(n:H a=none):zA≠some a:=λe=>by
 have h:=h.zat;subst e;cases z with
 |none=>exact h.elim
 |some p =>
  have h':H a=some (.lst [.int p.1,.bl p.2]):=h;rw[n] at h';cases h'
def RvS(K:À)(zA:Option Æ)(H0 H:Hp):S->V->Prop
 |.d x,v=>Hd K (hz zA H) x v|.fr xs,v=>∃ a ys,v=.ref a/\H0 a=none/\zA≠some a/\H a=some (.lst ys)/\HdA K (hide a (hz zA H)) xs ys|.z,v=>∃ a,zA=some a/\v=.ref a
def RvP(K:À)(zA:Option Æ)(H:Hp):S->V->Prop
 |.d x,v=>Hd K (hz zA H) x v|.fr xs,v=>Hd K (hz zA H) (.lst xs) v|.z,v=>∃ a,zA=some a/\v=.ref a
section
variable {K:À}{zA:Option Æ}{H0 H H':Hp}
theorem RvS.pl{s:S}{v:V}(h:RvS K zA H0 H s v):RvP K zA H s v:=by
 cases s with
 |d x=>exact h|z=>exact h
 |fr xs =>
  obtain⟨a,ys,rfl,_,h2,h3,h4⟩:=h;exact Hd.lst (d30 h3 h2) (h4.same (e00 a _))
theorem RvP.plS{s:S}{v:V}(h:RvP K zA H s v):RvP K zA H (plS s) v:=by cases s <;> exact h
theorem RvP.mono{s:S}{v:V}(h:RvP K zA H s v)(e:Ext zA H H'):RvP K zA H' s v:=by
 cases s with
 |d x=>exact Hd.same e h|z=>exact h|fr xs=>exact Hd.same e h
theorem RvS.mono{s:S}{v:V}(h:RvS K zA H0 H s v)(e:Ext zA H H'):RvS K zA H0 H' s v:=by
 cases s with
 |d x=>exact Hd.same e h|z=>exact h
 |fr xs =>
  obtain⟨a,ys,rfl,h1,h2,h3,h4⟩:=h;exact⟨a,ys,rfl,h1,h2,e.at h3 h2,h4.same (v40 λb o _ q=>e b o q)⟩
theorem RvS.from{H1:Hp}{s:S}{v:V}(h:RvS K zA H1 H s v)(e:Ext zA H0 H1):RvS K zA H0 H s v:=by
 cases s with
 |d x=>exact h|z=>exact h
 |fr xs =>
  obtain⟨a,ys,rfl,h1,h2,h3⟩:=h;exact⟨a,ys,rfl,e.free h1 h2,h2,h3⟩
theorem RvP.d_{s:S}{v:V}{x:D}(h:RvP K zA H s v)(e:plD s=some x):Hd K (hz zA H) x v:=by
 cases s with
 |d y=>cases e;exact h
 |fr xs=>cases e;exact h
 |_=>cases e
end
abbrev RvA(K:À)(zA:Option Æ)(H:Hp):List S->List V->Prop:=À1 (RvP K zA H)
theorem RvA.mono{K:À}{zA:Option Æ}{H H':Hp}{l:List S}{vs:List V}(h:RvA K zA H l vs)(e:Ext zA H H'):RvA K zA H' l vs:=À1.v01 h λ_ _ q=>q.mono e
theorem RvA.plS{K:À}{zA:Option Æ}{H:Hp}:∀ {l:List S}{vs:List V},RvA K zA H l vs->RvA K zA H (l.map plS) vs
 |_,_,.nil=>.nil|_,_,.cons r t=>.cons r.plS (RvA.plS t)
theorem RvA.ds{K:À}{zA:Option Æ}{H:Hp}:∀ {l:List S}{vs:List V}{ds:List D},RvA K zA H l vs->plA l=some ds->HdA K (hz zA H) ds vs
 |_,_,_,.nil,e=>by cases e;exact .nil
 |.d x::r,_,_,.cons h t,e=>by
  simp only[plA,Ï0] at e;obtain⟨l,e,rfl⟩:=e;exact .cons h (RvA.ds t e)
 |.fr x::r,_,_,.cons h t,e=>by
  simp only[plA,Ï0] at e;obtain⟨l,e,rfl⟩:=e;exact .cons h (RvA.ds t e)
 |.z::r,_,_,.cons h t,e=>by simp[plA] at e
theorem d90(h:pl l=some x):∃ s,l=[s]/\plD s=some x:=by
 unfold pl at h;split at h
 ·exact⟨_,rfl,h⟩
 ·exact⟨_,rfl,h⟩
 ·cases h
theorem M.bind_some{α β:Type}{m:M α}{f:α->M β}{z:Z}{r:R β}(h:M.bind m f z=some r):(∃ a z1,m z=some (.ok a z1)/\f a z1=some r)∨(∃ c z1,m z=some (.er c z1)/\r=.er c z1):=by
 unfold M.bind at h;split at h
 ·exact .inl ⟨_,_,by assumption,h⟩
 ·cases h;exact .inr ⟨_,_,by assumption,rfl⟩
 ·cases h
theorem M.a00{α β:Type}{o:Option α}{f:α->M β}{z:Z}{r:R β}(h:M.bind (M.of o) f z=some r):∃ a,o=some a/\f a z=some r:=by
 cases o with
 |none=>cases h
 |some a=>exact⟨a,rfl,h⟩
end Q
set_option exponentiation.threshold 5000
namespace Q
open PySem L2 PySem.Spec PyProof.Rows
variable [TB:Tb]
section
variable {K:À}{zA:Option Æ}{z:Z}{H:Hp}
theorem s11(hp:H p=none):a10 (hz zA H) (hide p (hz zA (upd H p o))):=λb u e=>by
 obtain⟨e1,e2⟩:=l50 e;have hb:b≠p:=λq=>by subst q;rw[hp] at e1;cases e1
 exact C50 (d30 (by rw[a20 hb];exact e1) e2 (l80 e)) hb
theorem i00:RvS K zA H0 H (.d (.int i)) (.int i):=Hd.int (K:=K) (H:=hz zA H)
theorem h40:RvS K zA H0 H (.d (.bl b)) (.bl b):=Hd.bl (K:=K) (H:=hz zA H)
theorem m91(h:Hd K (hz zA H) x v):RvS K zA H0 H (.d x) v:=h
theorem k90(st:c50 zA z H)(h:HdA K (hz zA H) xs ys)(hp:H p=none):RvS K zA H (upd H p (.lst ys)) (.fr xs) (.ref p) :=
 ⟨p,ys,rfl,hp,st.Q10 hp,a90,h.same (s11 hp)⟩
theorem tupQ(st:c50 zA z H)(h:HdA K (hz zA H) xs ys)(q:∀ v H',a10 H H'->RvS K zA H H' (.d (.tup xs)) v->Q v H'):q31 K H ys Q :=
 λp H' sm hq=>q _ _ sm (m91 (Hd.tup ((st.same sm).D51 hq) (h.same (h30 sm))))
end
def rD2(K:À)(f:D->D->Option S):R2:=λx y H Q=>∃ zA z dx dy s,c50 zA z H/\Hd K (hz zA H) dx x/\Hd K (hz zA H) dy y/\f dx dy=some s/\∀ v H',a10 H H'->RvS K zA H H' s v->Q v H'
def rDn(K:À)(f:List D->Option S):List V->Hp->VK->Prop:=λxs H Q=>∃ zA z ds s,c50 zA z H/\HdA K (hz zA H) ds xs/\f ds=some s/\∀ v H',a10 H H'->RvS K zA H H' s v->Q v H'
section
variable {X:Cx}
theorem bits_le(h:k.natAbs < d61):Õ0 k<=4000:=by
 unfold Õ0;split
 ·exact Æ3 _
 ·have hn:k.natAbs < 2 ^ 4000:=h;have:k.natAbs.log2 < 4000:=by
   rcases Nat.eq_zero_or_pos k.natAbs with h0 | hp
   ·rw[h0];decide
   ·exact(Nat.log2_lt (Ë3 hp)).mpr hn
  omega
theorem P21(hi:i.natAbs < d61)(hj:j.natAbs < d61):IntMulOk i j:=by
 have h1:=bits_le hi;have h2:=bits_le hj;unfold IntMulOk;intro h;rw[Â] at h;have h3:=h.2;unfold Â4.Int.intTooBig at h3;simp only[decide_eq_true_eq] at h3;have:(8000:Nat) < bitsLine:=by decide
 omega
theorem e51(hj:j.natAbs < d61):Â4.divisionGoesByPylong i j=false:=by
 refine PyProof.noPylong_of_log2 ?_;rcases Nat.eq_zero_or_pos j.natAbs with h0 | hp
 ·rw[h0];decide
 ·have:j.natAbs.log2 < 4000:=(Nat.log2_lt (Ë3 hp)).mpr hj;omega
theorem e10(h:n<=most):n<=sizeLine:=ë h (by rw[À9];decide)
def d82(K:À):R2:=λx y H Q=>∃ l b xs zs,x=.ref l/\y=.ref b/\m90 K H l xs/\m90 K H b zs/\xs.length + zs.length<=sizeLine/\∀ p,H p=none->Q (.ref p) (upd H p (.lst (xs++zs)))
def d92(K:À):R2:=λx y H Q=>∃ l k xs,x=.ref l/\y=.int k/\m90 K H l xs/\-(2 ^ 63)<=k/\k < 2 ^ 63/\xs.length * k.toNat<=sizeLine/\∀ p,H p=none->Q (.ref p) (upd H p (.lst (ã k.toNat xs).flatten))
theorem D61:OpR X (Â6 .Add) (d82 X.K):=by
 intro pins s σ H x y v u Q I rx ry h;obtain⟨l,b,xs,zs,rfl,rfl,hH,hB,hz,q⟩:=h;cases rx;cases ry;obtain⟨z,its,n,r,hl,e⟩:=hH.mem I;obtain⟨z2,its2,n2,r2,hl2,e2⟩:=hB.mem I;refine PySem.P.add_list e e2 ?_ (by rw[Ô,Ô];omega)
 have ea:its.toArray++its2.toArray=(its++its2).toArray:=by simp
 rw[ea];exact⟨.ref _,_,I.c62 (t':=s.toks) (r.append r2) (by rw[ÿ];omega),rfl,q _ I.fresh⟩
theorem D71:OpR X (Â6 .Mult) (d92 X.K):=by
 intro pins s σ H x y v u Q I rx ry h;obtain⟨l,k,xs,rfl,rfl,hH,h1,h2,hz,q⟩:=h;cases rx;obtain⟨t,rfl⟩:=ry;obtain⟨z,its,n,r,hl,e⟩:=hH.mem I;have hlen:its.toArray.size * k.toNat<=sizeLine:=by rw[Ô,← hl];exact hz
 have hcap:¬ its.toArray.size * k.toNat > (2 ^ 63 - 1) / 8:=by
  have:(sizeLine:Nat)<=(2 ^ 63 - 1) / 8:=by decide
  omega
 have hfit:¬ (!Â4.List.listFitsIndex k)=true:=by
  rw[fitsIndex_both h1 h2];exact Ï
 have hlong:¬ É3 (its.toArray.size * k.toNat)=true:=by
  rw[o61 hlen];exact Ï
 have hnew:foldl (λx1 x2=>x1++x2) #[] (ã (if its.toArray.isEmpty=true then 0 else k.toNat) its.toArray)=(ã k.toNat its).flatten.toArray:=by
  have f0:∀ m:Nat,foldl (λx1 x2=>x1++x2) #[] (ã m its.toArray)=(ã m its).flatten.toArray:=λm=>by
   have:=foldl_rep its m [];rw[nil_append] at this;exact this
  rw[f0];cases its with
  |nil=>simp|cons a r'=>rw[if_neg (by simp)]
 refine wpAny_binaryOp_repeat_ref (T:="list") (U:="int") (-0) ⟨_,e,rfl⟩ (λs'=>Ó2 s' k t) noFill_list_mul F.fills_int_mul Ï5 repeat_list F.slot_int_index.lookup
  (Æ5 Ï5 (Ó2 s k t) F.entry_int_rmul (F.args_int_rmul_2 _ _) (int___rmul___int_list k t l its.toArray n)
   ⟨e,rfl,⟨_,e,rfl⟩,Æ5 F.slot_list_mul ⟨_,e,rfl⟩ F.entry_list_mul (F.args_list_mul_2 _ _) (AutoListH.list___mul___list_int_3 l its.toArray n k t hfit hcap hlong) ⟨e,?_⟩⟩)
 rw[hnew];exact⟨.ref _,_,I.c62 (t':=s.toks) (r.rep k.toNat) (by rw[len_rep,mul_comm];exact hz),rfl,q _ I.fresh⟩
theorem D81:OpR X (Â6 .Add) (rD2 X.K (W10 .add)):=by
 intro pins s σ H x y v u Q I rx ry h;obtain⟨zA,z,dx,dy,w,st,hx,hy,e,q⟩:=h;cases dx with
 |int i =>
  cases dy with
  |int j =>
   cases e;cases hx.i50;cases hy.i50;exact M11 pins s σ H _ _ v u Q I rx ry ⟨i,j,rfl,rfl,q _ _ (a10.refl H) i00⟩
  |_=>cases e
 |tup a =>
  cases dy with
  |tup b =>
   obtain⟨hl,e⟩:=f60 e;cases e;obtain⟨p,xs,rfl,h1,h2⟩:=hx.w10;obtain⟨p',ys,rfl,h3,h4⟩:=hy.w10;exact C01 pins s σ H _ _ v u Q I rx ry ⟨p,p',xs,ys,rfl,rfl,(a30 zA H).sqT h1,(a30 zA H).sqT h3,e10 (by rw[h2.length,h4.length];exact hl),tupQ st (h2.append h4) q⟩
  |_=>cases e
 |lst a =>
  cases dy with
  |lst b =>
   obtain⟨hl,e⟩:=f60 e;cases e;obtain⟨p,xs,rfl,h1,h2⟩:=hx.P90;obtain⟨p',ys,rfl,h3,h4⟩:=hy.P90;exact D61 pins s σ H _ _ v u Q I rx ry ⟨p,p',xs,ys,rfl,rfl,h1.same (a30 zA H),h3.same (a30 zA H),e10 (by rw[h2.length,h4.length];exact hl),λr hr=>q _ _ (a10.new _ hr) (k90 st (h2.append h4) hr)⟩
  |_=>cases e
 |_=>cases e
theorem D91:OpR X (Â6 .Sub) (rD2 X.K (W10 .sub)):=by
 intro pins s σ H x y v u Q I rx ry h;obtain⟨zA,z,dx,dy,w,st,hx,hy,e,q⟩:=h;cases dx with
 |int i =>
  cases dy with
  |int j =>
   cases e;cases hx.i50;cases hy.i50;exact M21 pins s σ H _ _ v u Q I rx ry ⟨i,j,rfl,rfl,q _ _ (a10.refl H) i00⟩
  |_=>cases e
 |_=>cases e
theorem E01:OpR X (Â6 .Mult) (rD2 X.K (W10 .mul)):=by
 intro pins s σ H x y v u Q I rx ry h;obtain⟨zA,z,dx,dy,w,st,hx,hy,e,q⟩:=h;cases dx with
 |int i =>
  cases dy with
  |int j =>
   obtain⟨hl,e⟩:=f60 e;cases e;cases hx.i50;cases hy.i50;obtain⟨t,rfl⟩:=rx;obtain⟨t',rfl⟩:=ry;exact mul_int ⟨.int (i * j),H,I.tok _,⟨_,rfl⟩,q _ _ (a10.refl H) i00⟩ (P21 hl.1 hl.2)
  |_=>cases e
 |tup a =>
  cases dy with
  |int j =>
   obtain⟨hl,e⟩:=f60 e;cases e;cases hy.i50;obtain⟨p,xs,rfl,h1,h2⟩:=hx.w10;exact C11 pins s σ H _ _ v u Q I rx ry ⟨p,j,xs,rfl,rfl,(a30 zA H).sqT h1,hl.1,hl.2.2,e10 (by rw[h2.length];exact hl.2.1),tupQ st (h2.rep _) q⟩
  |_=>cases e
 |lst a =>
  cases dy with
  |int j =>
   obtain⟨hl,e⟩:=f60 e;cases e;cases hy.i50;obtain⟨p,xs,rfl,h1,h2⟩:=hx.P90;exact D71 pins s σ H _ _ v u Q I rx ry ⟨p,j,xs,rfl,rfl,h1.same (a30 zA H),by omega,by omega,e10 (by rw[h2.length,mul_comm];exact hl.2.1),λr hr=>q _ _ (a10.new _ hr) (k90 st (h2.rep _) hr)⟩
  |_=>cases e
 |_=>cases e
theorem s21:OpR X (Â6 .FloorDiv) (rD2 X.K (W10 .fdiv)):=by
 intro pins s σ H x y v u Q I rx ry h;obtain⟨zA,z,dx,dy,w,st,hx,hy,e,q⟩:=h;cases dx with
 |int i =>
  cases dy with
  |int j =>
   obtain⟨hl,e⟩:=f60 e;cases e;cases hx.i50;cases hy.i50;obtain⟨t,rfl⟩:=rx;obtain⟨t',rfl⟩:=ry;refine floordiv_int ∅ ⟨.int (i / j),H,I.tok _,⟨s.toks,?_⟩,q _ _ (a10.refl H) i00⟩ (.inl (e51 hl.2))
   rw[Int.fdiv_eq_ediv_of_nonneg _ ∅]
  |_=>cases e
 |_=>cases e
theorem E11:OpR X (Â6 .Mod) (rD2 X.K (W10 .mod)):=by
 intro pins s σ H x y v u Q I rx ry h;obtain⟨zA,z,dx,dy,w,st,hx,hy,e,q⟩:=h;cases dx with
 |int i =>
  cases dy with
  |int j =>
   obtain⟨hl,e⟩:=f60 e;cases e;cases hx.i50;cases hy.i50;exact M31 pins s σ H _ _ v u Q I rx ry ⟨i,j,rfl,rfl,hl,q _ _ (a10.refl H) i00⟩
  |_=>cases e
 |_=>cases e
theorem E21:OpR X (Â6 .Pow) (rD2 X.K (W10 .pow)):=by
 intro pins s σ H x y v u Q I rx ry h;obtain⟨zA,z,dx,dy,w,st,hx,hy,e,q⟩:=h;cases dx with
 |int i =>
  cases dy with
  |int j =>
   obtain⟨hl,e⟩:=f60 e;cases e;cases hx.i50;cases hy.i50;exact M41 pins s σ H _ _ v u Q I rx ry ⟨i,j,rfl,rfl,⟨hl.1,by omega,hl.2.2⟩,q _ _ (a10.refl H) i00⟩
  |_=>cases e
 |_=>cases e
def opB:Bi->Operator
 |.add=>.Add | .sub=>.Sub | .mul=>.Mult | .fdiv=>.FloorDiv | .mod=>.Mod | .pow=>.Pow
theorem opD(o:Bi):OpR X (Â6 (opB o)) (rD2 X.K (W10 o)):=by
 cases o
 ·exact D81
 ·exact D91
 ·exact E01
 ·exact s21
 ·exact E11
 ·exact E21
mutual
noncomputable def toP:D->PyData
 |.non=>.none|.bl b=>.bool b|.int i=>.int i|.str x=>.str x|.tup l=>.tuple (F40 l)|.lst l=>.list (F40 l)|.dct=>.none
noncomputable def F40:List D->List PyData
 |[]=>[]|x::r=>toP x::F40 r
end
end
end Q
namespace Q
open PySem L2 PySem.Spec PyProof.Rows
variable [TB:Tb]
mutual
theorem I10:∀ a b:D,s40 a=true->s40 b=true->Ó9 (toP a) (toP b)=eqD a b
 |.non,b,_,h=>by cases b <;> first | rfl | (simp[s40] at h)
 |.bl _,b,_,h=>by cases b <;> first | rfl | (simp[s40] at h)
 |.int _,b,_,h=>by cases b <;> first | rfl | (simp[s40] at h)
 |.str _,b,_,h=>by cases b <;> first | rfl | (simp[s40] at h)
 |.tup l,b,ha,h=>by
  cases b with
  |tup q =>
   exact L60 l q (by simpa [s40] using ha) (by simpa [s40] using h)
  |dct=>simp[s40] at h|_=>rfl
 |.lst l,b,ha,h=>by
  cases b with
  |lst q =>
   exact L60 l q (by simpa [s40] using ha) (by simpa [s40] using h)
  |dct=>simp[s40] at h|_=>rfl
 |.dct,_,h,_=>by simp[s40] at h
theorem L60:∀ a b:List D,h60 a=true->h60 b=true->PyData.eqvAll (F40 a) (F40 b)=J71 a b
 |[],[],_,_=>rfl|[],_::_,_,_=>rfl|_::_,[],_,_=>rfl
 |x::r,y::q,ha,hb=>by
  simp only[h60,Â] at ha hb;simp only[F40,PyData.eqvAll,J71];rw[I10 x y ha.1 hb.1,L60 r q ha.2 hb.2]
end
mutual
theorem y90:∀ a:D,s40 a=true->(toP a).canLay0=true
 |.non,_=>rfl|.bl _,_=>rfl|.int _,_=>rfl|.str _,h=>h|.tup l,h=>w20 l h|.lst l,h=>w20 l h|.dct,h=>by cases h
theorem w20:∀ a:List D,h60 a=true->PyData.canLayAll0 (F40 a)=true
 |[],_=>rfl
 |x::r,h=>by
  simp only[h60,Â] at h;simp only[F40,PyData.canLayAll0,y90 x h.1,w20 r h.2,Bool.and_self]
end
mutual
theorem D20:∀ a:D,(toP a).depth=deep a
 |.non=>rfl|.bl _=>rfl|.int _=>rfl|.str _=>rfl|.tup l=>congrArg (· + 1) (D30 l)|.lst l=>congrArg (· + 1) (D30 l)|.dct=>rfl
theorem D30:∀ a:List D,Í6 (F40 a)=j40 a
 |[]=>rfl
 |x::r=>by
  simp only[F40,Í6,j40];rw[D20 x,D30 r]
end
def W60(h:á)(u:Ã)(d:D):Prop:=s40 d=true/\∃ as,Reads h u (toP d) as
def d80(h:á)(us:List Ã)(ds:List D):Prop:=h60 ds=true/\∃ as,ReadsAll h us (F40 ds) as
section
variable {X:Cx}{pins:List (Æ × Obj)}{σ:L2.St}{H:Hp}{s:Å}
mutual
theorem l90(I:Inv X pins σ H s):∀ {d:D}{v:V}{u:Ã},Hd X.K H d v->RelV v u->s40 d=true->∃ as,Reads s.heap u (toP d) as
 |.non,_,_,h,r,_=>by cases h.Z71;cases r;exact⟨_,.none⟩
 |.bl b,_,_,h,r,_=>by cases h.bl_;cases r;exact⟨_,.bool b⟩
 |.int i,_,_,h,r,_=>by cases h.i50;obtain⟨t,rfl⟩:=r;exact⟨_,.int i t⟩
 |.str x,_,_,h,r,_=>by cases h.d72;obtain⟨t,rfl⟩:=r;exact⟨_,.str x t⟩
 |.tup l,_,_,h,r,f=>by
  obtain⟨a,xs,rfl,h1,h2⟩:=h.w10;cases r;obtain⟨its,rv,⟨o,e1,e2,n,e3⟩,_⟩:=I.tuple h1;obtain⟨as,ra⟩:=D40 I h2 rv f;exact⟨_,.tuple e1 e2 e3 (by simpa using ra)⟩
 |.lst l,_,_,h,r,f=>by
  obtain⟨a,xs,rfl,h1,h2⟩:=h.P90;cases r;obtain⟨its,rv,⟨o,n,e1,e2,_,e3⟩,_⟩:=I.list h1.sq;obtain⟨as,ra⟩:=D40 I h2 rv f;exact⟨_,.list e1 e2 e3 (by simpa using ra)⟩
 |.dct,_,_,_,_,f=>by cases f
theorem D40(I:Inv X pins σ H s):∀ {ds:List D}{vs:List V}{us:List Ã},HdA X.K H ds vs->Vals vs us->h60 ds=true->∃ as,ReadsAll s.heap us (F40 ds) as
 |[],_,_,h,r,_=>by cases h.e70;cases r;exact⟨_,.nil⟩
 |d::ds,_,_,h,r,f=>by
  obtain⟨x,xs,rfl,h1,h2⟩:=h.c30;cases r with
  |cons r1 r2 =>
   simp only[h60,Â] at f;obtain⟨_,a1⟩:=l90 I h1 r1 f.1;obtain⟨_,a2⟩:=D40 I h2 r2 f.2;exact⟨_,.cons a1 a2⟩
end
end
theorem p60(h:okD d=true):s40 d=true/\SeqAt.shaped (toP d)=true:=by
 unfold okD at h;rw[Â,decide_eq_true_eq] at h;refine⟨h.1,?_⟩;unfold SeqAt.shaped;rw[y90 d h.1,D20,Â5,decide_eq_true_eq];omega
section
variable {X:Cx}
theorem P31(h:eqE a b=some c):∃ l,a=.tup l/\b=.tup []/\c=l.isEmpty:=by
 unfold eqE at h;split at h
 ·cases h;exact⟨_,rfl,rfl,rfl⟩
 ·cases h
theorem P41(hu:X.A.units + 64 < Å9):OpR X (ò .Eq) (rD2 X.K λa b=>(eqQ a b).map λc=>.d (.bl c)):=by
 intro pins s σ H x y v u Q I rx ry h;obtain⟨zA,z,dx,dy,w,st,hx,hy,e,q⟩:=h;unfold eqQ at e;dsimp only at e;split at e
 ·rename_i ok;cases e;rw[Â] at ok;obtain⟨f1,s1⟩:=p60 ok.1;obtain⟨f2,s2⟩:=p60 ok.2;obtain⟨as,r1⟩:=l90 I (hx.same (a30 zA H)) rx f1;obtain⟨bs,r2⟩:=l90 I (hy.same (a30 zA H)) ry f2;exact eq_dataH r1 r2 s1 s2 hu ⟨.bl _,H,I,rfl,by rw[I10 dx dy f1 f2];exact q _ _ (a10.refl H) h40⟩
 ·obtain⟨c,h1,h2⟩:=Í.mp e;obtain⟨l,rfl,rfl,rfl⟩:=P31 h1;subst h2;obtain⟨a,xs,rfl,k1,k2⟩:=hx.w10;obtain⟨b,ys,rfl,k3,k4⟩:=hy.w10;cases k4.e70;cases rx;cases ry;obtain⟨its,rv,ht,_⟩:=I.tuple ((a30 zA H).sqT k1);obtain⟨iu,ru,hu2,_⟩:=I.tuple ((a30 zA H).sqT k3);cases ru;have e1:its.length=l.length:=by rw[← rv.length,k2.length]
  refine SeqAt.eq_tupleAt (e:=λ_=>true) ht hu2 ∅ (λj _ h2=>absurd h2 (Ð1 j)) ⟨.bl _,H,I,rfl,?_⟩
  have e2:((ñ (min its.toArray.size ([]:List Ã).toArray.size)).all (λ_=>true)&&its.toArray.size == ([]:List Ã).toArray.size)=l.isEmpty:=by
   simp only[Ô,Ã2,Nat.min_zero,List.range_zero,all_nil,Â5,e1];cases l <;> rfl
  rw[e2];exact q _ _ (a10.refl H) h40
theorem P51(hu:X.A.units + 64 < Å9):OpR X (ò .NotEq) (rD2 X.K λa b=>(eqO a b).map λc=>.d (.bl !c)):=by
 intro pins s σ H x y v u Q I rx ry h;obtain⟨zA,z,dx,dy,w,st,hx,hy,e,q⟩:=h;unfold eqO at e;dsimp only at e;split at e
 ·rename_i ok;cases e;rw[Â] at ok;obtain⟨f1,s1⟩:=p60 ok.1;obtain⟨f2,s2⟩:=p60 ok.2;obtain⟨as,r1⟩:=l90 I (hx.same (a30 zA H)) rx f1;obtain⟨bs,r2⟩:=l90 I (hy.same (a30 zA H)) ry f2;exact ne_dataH r1 r2 s1 s2 hu ⟨.bl _,H,I,rfl,by rw[I10 dx dy f1 f2];exact q _ _ (a10.refl H) h40⟩
 ·cases e
theorem E31(hu:X.A.units + 64 < Å9):OpR X (ò .NotEq) (rD2 X.K λa b=>(neO a b).map λc=>.d (.bl c)):=by
 intro pins s σ H x y v u Q I rx ry h;obtain⟨zA,z,dx,dy,w,st,hx,hy,e,q⟩:=h;unfold neO at e;dsimp only at e;split at e
 ·cases e;unfold Hd at hx;obtain⟨a,kvs,rfl,h1⟩:=hx;obtain⟨b,xs,rfl,h2,_⟩:=hy.w10;exact C61 hu pins s σ H _ _ v u Q I rx ry ⟨a,b,kvs,xs,rfl,rfl,(l50 h1).1,(a30 zA H).sqT h2,q _ _ (a10.refl H) h40⟩
 ·refine P51 hu pins s σ H _ _ v u Q I rx ry ⟨zA,z,dx,dy,w,st,hx,hy,?_,q⟩;rw[← e,Option.map_map];rfl
end
theorem e61(h:Z31 l=true):h60 l=true/\j40 l<=39:=by
 unfold Z31 at h;rw[Â,decide_eq_true_eq] at h;exact h
theorem D50(h:okD d=true):deep d<=40:=by
 unfold okD at h;rw[Â,decide_eq_true_eq] at h;exact h.2
theorem L70(x:D)(fx:s40 x=true):∀ l:List D,h60 l=true->((F40 l).any λy=>Ó9 y (toP x))=memD x l
 |[],_=>rfl
 |y::r,h=>by
  simp only[h60,Â] at h;show(Ó9 (toP y) (toP x) || (F40 r).any λy=>Ó9 y (toP x))=(eqD y x || memD x r);rw[I10 y x h.1 fx,L70 x fx r h.2]
section
variable {X:Cx}
theorem e71(h:Z41 x l=some b):okD x=true/\Z31 l=true/\b=memD x l:=by
 unfold Z41 at h;split at h
 ·rename_i ok;rw[Â] at ok;cases h;exact⟨ok.1,ok.2,rfl⟩
 ·cases h
theorem room_in{A:ï}(hu:A.units + 64 < Å9){l:List D}{x:D}(h:okD x=true):A.units + 1 + min (Í6 (F40 l)) (toP x).depth < cLine:=by
 have h1:=D50 h;have h2:min (Í6 (F40 l)) (toP x).depth<=(toP x).depth:=Nat.min_le_right _ _;have h3:=D20 x;omega
theorem E41(hu:X.A.units + 64 < Å9):OpR X (ò .In) (rD2 X.K λa b=>(q40 .mem a b).map λc=>.d (.bl c)):=by
 intro pins s σ H x y v u Q I rx ry h;obtain⟨zA,z,dx,dy,w,st,hx,hy,e,q⟩:=h;cases dy with
 |tup l =>
  obtain⟨b,e1,e2⟩:=Í.mp e;subst e2;obtain⟨o1,o2,rfl⟩:=e71 e1;obtain⟨f2,_⟩:=e61 o2;obtain⟨f1,_⟩:=p60 o1;obtain⟨as,r1⟩:=l90 I (hx.same (a30 zA H)) rx f1;obtain⟨bs,r2⟩:=l90 I (hy.same (a30 zA H)) ry (by simpa [s40] using f2)
  exact SeqAt.in_tuple_reads r2 r1 (w20 l f2) (y90 dx f1) (room_in hu o1) ⟨.bl _,H,I,rfl,by rw[L70 dx f1 l f2];exact q _ _ (a10.refl H) h40⟩
 |lst l =>
  obtain⟨b,e1,e2⟩:=Í.mp e;subst e2;obtain⟨o1,o2,rfl⟩:=e71 e1;obtain⟨f2,_⟩:=e61 o2;obtain⟨f1,_⟩:=p60 o1;obtain⟨as,r1⟩:=l90 I (hx.same (a30 zA H)) rx f1;obtain⟨bs,r2⟩:=l90 I (hy.same (a30 zA H)) ry (by simpa [s40] using f2)
  exact SeqAt.in_list_reads r2 r1 (w20 l f2) (y90 dx f1) (room_in hu o1) ⟨.bl _,H,I,rfl,by rw[L70 dx f1 l f2];exact q _ _ (a10.refl H) h40⟩
 |_=>cases e
end
end Q
namespace Q
open PySem L2 PySem.Spec PyProof.Rows
variable [TB:Tb]
def e02(A:ï)(s:Å)(v u:Ã)(b:Bool):Prop:=∀ (P:Ø) (w:ì) (E:Ã->Å->Prop) (Q:Ã->Å->Prop),Q (.bool b) s->Ð (Õ P w) A (richCompare .Lt v u) Q E s
section
open PySem.SeqAt
open PySem.AutoSeq1 (wpAny_loadPart')
open PySem.MeetsSeq PySem.MeetsSeq2 PySem.MeetsSeq3
inductive Lx (A:Around) (s:Shared):List Value->List Value->Bool->Prop
 |nn:Lx A s [] [] false
 |nc {u us}:Lx A s [] (u::us) true
 |cn {v vs}:Lx A s (v::vs) [] false
 |eq {v u vs us b}:EqAt A s v u true->Lx A s vs us b->Lx A s (v::vs) (u::us) b
 |ne {v u vs us b}:EqAt A s v u false->e02 A s v u b->Lx A s (v::vs) (u::us) b
theorem L80(l b:Æ)(items items2:Array Ã)(n n2:Nat)(dd dd2:Option Æ)(sl sl2:Array (Option Ã))(c:Bool) :
  Meets (Â4.«tuple.__lt__» ⟨[.ref l,.ref b],[]⟩)
   (λA R s=>s.heap.get? l=some { cls:=.type "tuple",dict:=dd,data:=.seq items n,slots:=sl }/\s.heap.get? b=some { cls:=.type "tuple",dict:=dd2,data:=.seq items2 n2,slots:=sl2 } /\
    Lx A.in1 s items.toList items2.toList c/\R (.ok (.ret (.bool c))) s) :=
 .of_wp λprog w A R s h=>by
  obtain⟨hp,g,d,tk,os⟩:=s;obtain⟨hl,hb,hx,h⟩:=h;have f2:=Ô1
  wp_walk using Â1 hl,Â1 hb,wpAny_forIn_list _ (λrest b s'=>b.1=none/\s'=⟨hp,g,d,tk,os⟩/\∃ (vs ws:List Ã),rest=vs.zip ws /\
   vs.length + items2.size=ws.length + items.size/\Lx A.in1 ⟨hp,g,d,tk,os⟩ vs ws c) _
  case turn =>
   rintro ⟨y,x⟩ rest b s' ⟨hb',rfl,vs,ws,hz,hlen,hR⟩;cases hR with
   |nn=>rw[Ò1] at hz;cases hz
   |nc=>rw[Ò1] at hz;cases hz
   |cn=>rw[List.zip_nil_right] at hz;cases hz
   |eq he hr =>
    rw[Ç3] at hz;injection hz with hyx hrest;injection hyx with hy hx';subst hy hx';simp only[Ò] at hlen;refine Á (he prog w _ _ ?_)
    wp_walk
    exact⟨rfl,rfl,_,_,hrest,by omega,hr⟩
   |ne he hr =>
    rw[Ç3] at hz;injection hz with hyx hrest;injection hyx with hy hx';subst hy hx';refine Á (he prog w _ _ ?_);have hri:=λE Q q=>hr prog w E Q q
    wp_walk using hri
    exact⟨_,rfl,by simpa using h⟩
  case fin =>
   rintro ⟨b1,b2⟩ s' ⟨hb',rfl,vs,ws,hz,hlen,hR⟩;simp only at hb';subst hb';have hv:c=decide (items.size < items2.size):=by
    cases hR with
    |nn=>simp only[Ã2] at hlen;exact(decide_eq_false ∅).symm|nc=>simp only[Ã2,Ò] at hlen;exact(decide_eq_true ∅).symm|cn=>simp only[Ã2,Ò] at hlen;exact(decide_eq_false ∅).symm|eq he hr=>rw[Ç3] at hz;cases hz
    |ne he hr=>rw[Ç3] at hz;cases hz
   rw[hv] at h
   wp_walk
   exact⟨_,rfl,by simpa [tupleCompareSizes] using h⟩
  case h =>
   exact⟨rfl,rfl,items.toList,items2.toList,rfl,by simp;omega,hx⟩
end
theorem e81(hl:Í8 s.heap l i1)(hb:Í8 s.heap b i2)(hu:A.units < Å9)(hx:Lx A.in1 s i1.toList i2.toList c):e02 A s (.ref l) (.ref b) c:=by
 intro P w E Q h;obtain⟨⟨cls,dd,data,sl⟩,ho,hc,n,hd⟩:=id hl;obtain⟨⟨cls2,dd2,data2,sl2⟩,ho2,hc2,n2,hd2⟩:=id hb;simp only at hc hd hc2 hd2;subst hc hd hc2 hd2;exact richCompare_meets_room (op:=.Lt) ⟨_,ho,rfl⟩ ⟨_,ho2,rfl⟩ PySem.F.slot_tuple_lt PySem.F.entry_tuple_lt (PySem.F.args_tuple_lt_2 _ _) (L80 l b i1 i2 n n2 dd dd2 sl sl2 c)
  ⟨ho,ho2,hx,show É9 c≠Ï1/\Q (.bool c) s from⟨(λx=>nomatch x),h⟩⟩ hu
theorem P61(ha:W60 s.heap v a)(hb:W60 s.heap u b)(hu:A.units + deep a < Å9):Ð7 A s v u (eqD a b):=by
 obtain⟨f1,as,r1⟩:=ha;obtain⟨f2,bs,r2⟩:=hb;rw[← I10 a b f1 f2];have h:=D20 a;have h2:min (toP a).depth (toP b).depth<=(toP a).depth:=Nat.min_le_left _ _;exact SeqAt.eqAt_reads (toP a) (toP b) A s v u as bs r1 r2 (y90 a f1) (y90 b f2) ∅
theorem d80.c30(x:d80 h us (d::ds)):∃ u r,us=u::r/\W60 h u d/\d80 h r ds:=by
 obtain⟨f,as,r⟩:=x;simp only[h60,Â] at f;cases r with
 |cons r1 r2=>exact⟨_,_,rfl,⟨f.1,_,r1⟩,f.2,_,r2⟩
theorem d80.e70(x:d80 h us []):us=[]:=by
 obtain⟨_,as,r⟩:=x;cases r;rfl
theorem in1_units(A:ï):A.in1.units=A.units + 1:=rfl
theorem P71:∀ (n:Nat) {A:ï}{s:Å},
  (∀ (a b:D) (v u:Ã) (c:Bool),deep a<=n->W60 s.heap v a->W60 s.heap u b->ltD a b=some c->A.units + n < Å9->e02 A s v u c) /\
  (∀ (a b:List D) (vs us:List Ã) (c:Bool),j40 a < n->d80 s.heap vs a->d80 s.heap us b->D21 a b=some c->A.units + n < Å9->Lx A.in1 s vs us c):=by
 intro n
 induction n with
 |zero =>
  intro A s;refine⟨λa b v u c hd ha hb e hu=>?_,λa b vs us c hd=>absurd hd (Ð1 _)⟩;cases a with
  |int i =>
   cases b with
   |int j =>
    cases e;obtain⟨_,_,r1⟩:=ha;obtain⟨_,_,r2⟩:=hb;cases r1;cases r2;exact λP w E Q h=>HT.P00 A s i _ j _ P w E Q h
   |_=>cases e
  |tup l=>simp[deep] at hd|_=>cases e
 |succ n ih =>
  have rows:∀ {A:ï}{s:Å} (a b:List D) (vs us:List Ã) (c:Bool),j40 a < n + 1->d80 s.heap vs a->d80 s.heap us b->D21 a b=some c->A.units + (n + 1) < Å9->Lx A.in1 s vs us c:=by
   intro A s a
   induction a with
   |nil =>
    intro b vs us c _ ha hb e hu;cases ha.e70;cases b with
    |nil=>cases hb.e70;cases e;exact .nn
    |cons y q=>obtain⟨u,r,rfl,_⟩:=hb.c30;cases e;exact .nc
   |cons x r ihr =>
    intro b vs us c hd ha hb e hu;obtain⟨v,vs',rfl,a1,a2⟩:=ha.c30;cases b with
    |nil=>cases hb.e70;cases e;exact .cn
    |cons y q =>
     obtain⟨u,us',rfl,b1,b2⟩:=hb.c30;simp only[j40] at hd;have d1:deep x<=n:=Nat.le_of_lt_succ (Â9 (Nat.le_max_left _ _) hd);have d2:j40 r < n + 1:=Â9 (Nat.le_max_right _ _) hd;have hu1:A.in1.units + n < cLine:=by rw[in1_units];omega
     have he:=P61 (A:=A.in1) a1 b1 ∅
     simp only[D21] at e;cases hq:eqD x y with
     |true =>
      rw[hq] at he e;exact .eq he (ihr q vs' us' c d2 a2 b2 (by simpa using e) hu)
     |false =>
      rw[hq] at he e;exact .ne he ((ih (A:=A.in1) (s:=s)).1 x y v u c d1 a1 b1 (by simpa using e) hu1)
  intro A s;refine⟨λa b v u c hd ha hb e hu=>?_,rows⟩;cases a with
  |int i =>
   cases b with
   |int j =>
    cases e;obtain⟨_,_,r1⟩:=ha;obtain⟨_,_,r2⟩:=hb;cases r1;cases r2;exact λP w E Q h=>HT.P00 A s i _ j _ P w E Q h
   |_=>cases e
  |tup l =>
   cases b with
   |tup q =>
    obtain⟨f1,as,r1⟩:=ha;obtain⟨f2,bs,r2⟩:=hb;simp only[deep] at hd;cases r1 with
    |tuple k1 k2 k3 k4 =>
     cases r2 with
     |tuple m1 m2 m3 m4 =>
      exact e81 ⟨_,k1,k2,_,k3⟩ ⟨_,m1,m2,_,m3⟩ ∅ (rows l q _ _ c ∅ ⟨by simpa [s40] using f1,_,k4⟩ ⟨by simpa [s40] using f2,_,m4⟩ e hu)
   |_=>cases e
  |_=>cases e
section
variable {X:Cx}
theorem P81(h:ltO a b=some c):okD a=true/\okD b=true/\ltD a b=some c:=by
 unfold ltO at h;split at h
 ·rename_i ok;rw[Â] at ok;exact⟨ok.1,ok.2,h⟩
 ·cases h
theorem P91(hu:X.A.units + 64 < Å9):OpR X (ò .Lt) (rD2 X.K λa b=>(q40 .lt a b).map λc=>.d (.bl c)):=by
 intro pins s σ H x y v u Q I rx ry h;obtain⟨zA,z,dx,dy,w,st,hx,hy,e,q⟩:=h;obtain⟨b,e1,e2⟩:=Í.mp e;subst e2;obtain⟨o1,o2,e3⟩:=P81 (show ltO dx dy=some b from e1);obtain⟨f1,_⟩:=p60 o1;obtain⟨f2,_⟩:=p60 o2;obtain⟨as,r1⟩:=l90 I (hx.same (a30 zA H)) rx f1;obtain⟨bs,r2⟩:=l90 I (hy.same (a30 zA H)) ry f2;exact(P71 40 (A:=X.A) (s:=s)).1 dx dy v u b (D50 o1) ⟨f1,as,r1⟩ ⟨f2,bs,r2⟩ e3 ∅ _ _ _ _ ⟨.bl b,H,I,rfl,q _ _ (a10.refl H) h40⟩
theorem L90{K:À}{H:Hp}:∀ {l:List D}{ns:List Int}{vs:List V},L20 l=some ns->HdA K H l vs->vs=ns.map V.int/\l=ns.map D.int
 |[],_,_,e,h=>by cases e;rw[h.e70];exact⟨rfl,rfl⟩
 |.int i::r,_,_,e,h=>by
  obtain⟨ms,e1,rfl⟩:=Í.mp e;obtain⟨x,xs,rfl,h1,h2⟩:=h.c30;cases h1.i50;obtain⟨rfl,rfl⟩:=L90 e1 h2;exact⟨rfl,rfl⟩
 |.non::_,_,_,e,_=>by cases e
 |.bl _::_,_,_,e,_=>by cases e
 |.str _::_,_,_,e,_=>by cases e
 |.tup _::_,_,_,e,_=>by cases e
 |.lst _::_,_,_,e,_=>by cases e
 |.dct::_,_,_,e,_=>by cases e
theorem Q01(hu:X.A.units + 64 < Å9):OpR X (ò .LtE) (rD2 X.K λa b=>(q40 .le a b).map λc=>.d (.bl c)):=by
 intro pins s σ H x y v u Q I rx ry h;obtain⟨zA,z,dx,dy,w,st,hx,hy,e,q⟩:=h;cases dx with
 |int i =>
  cases dy with
  |int j =>
   cases e;cases hx.i50;cases hy.i50;exact b92 pins s σ H _ _ v u Q I rx ry ⟨i,j,rfl,rfl,q _ _ (a10.refl H) h40⟩
  |_=>cases e
 |tup a =>
  cases dy with
  |tup b =>
   obtain⟨c,e1,e2⟩:=Í.mp e;subst e2;obtain⟨ns,n1,e1⟩:=Ë.mp (show(L20 a).bind _=_ from e1);obtain⟨ms,n2,rfl⟩:=Í.mp e1;obtain⟨p,xs,rfl,h1,h2⟩:=hx.w10;obtain⟨p',ys,rfl,h3,h4⟩:=hy.w10;obtain⟨rfl,_⟩:=L90 n1 h2;obtain⟨rfl,_⟩:=L90 n2 h4;exact N91 ∅ pins s σ H _ _ v u Q I rx ry ⟨p,p',ns,ms,rfl,rfl,(a30 zA H).sqT h1,(a30 zA H).sqT h3,q _ _ (a10.refl H) h40⟩
  |_=>cases e
 |_=>cases e
theorem Q11:OpR X (ò .Gt) (rD2 X.K λa b=>(q40 .gt a b).map λc=>.d (.bl c)):=by
 intro pins s σ H x y v u Q I rx ry h;obtain⟨zA,z,dx,dy,w,st,hx,hy,e,q⟩:=h;cases dx with
 |int i =>
  cases dy with
  |int j =>
   cases e;cases hx.i50;cases hy.i50;exact c02 pins s σ H _ _ v u Q I rx ry ⟨i,j,rfl,rfl,q _ _ (a10.refl H) h40⟩
  |_=>cases e
 |_=>cases e
theorem Q21:OpR X (ò .GtE) (rD2 X.K λa b=>(q40 .ge a b).map λc=>.d (.bl c)):=by
 intro pins s σ H x y v u Q I rx ry h;obtain⟨zA,z,dx,dy,w,st,hx,hy,e,q⟩:=h;cases dx with
 |int i =>
  cases dy with
  |int j =>
   cases e;cases hx.i50;cases hy.i50;exact c12 pins s σ H _ _ v u Q I rx ry ⟨i,j,rfl,rfl,q _ _ (a10.refl H) h40⟩
  |_=>cases e
 |_=>cases e
theorem s31{K:À}{H:Hp}{d:D}{v:V}(h:Hd K H d v):decide (v=.non)=h90 d:=by
 cases d with
 |non=>cases h.Z71;rfl
 |bl b=>cases h.bl_;rfl
 |int i=>cases h.i50;rfl
 |str x=>cases h.d72;rfl
 |tup l=>obtain⟨a,xs,rfl,_⟩:=h.w10;rfl
 |lst l=>obtain⟨a,xs,rfl,_⟩:=h.P90;rfl
 |dct=>unfold Hd at h;obtain⟨a,kvs,rfl,_⟩:=h;rfl
theorem Q31:OpR X (ò .Is) (rD2 X.K λa b=>(q40 .is a b).map λc=>.d (.bl c)):=by
 intro pins s σ H x y v u Q I rx ry h;obtain⟨zA,z,dx,dy,w,st,hx,hy,e,q⟩:=h;cases dy with
 |bl b =>
  cases dx with
  |bl a =>
   cases e;cases hx.bl_;cases hy.bl_;exact O01 pins s σ H _ _ v u Q I rx ry ⟨a,b,rfl,rfl,q _ _ (a10.refl H) h40⟩
  |_=>cases e
 |non =>
  have e':some (S.d (.bl (h90 dx)))=some w:=by cases dx <;> exact e
  cases e';cases hy.Z71;refine M61 pins s σ H _ _ v u Q I rx ry ⟨rfl,?_⟩;rw[s31 hx];exact q _ _ (a10.refl H) h40
 |_=>cases dx <;> cases e
def opC:Cm->CmpOp
 |.eq=>.Eq | .ne=>.NotEq | .lt=>.Lt | .le=>.LtE | .gt=>.Gt | .ge=>.GtE | .is=>.Is | .mem=>.In
theorem n01(hu:X.A.units + 64 < Å9)(o:Cm):OpR X (ò (opC o)) (rD2 X.K λa b=>(q40 o a b).map λc=>.d (.bl c)):=by
 cases o
 ·exact P41 hu
 ·exact E31 hu
 ·exact P91 hu
 ·exact Q01 hu
 ·exact Q11
 ·exact Q21
 ·exact Q31
 ·exact E41 hu
theorem HdA.one{K:À}{H:Hp}{d:D}{xs:List V}(h:HdA K H [d] xs):∃ x,xs=[x]/\Hd K H d x:=by
 obtain⟨x,r,rfl,h1,h2⟩:=h.c30;rw[h2.e70];exact⟨x,rfl,h1⟩
theorem HdA.two{K:À}{H:Hp}{d e:D}{xs:List V}(h:HdA K H [d,e] xs):∃ x y,xs=[x,y]/\Hd K H d x/\Hd K H e y:=by
 obtain⟨x,r,rfl,h1,h2⟩:=h.c30;obtain⟨y,rfl,h3⟩:=h2.one;exact⟨x,y,rfl,h1,h3⟩
theorem e91{K:À}{zA:Option Æ}{H:Hp}{d:D}{l:List D}{v:V}(h:Hd K (hz zA H) d v)(e:r81 d=some l):∃ a xs,v=.ref a/\(SqL K H a xs∨SqT K H a xs)/\HdA K (hz zA H) l xs:=by
 cases d with
 |tup m =>
  cases e;obtain⟨a,xs,rfl,h1,h2⟩:=h.w10;exact⟨a,xs,rfl,.inr ((a30 zA H).sqT h1),h2⟩
 |lst m =>
  cases e;obtain⟨a,xs,rfl,h1,h2⟩:=h.P90;exact⟨a,xs,rfl,.inl (h1.same (a30 zA H)).sq,h2⟩
 |_=>cases e
theorem Q41:g90 X (.builtin "len") (rDn X.K (bfD .len)):=by
 intro pins s σ H xs us Q I r h;obtain⟨zA,z,ds,w,st,hx,e,q⟩:=h
 match ds,e with
 |[d],e =>
  obtain⟨l,e1,rfl⟩:=Í.mp (show(r81 d).map _=some w from e);obtain⟨x,rfl,h1⟩:=hx.one;obtain⟨a,ys,rfl,h2,h3⟩:=e91 h1 e1;exact G60 pins s σ H _ us Q I r ⟨a,ys,rfl,h2,by rw[h3.length];exact q _ _ (a10.refl H) i00⟩
theorem s41:g90 X (.type "tuple") (rDn X.K (bfD .tuple)):=by
 intro pins s σ H xs us Q I r h;obtain⟨zA,z,ds,w,st,hx,e,q⟩:=h
 match ds,e with
 |[d],e =>
  obtain⟨l,e1,rfl⟩:=Í.mp (show(r81 d).map _=some w from e);obtain⟨x,rfl,h1⟩:=hx.one;obtain⟨a,ys,rfl,h2,h3⟩:=e91 h1 e1;refine B50 pins s σ H _ us Q I r ⟨a,ys,rfl,?_⟩;rcases h2 with h2 | h2
  ·refine .inl ⟨h2,λp hp=>q _ _ (a10.new _ hp) (m91 (Hd.tup ((st.same (a10.new _ hp)).D51 (SqT.of a90)) (h3.same (h30 (a10.new _ hp)))))⟩
  ·exact .inr ⟨h2,q _ _ (a10.refl H) (m91 (Hd.tup (st.D51 h2) h3))⟩
theorem E51:g90 X (.type "list") (rDn X.K (bfD .list)):=by
 intro pins s σ H xs us Q I r h;obtain⟨zA,z,ds,w,st,hx,e,q⟩:=h
 match ds,e with
 |[d],e =>
  obtain⟨l,e1,rfl⟩:=Í.mp (show(r81 d).map _=some w from e);obtain⟨x,rfl,h1⟩:=hx.one;obtain⟨a,ys,rfl,h2,h3⟩:=e91 h1 e1;exact G70 pins s σ H _ us Q I r ⟨a,ys,rfl,h2,λp hp=>q _ _ (a10.new _ hp) (k90 st h3 hp)⟩
theorem x21{K:À}{H:Hp}:∀ {l:List D}{bs:List Bool}{vs:List V},l.mapM asB=some bs->HdA K H l vs->vs=bs.map V.bl
 |[],_,_,e,h=>by simp at e;subst e;rw[h.e70];rfl
 |x::r,_,_,e,h=>by
  simp only[List.mapM_cons,bind,Ë] at e;obtain⟨b,e1,bs,e2,e3⟩:=e;cases e3;obtain⟨y,ys,rfl,h1,h2⟩:=h.c30;cases x with
  |bl c=>cases e1;cases h1.bl_;rw[x21 e2 h2];rfl
  |_=>cases e1
theorem Q51(hc:X.calm=true):g90 X (.builtin "all") (rDn X.K (bfD .all)):=by
 intro pins s σ H xs us Q I r h;obtain⟨zA,z,ds,w,st,hx,e,q⟩:=h
 match ds,e with
 |[.lst l],e =>
  obtain⟨bs,e1,rfl⟩:=Í.mp (show(l.mapM asB).map _=some w from e);obtain⟨x,rfl,h1⟩:=hx.one;obtain⟨a,ys,rfl,h2,h3⟩:=h1.P90;rw[x21 e1 h3] at h2;exact p61 hc pins s σ H _ us Q I r ⟨a,bs,rfl,(h2.same (a30 zA H)).sq,q _ _ (a10.refl H) h40⟩
theorem Q61(hc:X.calm=true):g90 X (.builtin "min") (rDn X.K (bfD .min)):=by
 intro pins s σ H xs us Q I r h;obtain⟨zA,z,ds,w,st,hx,e,q⟩:=h
 match ds,e with
 |[.int i,.int j],e =>
  cases e;obtain⟨x,y,rfl,h1,h2⟩:=hx.two;cases h1.i50;cases h2.i50;exact Z10 hc pins s σ H _ us Q I r ⟨i,j,rfl,q _ _ (a10.refl H) i00⟩
theorem Q71(hc:X.calm=true):g90 X (.builtin "max") (rDn X.K (bfD .max)):=by
 intro pins s σ H xs us Q I r h;obtain⟨zA,z,ds,w,st,hx,e,q⟩:=h
 match ds,e with
 |[.int i,.int j],e =>
  cases e;obtain⟨x,y,rfl,h1,h2⟩:=hx.two;cases h1.i50;cases h2.i50;exact Z00 hc pins s σ H _ us Q I r ⟨i,j,rfl,q _ _ (a10.refl H) i00⟩
theorem Q81:g90 X (.type "int") (rDn X.K (bfD .int)):=by
 intro pins s σ H xs us Q I r h;obtain⟨zA,z,ds,w,st,hx,e,q⟩:=h
 match ds,e with
 |[.int i],e =>
  cases e;obtain⟨x,rfl,h1⟩:=hx.one;cases h1.i50;exact F90 pins s σ H _ us Q I r (.inl ⟨i,rfl,q _ _ (a10.refl H) i00⟩)
 |[.bl b],e =>
  cases e;obtain⟨x,rfl,h1⟩:=hx.one;cases h1.bl_;exact F90 pins s σ H _ us Q I r (.inr ⟨b,rfl,q _ _ (a10.refl H) i00⟩)
def tyN:Ty->String
 |.int=>"int" | .bool=>"bool" | .tuple=>"tuple" | .list=>"list" | .str=>"str" | .seq=>""
theorem E61(t:Ty)(d:D)(h:t≠.seq):isB d.ty (tyN t)=J81 t d:=by
 cases t <;> cases d <;> first | rfl | (exact absurd rfl h) | decide
theorem s51(d:D):(isB d.ty "tuple" || isB d.ty "list")=J81 .seq d:=by cases d <;> rfl
theorem at_of{K:À}{H:Hp}{l:List D}{xs:List V}{i:Int}{d:D}(h:HdA K H l xs)(e:atI l i=some d):∃ v,atI xs i=some v/\Hd K H d v:=by
 unfold atI at e ⊢;obtain⟨j,e1,e2⟩:=Ë.mp e;rw[h.length,e1];exact h.get e2
theorem ixD:IxR X (rD2 X.K λa b=>(d81 a b).map S.d):=by
 intro value slice pins s σ H x y v u Q I rx ry h hs;obtain⟨zA,z,dx,dy,w,st,hx,hy,e,q⟩:=h;obtain⟨r,e1,rfl⟩:=Í.mp e;cases dx with
 |tup l =>
  cases dy with
  |int i =>
   cases hy.i50;obtain⟨a,xs,rfl,h1,h2⟩:=hx.w10;obtain⟨v',e2,h3⟩:=at_of h2 e1;exact N11 value slice pins s σ H _ _ v u Q I rx ry ⟨a,xs,i,v',rfl,rfl,(a30 zA H).sqT h1,e2,q _ _ (a10.refl H) (m91 h3)⟩ hs
  |_=>cases e1
 |lst l =>
  cases dy with
  |int i =>
   cases hy.i50;obtain⟨a,xs,rfl,h1,h2⟩:=hx.P90;obtain⟨v',e2,h3⟩:=at_of h2 e1;exact K40 value slice pins s σ H _ _ v u Q I rx ry ⟨a,xs,i,v',rfl,rfl,(h1.same (a30 zA H)).sq,e2,q _ _ (a10.refl H) (m91 h3)⟩ hs
  |_=>cases e1
 |_=>cases e1
theorem x31{K:À}{H:Hp}{l:List D}{xs:List V}(h:HdA K H l xs)(lo hi:Option Int):HdA K H (cutD l lo hi) (o41 xs lo hi):=by
 unfold cutD o41;rw[h.length];exact(h.drop _).take _
def q72(K:À):V->Option Int->Option Int->Hp->VK->Prop:=λx lo hi H Q=>∃ zA z dx s,c50 zA z H/\Hd K (hz zA H) dx x/\slD dx lo hi=some s/\∀ v H',a10 H H'->RvS K zA H H' s v->Q v H'
theorem q82:SlR X (q72 X.K):=by
 intro pins s σ H x v vl vu lo hi sl Q I rx hs pl pu h;obtain⟨zA,z,dx,w,st,hx,e,q⟩:=h;cases dx with
 |tup l =>
  cases e;obtain⟨a,xs,rfl,h1,h2⟩:=hx.w10;exact C21 pins s σ H _ v vl vu lo hi sl Q I rx hs pl pu ⟨a,xs,rfl,(a30 zA H).sqT h1,tupQ st (x31 h2 lo hi) q⟩
 |lst l =>
  cases e;obtain⟨a,xs,rfl,h1,h2⟩:=hx.P90;exact B21 pins s σ H _ v vl vu lo hi sl Q I rx hs pl pu ⟨a,xs,rfl,(h1.same (a30 zA H)).sq,λp hp=>q _ _ (a10.new _ hp) (k90 st (x31 h2 lo hi) hp)⟩
 |_=>cases e
end
end Q
namespace Q
open PySem L2 PySem.Spec PyProof.Rows
open PySem.W (KatLex KatTups kat_nil kat_cons kat_go kat_yes kat_no kat_one kat_lt kat_kind kas_kind kat_lt_int)
theorem j60(k:D):∀ l,(d71 k l).Perm (k::l)
 |[]=>.refl _
 |y::r=>by
  unfold d71;split
  ·exact((j60 k r).cons y).trans (.swap _ _ _)
  ·exact .refl _
theorem e80:∀ l,(d70 l).Perm l
 |[]=>.refl _|k::r=>(j60 k _).trans ((e80 r).cons k)
theorem f01(k:D):∀ l,l.Pairwise (λx y=>MySort.f80 (flt y) (flt x)=false)->(d71 k l).Pairwise (λx y=>MySort.f80 (flt y) (flt x)=false)
 |[],_=>Ö3 _ _
 |y::r,h=>by
  obtain⟨h1,h2⟩:=Ð9.mp h;unfold d71;split
  ·rename_i hy;refine Ð9.mpr ⟨λz hz=>?_,f01 k r h2⟩;rcases ý.mp ((j60 k r).mem_iff.mp hz) with rfl | hz
   ·cases q:MySort.f80 (flt z) (flt y) with
    |false=>rfl|true=>have:=MySort.m70 _ _ _ hy q;rw[MySort.n90] at this;cases this
   ·exact h1 z hz
  ·rename_i hy;refine Ð9.mpr ⟨λz hz=>?_,h⟩;rcases ý.mp hz with rfl | hz
   ·simpa using hy
   ·cases q:MySort.f80 (flt z) (flt k) with
    |false=>rfl
    |true =>
     rcases MySort.P30 _ (flt y) _ q with q | q
     ·rw[h1 z hz] at q;cases q
     ·exact absurd q hy
theorem Q20:∀ l,(d70 l).Pairwise (λx y=>MySort.f80 (flt y) (flt x)=false)
 |[]=>.nil|k::r=>f01 k _ (Q20 r)
mutual
theorem x41:∀ x y:D,eqT x y=true->x=y
 |.int i,y,h=>by
  cases y with
  |int j=>rw[eq_of_beq (show(i == j)=true from h)]|_=>cases h
 |.tup a,y,h=>by
  cases y with
  |tup b=>rw[f11 a b h]|_=>cases h
 |.non,y,h=>by cases y <;> cases h
 |.bl _,y,h=>by cases y <;> cases h
 |.str _,y,h=>by cases y <;> cases h
 |.lst _,y,h=>by cases y <;> cases h
 |.dct,y,h=>by cases y <;> cases h
theorem f11:∀ x y:List D,r91 x y=true->x=y
 |[],[],_=>rfl|[],_::_,h=>by cases h
 |_::_,[],h=>by cases h
 |x::r,y::q,h=>by
  have h:(eqT x y&&r91 r q)=true:=h;rw[Â] at h;rw[x41 x y h.1,f11 r q h.2]
end
variable [TB:Tb]
theorem E71(ok:∀ x∈l,∀ y∈l,flt x=flt y->x=y)(h:MySort.sortedBy (l.map flt) p):(p.map λi=>l.getD i .non)=d70 l:=by
 have h1:=h.1.map λi=>l.getD i .non;rw[É,MySort.range_getD] at h1;have e:((p.map λi=>l.getD i .non).map flt)=p.map λi=>(l.map flt).getD i []:=by
  rw[À4];refine Ë5 λi hi=>?_;have:i < l.length:=by have:=h.1.mem_iff.mp hi;simpa using this
  simp[this]
 have h2:(p.map λi=>l.getD i .non).Pairwise λx y=>MySort.f80 (flt y) (flt x)=false:=by
  have:=h.2;rw[← e,List.pairwise_map] at this;exact this
 refine Ó6 (le:=λx y=>MySort.f80 (flt y) (flt x)=false) (λa b ha hb p q=>?_) h2 (Q20 l) (h1.trans (e80 l).symm);exact ok a (h1.mem_iff.mp ha) b ((e80 l).mem_iff.mp hb) (MySort.m80 _ _ q p)
mutual
theorem s61(kp:MySort.b61 h h'):∀ (d:D) {u:Ã}{as:List Æ},eqT d d=true->Reads h u (toP d) as->Reads h' u (toP d) as
 |.int i,_,_,_,r=>by cases r;exact .int _ _
 |.tup l,_,_,e,r=>by
  cases r with
  |tuple k1 k2 k3 k4=>exact .tuple (kp _ _ k1 k2) k2 k3 (p70 kp l e k4)
 |.non,_,_,e,_=>by cases e
 |.bl _,_,_,e,_=>by cases e
 |.str _,_,_,e,_=>by cases e
 |.lst _,_,_,e,_=>by cases e
 |.dct,_,_,e,_=>by cases e
theorem p70(kp:MySort.b61 h h'):∀ (l:List D) {us:List Ã}{as:List Æ},r91 l l=true->ReadsAll h us (F40 l) as->ReadsAll h' us (F40 l) as
 |[],_,_,_,r=>by cases r;exact .nil
 |x::q,_,_,e,r=>by
  have e:(eqT x x&&r91 q q)=true:=e;rw[Â] at e;cases r with
  |cons r1 r2=>exact .cons (s61 kp x e.1 r1) (p70 kp q e.2 r2)
end
theorem d80.get:∀ {us:List Ã}{l:List D}{i:Nat}{d:D},d80 h us l->l[i]?=some d->W60 h (us.getD i å) d
 |_,[],i,d,_,e=>by cases e
 |us,x::r,i,d,hd,e=>by
  obtain⟨u,q,rfl,h1,h2⟩:=hd.c30;cases i with
  |zero=>cases e;simpa using h1
  |succ i=>simpa using d80.get h2 (by simpa using e)
theorem d80.len:∀ {us:List Ã}{l:List D},d80 h us l->us.length=l.length
 |_,[],hd=>by rw[hd.e70];rfl
 |us,x::r,hd=>by
  obtain⟨u,q,rfl,h1,h2⟩:=hd.c30;simp[d80.len h2]
def x51(l:List D):Prop:=∀ x r,l=x::r->∃ i,x=.int i
theorem m32(hu:A.units + 40 < Å9):∀ (a c:List D) {vs us:List Ã}{r:Bool} (i:Nat),d80 s.heap vs a->d80 s.heap us c->D21 a c=some r->j40 a<=39 ->
  ((b&&i == 0)=true->x51 a/\x51 c)->fin=decide (vs.length < us.length)->Q r s->KatLex P w A b fin Q (vs.zip us) i s
 |[],[],_,_,r,i,ha,hc,e,_,_,hf,q=>by
  cases ha.e70;cases hc.e70;cases e;subst hf;exact kat_nil q
 |[],y::t,_,_,r,i,ha,hc,e,_,_,hf,q=>by
  cases ha.e70;obtain⟨u,us,rfl,_,_⟩:=hc.c30;cases e;subst hf;exact kat_nil q
 |x::l,[],_,_,r,i,ha,hc,e,_,_,hf,q=>by
  cases hc.e70;obtain⟨v,vs,rfl,_,_⟩:=ha.c30;cases e;subst hf;exact kat_nil q
 |x::l,y::t,_,_,r,i,ha,hc,e,hd,hi,hf,q=>by
  obtain⟨v,vs,rfl,a1,a2⟩:=ha.c30;obtain⟨u,us,rfl,c1,c2⟩:=hc.c30;have d1:deep x<=39:=ë (Nat.le_max_left _ _) hd;have d2:j40 l<=39:=ë (Nat.le_max_right _ _) hd;have e:(if eqD x y=true then D21 l t else ltD x y)=some r:=e;refine kat_cons (P61 (A:=A) a1 c1 ∅ P w _ _ ?_)
  refine kat_go (λz=>?_) λz=>?_
  ·rw[if_pos z] at e;refine kat_yes (m32 hu l t (i + 1) a2 c2 e d2 (λk=>?_) (by rw[hf];simp) q)
   simp at k
  ·rw[if_neg (by rw[z];exact Ï)] at e
   refine kat_no ?_;cases hb:(b&&i == 0) with
   |true =>
    obtain⟨f1,f2⟩:=hi hb;obtain⟨m,rfl⟩:=f1 x l rfl;obtain⟨n,rfl⟩:=f2 y t rfl;cases e;obtain⟨_,_,r1⟩:=a1;obtain⟨_,_,r2⟩:=c1;cases r1;cases r2;exact oneLt_int q
   |false=>exact kat_one _ _ ((P71 39 (A:=A) (s:=s)).1 x y v u r d1 a1 c1 e ∅ P w _ _ q)
theorem M00(h:P60 x=0):∃ i,x=.int i:=by
 cases x with
 |int i=>exact⟨i,rfl⟩
 |tup l =>
  cases l with
  |nil=>cases h
  |cons y r=>cases y <;> cases h
 |_=>cases h
theorem M10(h:P60 x=k)(h1:1<=k)(h3:k < 3):∃ y r,x=.tup (y::r)/\(k=1->∃ i,y=.int i)/\(k=2->∃ l,y=.tup l):=by
 cases x with
 |tup l =>
  cases l with
  |nil=>have:k=3:=h.symm;omega
  |cons y r =>
   refine⟨y,r,rfl,λe=>?_,λe=>?_⟩ <;> subst e <;> cases y <;> first | exact⟨_,rfl⟩ | cases h
 |int i=>have:k=0:=h.symm;omega|_=>have:k=3:=h.symm;omega
theorem E81(h1:1<=k)(h3:k < 3):∀ {us:List Ã}{l:List D},d80 h us l->(∀ x∈l,P60 x=k)->∃ fs,KatTups h us fs/\fs.length=us.length/\∀ v∈fs,(k=1->∃ i t,v=Ã.int i t)/\(k=2->∃ a o,v=Á9 a/\h.get? a=some o/\o.cls=.type "tuple")
 |_,[],hd,_=>by rw[hd.e70];exact⟨[],.nil,rfl,λv hv=>absurd hv (by simp)⟩
 |_,x::r,hd,hk=>by
  obtain⟨u,q,rfl,⟨_,as,r1⟩,h2⟩:=hd.c30;obtain⟨fs,t1,t2,t3⟩:=E81 h1 h3 h2 λy hy=>hk y (Î _ hy);obtain⟨y,l,rfl,y1,y2⟩:=M10 (hk x Ó) h1 h3;cases r1 with
  | @tuple a o vs n xs as k1 k2 k3 k4 =>
   cases hv:vs.toList with
   |nil=>rw[hv] at k4;cases k4
   |cons f fr =>
    rw[hv] at k4;cases k4 with
    |cons f1 f2 =>
     refine⟨f::fs,.cons k1 k2 k3 (by rw[← Å1,hv];rfl) t1,by simp[t2],λv hm=>?_⟩
     rcases ý.mp hm with rfl | hm
     ·refine⟨λe=>?_,λe=>?_⟩
      ·obtain⟨i,rfl⟩:=y1 e;cases f1;exact⟨_,_,rfl⟩
      ·obtain⟨m,rfl⟩:=y2 e;cases f1 with
       |tuple g1 g2 g3 g4=>exact⟨_,_,rfl,g1,g2⟩
     ·exact t3 v hm
def kdOf:Nat->Ô3
 |0=>oneType'|1=>tuples' true|_=>tuples' false
theorem M20(h:e30 x y=true):P60 y=P60 x/\ltD x y=some (MySort.f80 (flt x) (flt y))/\(flt x=flt y->x=y):=by
 unfold e30 at h;rw[Â,Â,Ã9] at h;refine⟨eq_of_beq h.1,eq_of_beq h.2.1,λe=>?_⟩;rcases h.2.2 with k | k
 ·exact x41 _ _ k
 ·rw[e] at k;simp at k
theorem Q91{P:Ø}{w:ì}{A:ï}{s:Å}{us:List Ã}{l:List D}{k:Nat}(hd:d80 s.heap us l)(k3:k < 3)(hk:∀ x∈l,P60 x=k)(h2:2<=us.length)(E:Ã->Å->Prop)(Q:Ô3->Å->Prop)(q:Q (kdOf k) s):Ð (Õ P w) A (keyKind' us.toArray) Q E s:=by
 match k,k3,hk,q with
 |0,_,hk,q =>
  refine kas_kind h2 (T:=.type "int") (λv hv=>?_) rfl rfl q;obtain⟨i,hi,rfl⟩:=List.mem_iff_getElem.mp hv;have hi':i < l.length:=by rw[← hd.len];exact hi
  obtain⟨_,as,r⟩:=hd.get (i:=i) (d:=l[i]) (by simp[hi'])
  obtain⟨n,hn⟩:=M00 (hk l[i] (Ã6 hi'));rw[hn] at r;have e:us.getD i å=us[i]:=by simp[hi]
  rw[e] at r;generalize us[i]=v at r;cases r;exact Ó1 rfl
 |1,_,hk,q =>
  obtain⟨fs,t1,t2,t3⟩:=E81 (-0) (-0) hd hk
  exact kat_kind (T:=.type "int") t1 ∅ (λv hv=>by obtain⟨i,t,rfl⟩:=(t3 v hv).1 rfl;exact Ó1 rfl) rfl q
 |2,_,hk,q =>
  obtain⟨fs,t1,t2,t3⟩:=E81 (-0) (-0) hd hk
  exact kat_kind (T:=.type "tuple") t1 ∅ (λv hv=>by
   obtain⟨a,o,rfl,g1,g2⟩:=(t3 v hv).2 rfl;rw[← g2];exact(Ï2 g1).andThen .now) rfl q
theorem e12{P:Ø}{w:ì}{A:ï}{s:Å}{us:List Ã}{l:List D}{k:Nat}(hd:d80 s.heap us l)(hu:A.units + 40 < Å9)(k3:k < 3)(hk:∀ x∈l,P60 x=k)(ho:∀ x∈l,okD x=true)(hp:∀ x∈l,∀ y∈l,e30 x y=true)(i j:Nat)(hi:i < us.length)(hj:j < us.length)(E:Ã->Å->Prop)(C:Bool->Å->Prop)(hC:C (MySort.f80 ((l.map flt).getD i []) ((l.map flt).getD j [])) s):Ð (Õ P w) A (keyLt' (kdOf k) (us.getD i å) (us.getD j å)) C E s:=by
 have hi':i < l.length:=by rw[← hd.len];exact hi
 have hj':j < l.length:=by rw[← hd.len];exact hj
 have mi:=Ã6 hi';have mj:=Ã6 hj';obtain⟨_,h2,_⟩:=M20 (hp _ mi _ mj);have a1:=hd.get (i:=i) (d:=l[i]) (by simp[hi'])
 have b1:=hd.get (i:=j) (d:=l[j]) (by simp[hj'])
 have e1:(l.map flt).getD i []=flt l[i]:=by simp[hi']
 have e2:(l.map flt).getD j []=flt l[j]:=by simp[hj']
 rw[e1,e2] at hC;generalize MySort.f80 (flt l[i]) (flt l[j])=c at h2 hC;have kx:=hk _ mi;have ky:=hk _ mj;have ox:=D50 (ho _ mi);generalize l[i]=x at *
 generalize l[j]=y at *
 have tup:∀ b:Bool,1<=k->(b=true->k=1)->Ð (Õ P w) A (keyLt' (tuples' b) (us.getD i å) (us.getD j å)) C E s:=λb h1 hb=>by
  obtain⟨x1,xr,rfl,x2,_⟩:=M10 kx h1 k3;obtain⟨y1,yr,rfl,y2,_⟩:=M10 ky h1 k3;obtain⟨f1,as,r1⟩:=a1;obtain⟨f2,bs,r2⟩:=b1;generalize us.getD i å=v at r1;generalize us.getD j å=u at r2;cases r1 with
  |tuple p1 p2 p3 p4 =>
   cases r2 with
   |tuple q1 q2 q3 q4 =>
    refine kat_lt p1 p3 q1 q3 (m32 hu (x1::xr) (y1::yr) 0 ⟨f1,_,p4⟩ ⟨f2,_,q4⟩ h2 (by have:deep (.tup (x1::xr))=j40 (x1::xr) + 1:=rfl;omega) (λz=>?_) (by simp) hC)
    have hb1:=hb (by simpa using z)
    exact⟨λa q e=>by cases e;exact x2 hb1,λa q e=>by cases e;exact y2 hb1⟩
 match k,k3,kx,ky,tup with
 |0,_,kx,ky,_ =>
  obtain⟨m,rfl⟩:=M00 kx;obtain⟨n,rfl⟩:=M00 ky;cases h2;obtain⟨_,_,r1⟩:=a1;obtain⟨_,_,r2⟩:=b1;generalize us.getD i å=v at r1;generalize us.getD j å=u at r2;cases r1;cases r2;exact kat_lt_int hC
 |1,_,_,_,tup=>exact tup true (-0) λ_=>rfl|2,_,_,_,tup=>exact tup false (-0) λh=>by cases h
theorem R01(h64:us.length < 64)(hd:d80 s.heap us l)(hu:A.units + 40 < Å9)(k3:k < 3)(hk:∀ x∈l,P60 x=k)(ho:∀ x∈l,okD x=true)(hp:∀ x∈l,∀ y∈l,e30 x y=true):MySort.N71 P w A s us (MySort.sortedBy (l.map flt)) (kdOf k) where
 len:=by omega
 few h2:=MySort.N81 (by rw[É];exact hd.len) h2
 all p hp:=by rw[hp.1.length_eq,õ,É,hd.len]
 kind:=Q91 hd k3 hk
 run:=MySort.B81 (by rw[É];exact hd.len) h64 (e12 hd hu k3 hk ho hp)
theorem HdA.pick{K:À}{H:Hp}{l:List D}{vs:List V}(h:HdA K H l vs):∀ {p:List Nat},(∀ i∈p,i < l.length)->HdA K H (p.map λi=>l.getD i .non) (p.map λi=>vs.getD i .non)
 |[],_=>.nil
 |i::p,hp=>by
  have hi:=hp i Ó;refine .cons ?_ (HdA.pick h λj hj=>hp j (Î _ hj));obtain⟨v,e1,e2⟩:=h.get (i:=i) (d:=l[i]) (by simp[hi])
  have g1:l.getD i .non=l[i]:=by simp[hi]
  have g2:vs.getD i .non=v:=by rw[Â8,e1];rfl
  show Hd K H (l.getD i .non) (vs.getD i .non);rw[g1,g2];exact e2
end Q
namespace Q
open PySem L2 PySem.Spec PyProof.Rows
variable [TB:Tb]
section
variable {X:Cx}
theorem E91{zA:Option Æ}{H:Hp}{l:List D}{xs:List V}{Pr:List Nat->Prop}(hd:HdA X.K H l xs)(ok:l70 l=true)(mk:∀ (s:Å) (us:List Ã) (k:Nat),us.length=l.length->d80 s.heap us l->k < 3->(∀ x∈l,P60 x=k)->(∀ x∈l,okD x=true)->(∀ x∈l,∀ y∈l,e30 x y=true)->MySort.N71 X.prog X.w X.A.in1.in1 s us Pr (kdOf k)):C41 X H xs Pr:=by
 intro pins σ s us I rv;have hlen:us.length=l.length:=by rw[← rv.length,hd.length]
 have all:∀ x∈l,P60 x < 3/\okD x=true/\∀ y∈l,e30 x y=true:=λx hx=>by
  have:=æ.mp ok x hx;rw[Â,Â,decide_eq_true_eq,Ã7] at this;exact⟨this.1,this.2.1,this.2.2⟩
 have hf:h60 l=true:=by
  clear hd mk hlen
  induction l with
  |nil=>rfl
  |cons x r ih =>
   have h1:=(p60 (all x Ó).2.1).1;show(s40 x&&h60 r)=true;rw[h1];have ok':l70 r=true:=æ.mpr λy hy=>by
    obtain⟨a,b,c⟩:=all y (Î _ hy);rw[Â,Â,decide_eq_true_eq,Ã7];exact⟨a,b,λz hz=>c z (Î _ hz)⟩
   exact ih ok' λy hy=>⟨(all y (Î _ hy)).1,(all y (Î _ hy)).2.1,λz hz=>(all y (Î _ hy)).2.2 z (Î _ hz)⟩
 obtain⟨as,ra⟩:=D40 I hd rv hf;have pure:r91 l l=true:=by
  clear hd ra hf ok;have:∀ q:List D,(∀ x∈q,eqT x x=true)->r91 q q=true:=λq=>by
   induction q with
   |nil=>intro _;rfl|cons x r ih=>intro h;show(eqT x x&&r91 r r)=true;rw[h x Ó,ih λy hy=>h y (Î _ hy)];rfl
  refine this l λx hx=>?_;have h:=(all x hx).2.2 x hx;unfold e30 at h;rw[Â,Â,Ã9] at h;rcases h.2.2 with k | k
  ·exact k
  ·simp at k
 cases l with
 |nil=>exact⟨kdOf 0,λh' kp=>mk _ _ _ hlen ⟨hf,_,p70 kp _ pure ra⟩ (-0) (λx hx=>absurd hx (by simp)) (λx hx=>absurd hx (by simp)) λx hx=>absurd hx (by simp)⟩
 |cons x r =>
  have hx:=all x Ó;exact⟨kdOf (P60 x),λh' kp=>mk _ _ _ hlen ⟨hf,_,p70 kp _ pure ra⟩ hx.1 (λy hy=>(M20 (hx.2.2 y hy)).1) (λy hy=>(all y hy).2.1) λy hy=>(all y hy).2.2⟩
theorem F01{zA:Option Æ}{H:Hp}{l:List D}{xs:List V}(hu:X.A.units + 64 < Å9)(hd:HdA X.K H l xs)(h64:l.length < 64)(ok:l70 l=true):C41 X H xs (MySort.sortedBy (l.map flt)) :=
 E91 (zA:=zA) hd ok λ_ _ _ hl d k3 hk ho hp=>R01 ∅ d (by show X.A.units + 1 + 1 + 40 < Å9;omega) k3 hk ho hp
theorem f21(hu:X.A.units + 64 < Å9):g90 X (.builtin "sorted") (rDn X.K (bfD .sorted)):=by
 intro pins s σ H xs us Q I r h;obtain⟨zA,z,ds,w,st,hx,e,q⟩:=h
 match ds,e with
 |[x],e =>
  have e:sortedS x=some w:=e;unfold sortedS at e;obtain⟨l,h1,e⟩:=Ë.mp e;obtain⟨v,rfl,hv⟩:=hx.one;have go:∀ (a:Æ) (ys:List V),v=.ref a->(SqL X.K H a ys∨SqT X.K H a ys)->HdA X.K (hz zA H) l ys->Ð (Õ X.prog X.w) X.A (call (.builtin "sorted") us) (EP X pins σ Q) X.xe s:=λa ys hva hq hd=>by
   subst hva;by_cases c:l.length < 64/\l70 l=true
   ·rw[if_pos c] at e;cases e;obtain⟨h64,ok⟩:=c;refine H50 pins s σ H _ us Q I r ⟨a,ys,MySort.sortedBy (l.map flt),rfl,hq,F01 (zA:=zA) hu (hd.same (a30 zA H)) h64 ok,λp hp i hi=>by have:=hp.1.mem_iff.mp hi;rw[hd.length];simpa using this,λp lA hp hn=>?_⟩
    have hd2:=hd.pick (p:=p) λi hi=>by have:=hp.1.mem_iff.mp hi;simpa using this
    rw[E71 (λx hx y hy=>?_) hp] at hd2
    ·exact q _ _ (a10.new _ hn) (k90 st hd2 hn)
    ·have:=æ.mp ok x hx;rw[Â,Â,Ã7] at this;exact(M20 (this.2.2 y hy)).2.2
   ·rw[if_neg c] at e;cases e
  cases x with
  |tup m =>
   cases h1;obtain⟨a,ys,rfl,k1,k2⟩:=hv.w10;exact go a ys rfl (.inr ((a30 zA H).sqT k1)) k2
  |lst m =>
   cases h1;obtain⟨a,ys,rfl,k1,k2⟩:=hv.P90;exact go a ys rfl (.inl (k1.same (a30 zA H)).sq) k2
  |_=>cases h1
end
structure Gs where
 fns:List (Str × List Str)
 nums:List (Str × Int)
 F:FT
 cls:Nat->Addr
 lv:Nat
def EPost(G:Gs)(zA:Option Æ)(E:XK)(c:Nat)(z:Z)(H:Hp):Prop:=∀ e H',Ext zA H H'->c50 zA z H'->H' e=none->E (.ref (G.cls c)) (some e) H'
theorem EPost.mono(h:EPost G zA E c z H)(e:Ext zA H H1):EPost G zA E c z H1:=λa H' x s n=>h a H' (e.trans x) s n
def e22(K:À)(G:Gs)(zA:Option Æ)(E:XK)(H:Hp)(Q:VK):R S->Prop
 |.ok s z'=>∀ v H',Ext zA H H'->c50 zA z' H'->RvS K zA H H' s v->Q v H'|.er c z'=>EPost G zA E c z' H
def M30(K:À)(G:Gs)(zA:Option Æ)(E:XK)(H:Hp)(Q:VK):R (List S)->Prop
 |.ok l z'=>∃ s,l=[s]/\∀ v H',Ext zA H H'->c50 zA z' H'->RvS K zA H H' s v->Q v H'|.er c z'=>EPost G zA E c z' H
def e32(K:À)(G:Gs)(zA:Option Æ)(E:XK)(H:Hp)(Q:List V->Hp->Prop):R (List S)->Prop
 |.ok l z'=>∀ vs H',Ext zA H H'->c50 zA z' H'->À1 (RvS K zA H H') l vs->Q vs H'|.er c z'=>EPost G zA E c z' H
def s71(G:Gs)(zA:Option Æ)(E:XK)(H:Hp)(Q:Bool->Hp->Prop):R (List S)->Prop
 |.ok l z'=>∃ b,l=[.d (.bl b)]/\∀ H',Ext zA H H'->c50 zA z' H'->Q b H'|.er c z'=>EPost G zA E c z' H
def r00(K:À)(zA:Option Æ)(H:Hp)(ρ:Env)(σ:L2.St):Prop:=∀ (i:Nat) (s:S),ρ[i]?=some (some s)->∃ v,σ[i]?=some (some v)/\RvP K zA H s v
theorem r00.mono{K:À}{zA:Option Æ}{H H':Hp}{ρ:Env}{σ:L2.St}(h:r00 K zA H ρ σ)(e:Ext zA H H'):r00 K zA H' ρ σ:=λi s q=>let ⟨v,a,b⟩:=h i s q;⟨v,a,b.mono e⟩
def tI(K:À)(G:Gs)(E:XK)(x:Ex):TE:=λσ H Q=>∃ zA ρ z r,r00 K zA H ρ σ/\c50 zA z H/\ev G.F x ρ z=some r/\M30 K G zA E H Q r
def tA(K:À)(G:Gs)(E:XK)(x:Ex):TA:=λσ H Q=>∃ zA ρ z r,r00 K zA H ρ σ/\c50 zA z H/\ev G.F x ρ z=some r/\e32 K G zA E H Q r
def tT(K:À)(G:Gs)(E:XK)(x:Ex):TT:=λσ H Q=>∃ zA ρ z r,r00 K zA H ρ σ/\c50 zA z H/\ev G.F x ρ z=some r/\s71 G zA E H Q r
def spF(K:À)(G:Gs)(f n:Nat):Sp:=λvs H Q E=>vs.length=n/\∃ zA z ss r,RvA K zA H ss vs/\c50 zA z H/\G.F false f ss z=some r/\e22 K G zA E H Q r
section
variable {K:À}{G:Gs}{E:XK}{a x:Ex}{ρ:Env}{z:Z}{zA:Option Æ}{σ:L2.St}{H:Hp}
theorem g30{α:Type}{k:List S->M α}{r:R α}{Q':VK}(rel:r00 K zA H ρ σ)(st:c50 zA z H)(h:M.bind (ev G.F a ρ) k z=some r)(her:∀ c z1,r=.er c z1->EPost G zA E c z1 H)
  (hok:∀ l z1,k l z1=some r->∃ s,l=[s]/\∀ v H1,Ext zA H H1->c50 zA z1 H1->RvS K zA H H1 s v->Q' v H1):tI K G E a σ H Q':=by
 rcases M.bind_some h with ⟨l,z1,e1,e2⟩ | ⟨c,z1,e1,e2⟩
 ·exact⟨zA,ρ,z,_,rel,st,e1,hok l z1 e2⟩
 ·exact⟨zA,ρ,z,_,rel,st,e1,her c z1 e2⟩
theorem W70{α:Type}{k:List S->M α}{r:R α}{Q':List V->Hp->Prop}(rel:r00 K zA H ρ σ)(st:c50 zA z H)(h:M.bind (ev G.F a ρ) k z=some r)(her:∀ c z1,r=.er c z1->EPost G zA E c z1 H)
  (hok:∀ l z1,k l z1=some r->∀ vs H1,Ext zA H H1->c50 zA z1 H1->À1 (RvS K zA H H1) l vs->Q' vs H1):tA K G E a σ H Q':=by
 rcases M.bind_some h with ⟨l,z1,e1,e2⟩ | ⟨c,z1,e1,e2⟩
 ·exact⟨zA,ρ,z,_,rel,st,e1,hok l z1 e2⟩
 ·exact⟨zA,ρ,z,_,rel,st,e1,her c z1 e2⟩
theorem I20{α:Type}{k:Bool->M α}{r:R α}{Q':Bool->Hp->Prop}(rel:r00 K zA H ρ σ)(st:c50 zA z H)(h:M.bind (ev G.F a ρ) (λx=>M.bind (M.of ((pl x).bind asB)) k) z=some r)(her:∀ c z1,r=.er c z1->EPost G zA E c z1 H)
  (hok:∀ b z1,k b z1=some r->∀ H1,Ext zA H H1->c50 zA z1 H1->Q' b H1):tT K G E a σ H Q':=by
 rcases M.bind_some h with ⟨l,z1,e1,e2⟩ | ⟨c,z1,e1,e2⟩
 ·obtain⟨b,e3,e4⟩:=M.a00 e2;obtain⟨d,e5,e6⟩:=Ë.mp e3;have el:l=[.d (.bl b)]:=by
   obtain⟨s,rfl,hs⟩:=d90 e5;cases s with
   |d y=>cases hs;cases d <;> first | (cases e6;rfl) | cases e6
   |fr ys=>cases hs;cases e6
   |_=>cases hs
  exact⟨zA,ρ,z,_,rel,st,e1,b,el,hok b z1 e4⟩
 ·exact⟨zA,ρ,z,_,rel,st,e1,her c z1 e2⟩
theorem s50{l:List S}{s:S}(h:one l=some s):l=[s]:=by
 unfold one at h;split at h
 ·cases h;rfl
 ·cases h
end
theorem PE.imp(h:PE X e t)(i:∀ σ H Q,t' σ H Q->t σ H Q):PE X e t':=λpins s σ H Q I q=>h pins s σ H Q I (i _ _ _ q)
theorem PT.imp(h:PT X e t)(i:∀ σ H Q,t' σ H Q->t σ H Q):PT X e t':=λpins s σ H Q I q=>h pins s σ H Q I (i _ _ _ q)
theorem PW.imp(h:PW X e t)(i:∀ σ H Q,t' σ H Q->t σ H Q):PW X e t':=λw pins s σ H Q I q=>h w pins s σ H Q I (i _ _ _ q)
theorem PA.imp(h:PA X e t)(i:∀ σ H Q,t' σ H Q->t σ H Q):PA X e t':=λp pins s σ H Q I q=>h p pins s σ H Q I (i _ _ _ q)
def noStar:Ê->Bool
 |.Starred ..=>false|_=>true
theorem c80(h:noStar e=true)(es:List Ê)(env:Å0):í (e::es) env=(false,eval e env)::í es env:=by
 cases e <;> first | rfl | cases h
theorem n00:∀ {es:List Ê} (env:Å0) (pos:Pos),es.all noStar=true->(Î2 pos (í es env)).any (·.1)=false
 |[],_,_,_=>rfl
 |e::es,env,pos,h=>by
  rw[Á8,Â] at h;rw[c80 h.1];show(false || (Î2 pos (í es env)).any (·.1))=false;rw[n00 env pos h.2];rfl
def plainT:Ê->Bool
 |.UnaryOp .Not _ _=>false|.BoolOp ..=>false|.IfExp ..=>false|.Compare ..=>false|_=>true
theorem f31(h:plainT e=true)(env:Å0)(whole:Sem Ã):isTrue e env whole=(do let v ← whole;standAt e.pos;holding [v] (truthy v)):=by
 cases e with
 |UnaryOp op _ _=>cases op <;> first | rfl | cases h
 |BoolOp _ _ _=>cases h
 |IfExp _ _ _ _=>cases h
 |Compare _ _ _ _=>cases h
 |_=>rfl
def w30:Ê->Bool
 |.Slice ..=>false|_=>true
theorem z00(h:w30 e=true):Z80 e:=λo i=>by
 cases e with
 |Slice _ _ _ _=>cases h
 |_=>rfl
def o40:Ê->Bool
 |.Set ..=>false|_=>true
theorem w40(h:o40 e=true)(op:CmpOp):behindInMarks op e=false:=by
 cases e with
 |Set _ _ _=>cases h
 |_=>rfl
structure b00(X:Cx)(G:Gs)(E:XK)(x:Ex)(e:Expr):Prop where
 pe:PE X e (tI X.K G E x)
 pt:(∀ t a b p,e≠.IfExp t a b p)->PT X e (tT X.K G E x)
 pw:∀ op vs p,e=.BoolOp op vs p->PW X e (tT X.K G E x)
theorem b20(h:PE X e (tI X.K G E x))(hp:plainT e=true):b00 X G E x e:=by
 refine⟨h,λ_=>PT.imp (O40 h (f31 hp X.env)) λσ H Q q=>?_,λop vs p he=>?_⟩
 ·obtain⟨zA,ρ,z,r,rel,st,e,po⟩:=q;refine⟨zA,ρ,z,r,rel,st,e,?_⟩;cases r with
  |er c z1=>exact po
  |ok l z1 =>
   obtain⟨b,rfl,po⟩:=po;exact⟨_,rfl,λv H' ex st' rv=>⟨b,Hd.bl_ (show Hd X.K (hz zA H') (.bl b) v from rv),po H' ex st'⟩⟩
 ·subst he;cases hp
def isL:Ex->Bool
 |.nil=>true|.cons _ _=>true|_=>false
def Good(X:Cx)(G:Gs)(E:XK):Ex->List Ê->Prop
 |.nil,es=>es=[]|.cons a r,es=>∃ e es',es=e::es'/\noStar e=true/\b00 X G E a e/\isL r=true/\Good X G E r es'|x,es=>∃ e,es=[e]/\b00 X G E x e
theorem Good.args:∀ {x:Ex}{es:List Ê},isL x=true->Good X G E x es->PA X es (tA X.K G E x)/\es.all noStar=true:=by
 intro x
 induction x with
 |nil =>
  intro es _ h;have h:es=[]:=h;subst h;refine⟨PA.imp h80 λσ H Q q=>?_,rfl⟩;obtain⟨zA,ρ,z,r,rel,st,e,po⟩:=q;cases e;exact po [] H Ext.refl st .nil
 |cons a r _ ih =>
  intro es _ h;obtain⟨e,es',rfl,ns,g,lr,gr⟩:=h;obtain⟨h1,h2⟩:=ih lr gr;refine⟨PA.imp (c40 g.pe h1 (c80 ns es' X.env)) λσ H Q q=>?_,by rw[Á8,ns,h2];rfl⟩
  obtain⟨zA,ρ,z,rr,rel,st,e,po⟩:=q;have her:∀ c z1,rr=.er c z1->EPost G zA E c z1 H:=λc z1 e=>by subst e;exact po
  refine g30 rel st e her λl z1 e1=>?_;obtain⟨s,hs,e2⟩:=M.a00 e1;refine⟨s,s50 hs,λv H1 x1 st1 rv=>?_⟩;refine W70 (rel.mono x1) st1 e2 (λc z2 q=>(her c z2 q).mono x1) λl2 z2 e3 vs H2 x2 st2 rvs=>?_;cases e3;exact po (v::vs) H2 (x1.trans x2) st2 (.cons (rv.mono x2) (À1.v01 rvs λ_ _ q=>q.from x1))
 |_=>intro es h;cases h
def F11:List Str:=["len","sorted","tuple","list","sum","min","max","abs","all","any","int","bool","str","isinstance","range","zip","enumerate","set"]
def lowG(G:Gs)(k:Nat):Gs:={ G with F:=W20 G.F,lv:=k }
def R11(P:Ø)(w:ì)(K:À)(mg:Str->Option Ã)(base:á)(G:Gs)(k:Nat)(q:Str)(sm:Nat):Å->Sp:=λs vs H Q _=>∃ (Xl:Cx) (t:LT) (ws:List V) (dv:V) (d:D) (zA:Option Æ) (z:Z),
 vs=[.ref t.f,dv]/\(Xl.prog=P/\Xl.w=w/\Xl.K=K/\Xl.mg=mg/\Xl.base=base)/\LTf Xl t.lsc t.N/\r41 H q t/\q90 t.lsc t.cl t.N ws H s.heap/\c50 zA z H/\Hd K (hz zA H) d dv /\
 ((h90 d=true/\∃ (C:Æ) (j:Nat) (z1:Z) (RR:Hp->Prop),Raises Xl q k H t ws (.ref C) RR/\v70 K mg C j/\(∀ H1,RR H1->c50 zA z1 H1)/\∀ H1 H',RR H1->a10 H1 H'->Q (.bl (j == 8)) H') ∨
  (h90 d=false/\∃ gv:Hp->VK->Prop,Gives Xl q k H t ws gv/\∀ H1,a10 H H1->gv H1 λv H2=>spF K (lowG G k) sm 2 [v,dv] H2 Q λ_ _ _=>False))
structure r10(X:Cx)(G:Gs)(sc:Scope)(c P:Addr)(q:Str)(k:Nat)(fR:Addr)(fdR:FuncData):Prop where
 sco:X.env.scope=sc
 code:X.env.code=.ref c
 hd:PySem.W.codeHdIn X.K c P=true
 qual:X.env.qual++"<lambda>"=q
 tb:(P,q)∈TB.tb
 uq:∀ p∈TB.tb,p.1=P->p.2=q
 bm:BMain X.mg X.base
 lv:k + 3<=G.lv
 cls:∀ j,j < 12->v70 X.K X.mg (G.cls j) j
 m:X.mg "_law_refused"=some (.ref fR)
 kp:PySem.W.keepIn X.K (.ref fR)=true
 bd:Binds X.K fdR ["_law_call"] []
 fn:y20 X.prog X.w X.K X.mg X.base CX0 (k + 2) fR fdR ["_law_call"] (D11 X.prog X.w X.K X.mg X.base (k + 1))
 low:∀ f nm ps,G.fns[f]?=some (nm,ps)->∃ fa fd,X.mg nm=some (.ref fa)/\PySem.W.keepIn X.K (.ref fa)=true/\Binds X.K fd ps []/\y10 X.prog X.w X.K X.mg X.base (CX1 X.prog X.w) k fa fd ps (spF X.K (lowG G k) f ps.length)
 rg:∃ (fQ:Addr) (fdQ:FuncData),X.mg "_law_right"=some (.ref fQ)/\PySem.W.keepIn X.K (.ref fQ)=true/\Binds X.K fdQ ["_law_call","_law_due_here"] []/\∀ (sm:Nat) (ps:List Str),G.fns[sm]?=some (("_law_same":Str),ps)->ps.length=2->y20 X.prog X.w X.K X.mg X.base (CX1 X.prog X.w) (k + 3) fQ fdQ ["_law_call","_law_due_here"] (R11 X.prog X.w X.K X.mg X.base G k q sm)
theorem r10.rm{X:Cx}{G:Gs}{sc:à}{c P:Æ}{q:Str}{k:Nat}{fR:Æ}{fdR:ø}(L:r10 X G sc c P q k fR fdR){A:ï}(r:l20 G.lv A):l20 (k + 2) A:=r.mono (by have:=L.lv;omega)
def e42(X:Cx)(G:Gs)(sc:à):Prop:=∃ c P q k fR fdR,r10 X G sc c P q k fR fdR
structure XI(lm:Bool)(X:Cx)(G:Gs)(E:XK)(N:List Str)(sc:Scope):Prop where
 gok:∀ f nm ps,G.fns[f]?=some (nm,ps)->∃ fa fd,X.mg nm=some (.ref fa)/\PySem.W.keepIn X.K (.ref fa)=true/\Binds X.K fd ps []/\y10 X.prog X.w X.K X.mg X.base (CX1 X.prog X.w) G.lv fa fd ps (spF X.K G f ps.length)
 num:∀ p∈G.nums,∃ t,X.mg p.1=some (.int p.2 t)
 blt:∀ n∈F11,X.mg n=none
 hN:X.N=N
 nd:N.Nodup
 vis:∀ x∈N,Vis X.env.scope x
 glb:∀ x,sc.names.lookup x=some .globalImplicit->Gl X x
 cel:∀ x,(sc.names.lookup x=some .cell∨sc.names.lookup x=some .free)->(X.env.kindOf x=some .cell∨X.env.kindOf x=some .free)
 calm:X.calm=true
 room:l20 G.lv X.A
 pas:Passes (CX1 X.prog X.w) X E
 lam:lm=true->e42 X G sc
def glob(sc:à)(x:Str):Bool:=sc.names.lookup x == some .globalImplicit&&!(x == ("__debug__":Str))&&!(x == ("__name__":Str))
def b30(x:Str):Bool:=!(x == ("__debug__":Str))&&!(x == ("__classdict__":Str))
def R21:Const->D->Bool
 |.int i,.int j=>i == j|.bool a,.bl b=>a == b|.str x,.str y=>x == y|.none,.non=>true|_,_=>false
def bfN:Bf->Str × Bool
 |.len=>("len",false) | .sorted=>("sorted",false) | .tuple=>("tuple",true) | .list=>("list",true) | .min=>("min",false) | .max=>("max",false)|.all=>("all",false) | .int=>("int",true) | .sset=>("sorted",false) | .Z11=>("len",false)
def served:Bf->Bool
 |.len | .tuple | .list | .min | .max | .all | .int | .sorted=>true|_=>false
mutual
noncomputable def h70(N:List Str)(loc:Str->Bool):Pat->Ê->Bool
 |.v i=>λe=>match e with
  |.Name x _=>N[i]? == some x&&loc x|_=>false
 |.tup ps=>λe=>match e with
  |.Tuple es _ _=>W80 N loc ps es|_=>false
 |.nil=>λ_=>false|.cons _ _=>λ_=>false
noncomputable def W80(N:List Str)(loc:Str->Bool):Pat->List Ê->Bool
 |.nil=>λes=>es.isEmpty
 |.cons p r=>λes=>match es with
  |e::es=>noStar e&&h70 N loc p e&&W80 N loc r es|[]=>false
 |.v _=>λ_=>false|.tup _=>λ_=>false
end
def j70:Ê->Bool
 |.Tuple ..=>true|_=>false
def d20:Ê->List Str
 |.Name x _=>[x]|.Tuple es _ _=>names es|_=>[]
where names:List Ê->List Str
 |[]=>[]|.Name x _::r=>x::names r|.Tuple [.Name a _,.Name b _] _ _::r=>a::b::names r|_::r=>names r
def I30(csc sc:à)(N own:List Str)(capt:List (Str × Nat)):Bool :=
 csc.kind == .function&&csc.names.all (λy=>y.2 != .cell)&&csc.names.all (λy=>y.2 != .local || csc.names.lookup y.1 == some .local) &&
  csc.names.all (λy=>y.2 != .free || (sc.names.lookup y.1 == some .cell || sc.names.lookup y.1 == some .free))&&capt.all (λp=>N[p.2]? == some p.1&&csc.names.lookup p.1 == some .free) &&
  own.all (λx=>csc.names.lookup x == some .local)&&decide (own++capt.map (·.1)).Nodup
def a80(N:List Str):List Nat->List (Str × Nat)
 |[]=>[]
 |i::r=>match N[i]? with
  |some x=>(x,i)::a80 N r|none=>a80 N r
def opt{α:Type}(o:Option α)(f:α->Bool):Bool:=match o with
 |some a=>f a|none=>false
theorem a40{α:Type}{o:Option α}{f:α->Bool}(h:opt o f=true):∃ a,o=some a/\f a=true:=by
 cases o with
 |none=>cases h
 |some a=>exact⟨a,rfl,h⟩
def m42:(e:List Ê)->Option {q:Str × Pos // e=[.Name q.1 q.2]}
 |[.Name n p]=>some ⟨(n,p),rfl⟩|_=>none
def e52:(e:List Ê)->Option {q:Const × Nat × Pos // e=[.Constant q.1 q.2.1 q.2.2]}
 |[.Constant c k p]=>some ⟨(c,k,p),rfl⟩|_=>none
def e62:(e:List Ê)->Option {q:Pos // e=[.Dict [] [] q]}
 |[.Dict [] [] p]=>some ⟨p,rfl⟩|_=>none
def e72:(e:List Ê)->Option {q:List Ê × Nat × Pos // e=[.Tuple q.1 q.2.1 q.2.2]}
 |[.Tuple l k p]=>some ⟨(l,k,p),rfl⟩|_=>none
def e82:(e:List Ê)->Option {q:List Ê × Pos // e=[.List q.1 q.2]}
 |[.List l p]=>some ⟨(l,p),rfl⟩|_=>none
def e92:(e:List Ê)->Option {q:Ê × Operator × Ê × Pos // e=[.BinOp q.1 q.2.1 q.2.2.1 q.2.2.2]}
 |[.BinOp l o r p]=>some ⟨(l,o,r,p),rfl⟩|_=>none
def f02:(e:List Ê)->Option {q:Ê × CmpOp × Ê × Pos // e=[.Compare q.1 [q.2.1] [q.2.2.1] q.2.2.2]}
 |[.Compare l [o] [r] p]=>some ⟨(l,o,r,p),rfl⟩|_=>none
def f12:(e:List Ê)->Option {q:Ê × Pos // e=[.UnaryOp .USub q.1 q.2]}
 |[.UnaryOp .USub x p]=>some ⟨(x,p),rfl⟩|_=>none
def f22:(e:List Ê)->Option {q:Ê × Pos // e=[.UnaryOp .Not q.1 q.2]}
 |[.UnaryOp .Not x p]=>some ⟨(x,p),rfl⟩|_=>none
def f32:(e:List Ê)->Option {q:Ê × Ê × List Ê × Pos // e=[.BoolOp .And (q.1::q.2.1::q.2.2.1) q.2.2.2]}
 |[.BoolOp .And (l::r::v) p]=>some ⟨(l,r,v,p),rfl⟩|_=>none
def m52:(e:List Ê)->Option {q:Ê × Ê × List Ê × Pos // e=[.BoolOp .Or (q.1::q.2.1::q.2.2.1) q.2.2.2]}
 |[.BoolOp .Or (l::r::v) p]=>some ⟨(l,r,v,p),rfl⟩|_=>none
def f42:(e:List Ê)->Option {q:Ê × Ê × Ê × Pos // e=[.IfExp q.1 q.2.1 q.2.2.1 q.2.2.2]}
 |[.IfExp t x y p]=>some ⟨(t,x,y,p),rfl⟩|_=>none
def q92:(e:List Ê)->Option {q:Ê × CmpOp × CmpOp × Ê × Ê × Pos // e=[.Compare q.1 [q.2.1,q.2.2.1] [q.2.2.2.1,q.2.2.2.2.1] q.2.2.2.2.2]}
 |[.Compare l [o,o2] [r,s] p]=>some ⟨(l,o,o2,r,s,p),rfl⟩|_=>none
def m62:(e:List Ê)->Option {q:Str × Pos × Ê × List Ê × Pos // e=[.Call (.Name q.1 q.2.1) (q.2.2.1::q.2.2.2.1) [] q.2.2.2.2]}
 |[.Call (.Name n q1) (x::l) [] p]=>some ⟨(n,q1,x,l,p),rfl⟩|_=>none
def f52:(e:List Ê)->Option {q:Str × Pos × Ê × Ê × Pos // e=[.Call (.Name q.1 q.2.1) [q.2.2.1,q.2.2.2.1] [] q.2.2.2.2]}
 |[.Call (.Name n q1) [x,ty] [] p]=>some ⟨(n,q1,x,ty,p),rfl⟩|_=>none
def r02:(e:List Ê)->Option {q:Ê × Ê × Pos // e=[.Subscript q.1 q.2.1 q.2.2]}
 |[.Subscript v x p]=>some ⟨(v,x,p),rfl⟩|_=>none
def r12:(e:List Ê)->Option {q:Ê × Option Ê × Option Ê × Pos × Pos // e=[.Subscript q.1 (.Slice q.2.1 q.2.2.1 none q.2.2.2.1) q.2.2.2.2]}
 |[.Subscript v (.Slice l h none q1) p]=>some ⟨(v,l,h,q1,p),rfl⟩|_=>none
def R31:(e:List Ê)->Option {q:Ê × Ê × Ê × List Ê × à × Pos // e=[.ListComp q.1 [⟨q.2.1,q.2.2.1,q.2.2.2.1,0⟩] q.2.2.2.2.1 q.2.2.2.2.2]}
 |[.ListComp elt [⟨tg,iter,ifs,0⟩] csc p]=>some ⟨(elt,tg,iter,ifs,csc,p),rfl⟩|_=>none
def K01:(e:Ê)->Option {q:Str × Pos × Ê × Pos // e=.Call (.Name q.1 q.2.1) [q.2.2.1] [] q.2.2.2}
 |.Call (.Name n q1) [a] [] p=>some ⟨(n,q1,a,p),rfl⟩|_=>none
def K11:(e:Ê)->Option {q:Str × Pos × Ê × Ê × Pos // e=.Call (.Name q.1 q.2.1) [q.2.2.1,q.2.2.2.1] [] q.2.2.2.2}
 |.Call (.Name n q1) [a,b] [] p=>some ⟨(n,q1,a,b,p),rfl⟩|_=>none
def shN:(e:Ê)->Option {q:Str × Pos // e=.Name q.1 q.2}
 |.Name n p=>some ⟨(n,p),rfl⟩|_=>none
def m72:(e:Ê)->Option {q:Str × Pos × Str × Pos × Nat × Pos // e=.Tuple [.Name q.1 q.2.1,.Name q.2.2.1 q.2.2.2.1] q.2.2.2.2.1 q.2.2.2.2.2}
 |.Tuple [.Name a q1,.Name b q2] k p=>some ⟨(a,q1,b,q2,k,p),rfl⟩|_=>none
def r22:(e:List Ê)->Option {q:Str × Pos × Int × Nat × Pos × Pos // e=[.Subscript (.Name q.1 q.2.1) (.Constant (.int q.2.2.1) q.2.2.2.1 q.2.2.2.2.1) q.2.2.2.2.2]}
 |[.Subscript (.Name n p) (.Constant (.int j) c q1) r]=>some ⟨(n,p,j,c,q1,r),rfl⟩|_=>none
def r32:(e:List Ê)->Option {q:Str × Pos × Str × Pos × List Ê × Pos × Pos // e=[.Call (.Name q.1 q.2.1) [.Call (.Name q.2.2.1 q.2.2.2.1) q.2.2.2.2.1 [] q.2.2.2.2.2.1] [] q.2.2.2.2.2.2]}
 |[.Call (.Name n p) [.Call (.Name m q1) l [] r] [] t]=>some ⟨(n,p,m,q1,l,r,t),rfl⟩|_=>none
def f62:(e:List Ê)->Option {q:Str × Pos × Ê × à × Pos × Ê × Pos // e=[.Call (.Name q.1 q.2.1) [.Lambda ⟨[],[],none,[],[],none,[]⟩ q.2.2.1 q.2.2.2.1 q.2.2.2.2.1,q.2.2.2.2.2.1] [] q.2.2.2.2.2.2]}
 |[.Call (.Name n p1) [.Lambda ⟨[],[],none,[],[],none,[]⟩ b sc p2,d] [] p3]=>some ⟨(n,p1,b,sc,p2,d,p3),rfl⟩|_=>none
def tyE(sc:à):Ty->Ê->Bool
 |.seq=>λe=>opt (m72 e) λq=>q.1.1 == ("tuple":Str)&&q.1.2.2.1 == ("list":Str)&&glob sc "tuple"&&glob sc "list"|t=>λe=>opt (shN e) λq=>q.1.1 == À5 (tyN t)&&glob sc (À5 (tyN t))
def R41:D->Bool
 |.dct=>true|_=>false
def ifB:Ê->Bool
 |.IfExp ..=>true|_=>false
def I40(lsc sc:à)(cs:List (Str × Nat)):Bool :=
 lsc.kind == .function&&!lsc.isCoroutine&&!lsc.isGenerator&&lsc.names.all (λy=>y.2 != .cell)&&lsc.names.all (λy=>y.2 != .free || sc.names.lookup y.1 == some .cell)&&cs.all (λp=>lsc.names.lookup p.1 == some .free)&&decide (cs.map (·.1)).Nodup
def mt:Bool->List (Str × List Str)->List (Str × Int)->Ex->à->List Str->List Ê->Bool
 |lm,fns,nums,.nil=>λ_ _ es=>es.isEmpty
 |lm,fns,nums,.cons a r=>λsc N es=>match es with
  |e::es=>noStar e&&!isL a&&isL r&&mt lm fns nums a sc N [e]&&mt lm fns nums r sc N es|[]=>false
 |lm,fns,nums,.var i=>λ_ N es=>opt (m42 es) λq=>N[i]? == some q.1.1&&b30 q.1.1|lm,fns,nums,.con d=>λ_ _ es=>(opt (e52 es) λq=>R21 q.1.1 d) || opt (e62 es) λ_=>R41 d|lm,fns,nums,.gint g i=>λsc _ es=>opt (m42 es) λq=>q.1.1 == g&&glob sc q.1.1&&nums.contains (g,i)|lm,fns,nums,.tup as=>λsc N es=>opt (e72 es) λq=>isL as&&mt lm fns nums as sc N q.1.1|lm,fns,nums,.lst as=>λsc N es=>opt (e82 es) λq=>isL as&&mt lm fns nums as sc N q.1.1|lm,fns,nums,.bin o a b=>λsc N es=>opt (e92 es) λq=>q.1.2.1 == opB o&&!isL a&&!isL b&&mt lm fns nums a sc N [q.1.1]&&mt lm fns nums b sc N [q.1.2.2.1]|lm,fns,nums,.cmp o a b=>λsc N es=>opt (f02 es) λq=>q.1.2.1 == opC o&&o40 q.1.2.2.1&&!isL a&&!isL b&&mt lm fns nums a sc N [q.1.1]&&mt lm fns nums b sc N [q.1.2.2.1]|lm,fns,nums,.neg a=>λsc N es=>opt (f12 es) λq=>!isL a&&mt lm fns nums a sc N [q.1.1]|lm,fns,nums,.not a=>λsc N es=>opt (f22 es) λq=>!isL a&&!ifB q.1.1&&mt lm fns nums a sc N [q.1.1]|lm,fns,nums,.and a b=>λsc N es=>opt (f32 es) λq=>!isL a&&!isL b&&!ifB q.1.1&&mt lm fns nums a sc N [q.1.1]&&(if q.1.2.2.1.isEmpty then !ifB q.1.2.1&&mt lm fns nums b sc N [q.1.2.1] else mt lm fns nums b sc N [.BoolOp .And (q.1.2.1::q.1.2.2.1) q.1.2.2.2])|lm,fns,nums,.or a b=>λsc N es=>opt (m52 es) λq=>!isL a&&!isL b&&!ifB q.1.1&&mt lm fns nums a sc N [q.1.1]&&(if q.1.2.2.1.isEmpty then !ifB q.1.2.1&&mt lm fns nums b sc N [q.1.2.1] else mt lm fns nums b sc N [.BoolOp .Or (q.1.2.1::q.1.2.2.1) q.1.2.2.2])|lm,fns,nums,.orT a b=>λsc N es=>opt (m52 es) λq=>!isL a&&!isL b&&q.1.2.2.1.isEmpty&&mt lm fns nums a sc N [q.1.1]&&mt lm fns nums b sc N [q.1.2.1]|lm,fns,nums,.ite c a b=>λsc N es=>opt (f42 es) λq=>!isL c&&!isL a&&!isL b&&!ifB q.1.1&&mt lm fns nums c sc N [q.1.1]&&mt lm fns nums a sc N [q.1.2.1]&&mt lm fns nums b sc N [q.1.2.2.1]|lm,fns,nums,.ch o o' a b c=>λsc N es=>opt (q92 es) λq=>q.1.2.1 == opC o&&q.1.2.2.1 == opC o'&&o40 q.1.2.2.2.2.1&&!isL a&&!isL b&&!isL c&&mt lm fns nums a sc N [q.1.1]&&mt lm fns nums b sc N [q.1.2.2.2.1]&&mt lm fns nums c sc N [q.1.2.2.2.2.1]|lm,fns,nums,.bf f as=>λsc N es=>opt (m62 es) λq=>served f&&q.1.1 == (bfN f).1&&glob sc q.1.1&&isL as&&mt lm fns nums as sc N (q.1.2.2.1::q.1.2.2.2.1)|lm,fns,nums,.isi t a=>λsc N es=>opt (f52 es) λq=>q.1.1 == ("isinstance":Str)&&glob sc q.1.1&&noStar q.1.2.2.1&&!isL a&&mt lm fns nums a sc N [q.1.2.2.1]&&tyE sc t q.1.2.2.2.1|lm,fns,nums,.idx a i=>λsc N es=>opt (r02 es) λq=>w30 q.1.2.1&&!isL a&&!isL i&&mt lm fns nums a sc N [q.1.1]&&mt lm fns nums i sc N [q.1.2.1]|lm,fns,nums,.sl a lo hi=>λsc N es=>opt (r12 es) λq=>!isL a&&isL lo&&isL hi&&mt lm fns nums a sc N [q.1.1]&&mt lm fns nums lo sc N q.1.2.1.toList&&mt lm fns nums hi sc N q.1.2.2.1.toList|lm,fns,nums,.call f as=>λsc N es=>opt (m62 es) λq=>(opt fns[f]? λp=>p.1 == q.1.1&&p.2.length == q.1.2.2.2.1.length + 1)&&glob sc q.1.1&&isL as&&mt lm fns nums as sc N (q.1.2.2.1::q.1.2.2.2.1)
 |lm,fns,nums,.comp own capt p it src cond el=>λsc N es=>opt (R31 es) λq =>
   (d20 q.1.2.1).length == own&&(a80 N capt).length == capt.length&&I30 q.1.2.2.2.2.1 sc N (d20 q.1.2.1) (a80 N capt)&&h70 (d20 q.1.2.1++(a80 N capt).map (·.1)) (λx=>(d20 q.1.2.1).contains x) p q.1.2.1&&isL src&&!isL el&&isL cond&&q.1.2.2.2.1.length<=1&&noStar q.1.1&&o40 q.1.2.2.1 &&
    q.1.2.2.2.1.all (λc=>!ifB c) &&
    (match it with
    |.seq=>mt lm fns nums src sc N [q.1.2.2.1]|.rng1=>opt (K01 q.1.2.2.1) λr=>r.1.1 == ("range":Str)&&glob sc r.1.1&&mt lm fns nums src sc N [r.1.2.2.1]|.rng2=>opt (K11 q.1.2.2.1) λr=>r.1.1 == ("range":Str)&&glob sc r.1.1&&mt lm fns nums src sc N [r.1.2.2.1,r.1.2.2.2.1]|.zip=>opt (K11 q.1.2.2.1) λr=>r.1.1 == ("zip":Str)&&glob sc r.1.1&&j70 q.1.2.1&&mt lm fns nums src sc N [r.1.2.2.1,r.1.2.2.2.1]|.enum=>opt (K01 q.1.2.2.1) λr=>r.1.1 == ("enumerate":Str)&&glob sc r.1.1&&j70 q.1.2.1&&mt lm fns nums src sc N [r.1.2.2.1]
    )&&mt false fns nums cond q.1.2.2.2.2.1 (d20 q.1.2.1++(a80 N capt).map (·.1)) q.1.2.2.2.1&&mt false fns nums el q.1.2.2.2.2.1 (d20 q.1.2.1++(a80 N capt).map (·.1)) [q.1.1]
 |lm,fns,nums,.lrng b as=>λsc N es=>opt (r32 es) λq=>q.1.1 == lrN b&&q.1.2.2.1 == ("range":Str)&&glob sc (lrN b)&&glob sc "range"&&isL as&&decide (1<=q.1.2.2.2.2.1.length/\q.1.2.2.2.2.1.length<=2)&&mt lm fns nums as sc N q.1.2.2.2.2.1|lm,fns,nums,.zget i k=>λ_ N es=>opt (r22 es) λq=>N[i]? == some q.1.1&&b30 q.1.1&&q.1.2.2.1 == (k:Int)|lm,fns,nums,.rgt capt a b sm=>λsc N es=>opt (f62 es) λq=>lm&&q.1.1 == ("_law_right":Str)&&glob sc "_law_right"&&(a80 N capt).length == capt.length&&I40 q.1.2.2.2.1 sc (a80 N capt)&&!isL a&&!isL b&&noStar q.1.2.2.2.2.2.1&&opt fns[sm]? (λp=>p.1 == ("_law_same":Str)&&p.2.length == 2)&&mt false fns nums a q.1.2.2.2.1 ((a80 N capt).map (·.1)) [q.1.2.2.1]&&mt lm fns nums b sc N [q.1.2.2.2.2.2.1]
theorem c90{sc:à}{x:Str}(h:glob sc x=true):sc.names.lookup x=some .globalImplicit/\(x == ("__debug__":Str))=false/\x≠"__name__":=by
 unfold glob at h;simp only[Â,î,beq_iff_eq] at h;refine⟨h.1.1,h.1.2,λe=>?_⟩;subst e;simp at h
section
variable {lm:Bool}{X:Cx}{G:Gs}{E:XK}{N:List Str}{sc:à}
theorem R51{K:À}{zA:Option Æ}{H0 H:Hp}{s:S}{v:V}(h:RvP K zA H s v):RvS K zA H0 H (plS s) v:=by cases s <;> exact h
theorem F21(h:(!ifB e)=true):∀ t a b p,e≠.IfExp t a b p:=by
 intro t a b p he;subst he;cases h
theorem a50(hL:isL x=false)(h:Good X G E x [e]):b00 X G E x e:=by
 cases x with
 |nil=>cases hL
 |cons _ _=>cases hL
 |_ =>
  obtain⟨e',h1,h2⟩:=(show ∃ e',[e]=[e']/\b00 X G E _ e' from h);cases h1;exact h2
theorem b90(hL:isL x=false)(h:b00 X G E x e):Good X G E x [e]:=by
 cases x with
 |nil=>cases hL
 |cons _ _=>cases hL
 |_=>exact⟨e,rfl,h⟩
theorem e90(po:M30 X.K G zA E H Q r):∀ c z1,r=.er c z1->EPost G zA E c z1 H:=λc z1 e=>by subst e;exact po
theorem I50(po:s71 G zA E H Q r):∀ c z1,r=.er c z1->EPost G zA E c z1 H:=λc z1 e=>by subst e;exact po
theorem f72(x:XI lm X G E N sc){i:Nat}{n:Str}{pos:Pos}(h1:N[i]?=some n)(h2:b30 n=true):b00 X G E (.var i) (.Name n pos):=by
 unfold b30 at h2;simp only[Â,î] at h2;refine b20 (PE.imp (e20 (i:=i) (by rw[x.hN];exact h1) (x.vis n (Ü h1)) h2.1 h2.2) λσ H Q q=>?_) rfl
 obtain⟨zA,ρ,z,r,rel,st,e,po⟩:=q;have e':(match ρ[i]? with | some (some s)=>M.ret [plS s] | _=>M.no) z=some r:=e
 cases hs:ρ[i]? with
 |none=>rw[hs] at e';cases e'
 |some o =>
  cases o with
  |none=>rw[hs] at e';cases e'
  |some s =>
   rw[hs] at e';cases e';obtain⟨v,hv,rv⟩:=rel i s hs;obtain⟨s',e',po⟩:=po;cases e';exact⟨v,hv,po v H Ext.refl st (R51 rv)⟩
theorem f82(h:R21 c d=true):b00 X G E (.con d) (.Constant c j pos):=by
 refine b20 ?_ rfl;have fin:∀ {v:V},(∀ H,Hd X.K H d v)->∀ σ H Q,tI X.K G E (.con d) σ H Q->tC v σ H Q:=λ{v} hd σ H Q q=>by
  obtain⟨zA,ρ,z,r,rel,st,e,po⟩:=q;cases e;obtain⟨s',e',po⟩:=po;cases e';exact po v H Ext.refl st (m91 (hd _))
 cases c with
 |int i=>cases d <;> first | (simp only[R21,beq_iff_eq] at h;subst h;exact PE.imp F50 (fin λH=>Hd.int)) | (cases h)
 |bool b=>cases d <;> first | (simp only[R21,beq_iff_eq] at h;subst h;exact PE.imp a72 (fin λH=>Hd.bl)) | (cases h)
 |str y=>cases d <;> first | (simp only[R21,beq_iff_eq] at h;subst h;exact PE.imp v21 (fin λH=>Hd.str)) | (cases h)
 |none=>cases d <;> first | exact PE.imp O30 (fin λH=>Hd.non) | (cases h)
 |_=>cases h
theorem f92:b00 X G E (.con .dct) (.Dict [] [] pos):=by
 refine b20 (PE.imp C31 λσ H Q q=>?_) rfl;obtain⟨zA,ρ,z,r,rel,st,e,po⟩:=q;cases e;obtain⟨s',e',po⟩:=po;cases e';intro p hp;refine po _ _ (Ext.of (a10.new _ hp)) (st.same (a10.new _ hp)) (m91 ?_);unfold Hd;exact⟨p,[],rfl,d30 a90 (st.Q10 hp)⟩
theorem R61(x:XI lm X G E N sc){g:Str}{i:Int}{pos:Pos}(h1:glob sc g=true)(h2:(g,i)∈G.nums):b00 X G E (.gint g i) (.Name g pos):=by
 obtain⟨k1,k2,_⟩:=c90 h1;obtain⟨t,ht⟩:=x.num _ h2;refine b20 (PE.imp (e50 (v:=.int i) (x.glb g k1) ht ⟨t,rfl⟩ k2) λσ H Q q=>?_) rfl;obtain⟨zA,ρ,z,r,rel,st,e,po⟩:=q;cases e;obtain⟨s',e',po⟩:=po;cases e';exact po _ H Ext.refl st i00
theorem D60{K:À}{zA:Option Æ}{H0 H:Hp}{l:List S}{vs:List V}{ds:List D}(h:À1 (RvS K zA H0 H) l vs)(e:plA l=some ds):HdA K (hz zA H) ds vs:=RvA.ds (À1.v01 h λ_ _ q=>q.pl) e
theorem g02{as:Ex}{l:List Ê}{k:Nat}{pos:Pos}(hL:isL as=true)(g:Good X G E as l):b00 X G E (.tup as) (.Tuple l k pos):=by
 refine b20 (PE.imp (v91 (g.args hL).1) λσ H Q q=>?_) rfl;obtain⟨zA,ρ,z,r,rel,st,e,po⟩:=q;refine W70 rel st e (e90 po) λl z1 e1 vs H1 x1 st1 rvs=>?_;obtain⟨ds,hd,e2⟩:=M.a00 e1;split at e2
 ·rename_i hm;cases e2;obtain⟨s',e',po⟩:=po;cases e';have h:=D60 rvs hd;exact⟨e10 (by rw[h.length];exact hm),λp hp=>po _ _ (x1.trans (Ext.of (a10.new _ hp))) (st1.same (a10.new _ hp)) (m91 (Hd.tup ((st1.same (a10.new _ hp)).D51 (SqT.of a90)) (h.same (h30 (a10.new _ hp)))))⟩
 ·cases e2
theorem g12{as:Ex}{l:List Ê}{pos:Pos}(hL:isL as=true)(g:Good X G E as l):b00 X G E (.lst as) (.List l pos):=by
 refine b20 (PE.imp (O80 (g.args hL).1) λσ H Q q=>?_) rfl;obtain⟨zA,ρ,z,r,rel,st,e,po⟩:=q;refine W70 rel st e (e90 po) λl z1 e1 vs H1 x1 st1 rvs=>?_;obtain⟨ds,hd,e2⟩:=M.a00 e1;split at e2
 ·rename_i hm;cases e2;obtain⟨s',e',po⟩:=po;cases e';have h:=D60 rvs hd;exact⟨e10 (by rw[h.length];exact hm),λp hp=>po _ _ (x1.trans (Ext.of (a10.new _ hp))) (st1.same (a10.new _ hp)) ((k90 st1 h hp).from x1)⟩
 ·cases e2
theorem Q30{α:Type}{a b:Ex}{k:D->D->M α}{zA:Option Æ}{ρ:Env}{z:Z}{r:R α}{σ:L2.St}{H:Hp}{Q:V->V->Hp->Prop}(rel:r00 X.K zA H ρ σ)(st:c50 zA z H)
  (h:M.bind (ev G.F a ρ) (λx=>M.bind (M.of (pl x)) λx=>M.bind (ev G.F b ρ) λy=>M.bind (M.of (pl y)) λy=>k x y) z=some r) (her:∀ c z1,r=.er c z1->EPost G zA E c z1 H)
  (hk:∀ dx dy z2 v w H2,k dx dy z2=some r->Ext zA H H2->c50 zA z2 H2->Hd X.K (hz zA H2) dx v->Hd X.K (hz zA H2) dy w->Q v w H2) :
  tI X.K G E a σ H λv H1=>tI X.K G E b σ H1 λw H2=>Q v w H2:=by
 refine g30 rel st h her λl z1 e1=>?_;obtain⟨dx,p1,e2⟩:=M.a00 e1;obtain⟨s1,rfl,q1⟩:=d90 p1;refine⟨s1,rfl,λv H1 x1 st1 rv=>?_⟩;refine g30 (rel.mono x1) st1 e2 (λc z2 q=>(her c z2 q).mono x1) λm z2 e3=>?_;obtain⟨dy,p2,e4⟩:=M.a00 e3;obtain⟨s2,rfl,q2⟩:=d90 p2;exact⟨s2,rfl,λw H2 x2 st2 rw'=>hk dx dy z2 v w H2 e4 (x1.trans x2) st2 ((rv.pl.mono x2).d_ q1) (rw'.pl.d_ q2)⟩
theorem e40{zA:Option Æ}{H H2:Hp}{z2:Z}{s:S}{Q:VK}(po:M30 X.K G zA E H Q (.ok [s] z2))(x:Ext zA H H2)(st:c50 zA z2 H2):∀ v H',a10 H2 H'->RvS X.K zA H2 H' s v->Q v H':=λv H' sm rv=>by
 obtain⟨s',e',po⟩:=po;cases e';exact po v H' (x.trans (Ext.of sm)) (st.same sm) (rv.from x)
theorem g22(ga:b00 X G E a l)(gb:b00 X G E b r):b00 X G E (.bin o a b) (.BinOp l (opB o) r pos):=by
 refine b20 (PE.imp (n71 (opD o) ga.pe gb.pe) λσ H Q q=>?_) rfl;obtain⟨zA,ρ,z,rr,rel,st,e,po⟩:=q;refine Q30 rel st e (e90 po) λdx dy z2 v w H2 e2 x2 st2 h1 h2=>?_;obtain⟨s,hs,e3⟩:=M.a00 e2;cases e3;exact⟨zA,z2,dx,dy,s,st2,h1,h2,hs,e40 po x2 st2⟩
theorem x61(po:s71 G zA E H Q r):M30 X.K G zA E H (λx H'=>∃ k,x=.bl k/\Q k H') r:=by
 cases r with
 |er c z1=>exact po
 |ok l z1 =>
  obtain⟨b,rfl,po⟩:=po;exact⟨_,rfl,λv H' ex st' rv=>⟨b,Hd.bl_ (show Hd X.K (hz zA H') (.bl b) v from rv),po H' ex st'⟩⟩
theorem g32(x:XI lm X G E N sc)(hs:o40 r=true)(ga:b00 X G E a l)(gb:b00 X G E b r):b00 X G E (.cmp o a b) (.Compare l [opC o] [r] pos):=by
 have key:∀ σ H Q,tI X.K G E (.cmp o a b) σ H Q->tOp (rD2 X.K λa b=>(q40 o a b).map λc=>.d (.bl c)) (tI X.K G E a) (tI X.K G E b) σ H Q:=λσ H Q q=>by
  obtain⟨zA,ρ,z,rr,rel,st,e,po⟩:=q;refine Q30 rel st e (e90 po) λdx dy z2 v w H2 e2 x2 st2 h1 h2=>?_;obtain⟨c,hc,e3⟩:=M.a00 e2;cases e3;exact⟨zA,z2,dx,dy,_,st2,h1,h2,by show Æ9 _ (q40 o dx dy)=_;rw[hc];rfl,e40 po x2 st2⟩
 refine⟨PE.imp (Y80 (n01 x.room.units o) ga.pe gb.pe (w40 hs _)) key,λ_=>PT.imp (B10 (n01 x.room.units o) ga.pe gb.pe (w40 hs _)) λσ H Q q=>?_,λop vs p h=>by cases h⟩
 obtain⟨zA,ρ,z,rr,rel,st,e,po⟩:=q;exact key σ H _ ⟨zA,ρ,z,rr,rel,st,e,x61 po⟩
theorem g42(ga:b00 X G E a l):b00 X G E (.neg a) (.UnaryOp .USub l pos):=by
 refine b20 (PE.imp (b72 M51 ga.pe) λσ H Q q=>?_) rfl;obtain⟨zA,ρ,z,rr,rel,st,e,po⟩:=q;refine g30 rel st e (e90 po) λm z1 e1=>?_;obtain⟨i,p1,e2⟩:=M.a00 e1;obtain⟨d,p2,p3⟩:=Ë.mp p1;obtain⟨s1,rfl,q1⟩:=d90 p2;cases e2;refine⟨s1,rfl,λv H1 x1 st1 rv=>?_⟩;have hd:=rv.pl.d_ q1;cases d with
 |int j =>
  cases p3;exact⟨i,hd.i50,e40 po x1 st1 _ _ (a10.refl H1) i00⟩
 |_=>cases p3
theorem g52(ga:b00 X G E a l)(hn:∀ t x y p,l≠.IfExp t x y p):b00 X G E (.not a) (.UnaryOp .Not l pos):=by
 refine⟨PE.imp (L31 ga.pe) λσ H Q q=>?_,λ_=>PT.imp (v41 (ga.pt hn)) λσ H Q q=>?_,λop vs p h=>by cases h⟩
 ·obtain⟨zA,ρ,z,rr,rel,st,e,po⟩:=q;refine g30 rel st e (e90 po) λm z1 e1=>?_;obtain⟨b,p1,e2⟩:=M.a00 e1;obtain⟨d,p2,p3⟩:=Ë.mp p1;obtain⟨s1,rfl,q1⟩:=d90 p2;cases e2;refine⟨s1,rfl,λv H1 x1 st1 rv=>?_⟩;have hd:=rv.pl.d_ q1;cases d with
  |bl c =>
   cases p3;exact⟨b,hd.bl_,e40 po x1 st1 _ _ (a10.refl H1) h40⟩
  |_=>cases p3
 ·obtain⟨zA,ρ,z,rr,rel,st,e,po⟩:=q;refine I20 rel st e (I50 po) λb z1 e1 H1 x1 st1=>?_;cases e1;obtain⟨b',e',po⟩:=po;cases e';exact po H1 x1 st1
end
end Q
namespace Q
open PySem L2 PySem.Spec PyProof.Rows
variable [TB:Tb]
section
variable {lm:Bool}{X:Cx}{G:Gs}{E:XK}{N:List Str}{sc:à}
theorem D70(rel:r00 X.K zA H ρ σ)(st:c50 zA z H)
  (h:M.bind (ev G.F a ρ) (λx=>M.bind (M.of ((pl x).bind asB)) k) z=some r) (her:∀ c z1,r=.er c z1->EPost G zA E c z1 H)
  (hok:∀ b z1,k b z1=some r->∀ H1,Ext zA H H1->c50 zA z1 H1->Q' (.bl b) H1):tI X.K G E a σ H Q':=by
 refine g30 rel st h her λm z1 e1=>?_;obtain⟨b,p1,e2⟩:=M.a00 e1;obtain⟨d,p2,p3⟩:=Ë.mp p1;obtain⟨s1,rfl,q1⟩:=d90 p2;refine⟨s1,rfl,λv H1 x1 st1 rv=>?_⟩;have hd:=rv.pl.d_ q1;cases d with
 |bl c =>
  cases p3;rw[hd.bl_];exact hok b z1 e2 H1 x1 st1
 |_=>cases p3
theorem g62(ga:b00 X G E a l)(hl:∀ t x y p,l≠.IfExp t x y p)
  (gb:b00 X G E b (.BoolOp .And (r::vs) p)):b00 X G E (.and a b) (.BoolOp .And (l::r::vs) p):=by
 have pw:PW X (.BoolOp .And (l::r::vs) p) (tT X.K G E (.and a b)):=by
  refine PW.imp (v31 (ga.pt hl) (gb.pw _ _ _ rfl)) λσ H Q q=>?_;obtain⟨zA,ρ,z,rr,rel,st,e,po⟩:=q;refine I20 rel st e (I50 po) λc z1 e1 H1 x1 st1=>?_;cases c with
  |true =>
   rw[if_pos rfl];rw[if_pos rfl] at e1;refine I20 (rel.mono x1) st1 e1 (λc z2 q=>((I50 po) c z2 q).mono x1) λc z2 e2 H2 x2 st2=>?_;cases e2;obtain⟨b',e',po⟩:=po;cases e';exact po H2 (x1.trans x2) st2
  |false =>
   rw[if_neg Ï];rw[if_neg Ï] at e1;cases e1;obtain⟨b',e',po⟩:=po;cases e';exact po H1 x1 st1
 refine⟨PE.imp (L21 ga.pe gb.pe) λσ H Q q=>?_,λ_=>pw.pt,λop vs p h=>pw⟩;obtain⟨zA,ρ,z,rr,rel,st,e,po⟩:=q;refine D70 rel st e (e90 po) λc z1 e1 H1 x1 st1=>⟨c,rfl,?_⟩;cases c with
 |true =>
  rw[if_pos rfl];rw[if_pos rfl] at e1;refine D70 (rel.mono x1) st1 e1 (λc z2 q=>((e90 po) c z2 q).mono x1) λc z2 e2 H2 x2 st2=>?_;cases e2;exact e40 po (x1.trans x2) st2 _ _ (a10.refl H2) h40
 |false =>
  rw[if_neg Ï];rw[if_neg Ï] at e1;cases e1;exact e40 po x1 st1 _ _ (a10.refl H1) h40
theorem r42(ga:b00 X G E a l)(hl:∀ t x y p,l≠.IfExp t x y p)
  (gb:b00 X G E b (.BoolOp .Or (r::vs) p)):b00 X G E (.or a b) (.BoolOp .Or (l::r::vs) p):=by
 have pw:PW X (.BoolOp .Or (l::r::vs) p) (tT X.K G E (.or a b)):=by
  refine PW.imp (a82 (ga.pt hl) (gb.pw _ _ _ rfl)) λσ H Q q=>?_;obtain⟨zA,ρ,z,rr,rel,st,e,po⟩:=q;refine I20 rel st e (I50 po) λc z1 e1 H1 x1 st1=>?_;cases c with
  |false =>
   rw[if_neg Ï];rw[if_neg Ï] at e1;refine I20 (rel.mono x1) st1 e1 (λc z2 q=>((I50 po) c z2 q).mono x1) λc z2 e2 H2 x2 st2=>?_;cases e2;obtain⟨b',e',po⟩:=po;cases e';exact po H2 (x1.trans x2) st2
  |true =>
   rw[if_pos rfl];rw[if_pos rfl] at e1;cases e1;obtain⟨b',e',po⟩:=po;cases e';exact po H1 x1 st1
 refine⟨PE.imp (b12 ga.pe gb.pe) λσ H Q q=>?_,λ_=>pw.pt,λop vs p h=>pw⟩;obtain⟨zA,ρ,z,rr,rel,st,e,po⟩:=q;refine D70 rel st e (e90 po) λc z1 e1 H1 x1 st1=>⟨c,rfl,?_⟩;cases c with
 |false =>
  rw[if_neg Ï];rw[if_neg Ï] at e1;refine D70 (rel.mono x1) st1 e1 (λc z2 q=>((e90 po) c z2 q).mono x1) λc z2 e2 H2 x2 st2=>?_;cases e2;exact e40 po (x1.trans x2) st2 _ _ (a10.refl H2) h40
 |true =>
  rw[if_pos rfl];rw[if_pos rfl] at e1;cases e1;exact e40 po x1 st1 _ _ (a10.refl H1) h40
theorem R71(gb:b00 X G E b r)(hr:∀ t x y p,r≠.IfExp t x y p):b00 X G E b (.BoolOp op [r] p):=by
 have pw:PW X (.BoolOp op [r] p) (tT X.K G E b):=by
  cases op with
  |And=>exact Y30 (gb.pt hr)|Or=>exact L01 (gb.pt hr)
 exact⟨L11 gb.pe,λ_=>pw.pt,λ_ _ _ _=>pw⟩
theorem M30.R81(po:M30 X.K G zA E H Q rr)(x1:Ext zA H H1):M30 X.K G zA E H1 Q rr:=by
 cases rr with
 |er c z1=>exact EPost.mono po x1
 |ok l z2 =>
  obtain⟨s,e',po⟩:=po;exact⟨s,e',λv H' x' st' rv=>po v H' (x1.trans x') st' (rv.from x1)⟩
theorem I60{α:Type}{m:M α}{z:Z}{r:R α}(h:M.calm m z=some r):m z=some r/\∃ a z1,r=.ok a z1:=by
 unfold M.calm at h;split at h
 ·rename_i a z1 e;cases h;exact⟨e,a,z1,rfl⟩
 ·cases h
theorem R91(ha:PE X a ta)(hb:PE X b tb):PE X (.BoolOp .Or [a,b] pos) (λσ H Q=>ta σ H λx H1=>∃ t xs,x=.ref t/\SqT X.K H1 t xs/\if xs.isEmpty=true then tb σ H1 Q else Q x H1):=by
 intro pins s σ H Q I h;refine BoolOp_or (thn (ha pins s σ H _ I h) λv s1 ⟨x,H1,I1,r1,q1⟩=>?_);obtain⟨t,xs,rfl,hq,q1⟩:=q1;obtain⟨its,hv,ht,hl⟩:=I1.tuple hq;have hlen:xs.length=its.length:=hv.length;cases r1;refine truthy_tuple ht (by rw[Ô,← hlen];have:=À9;omega) ?_
 cases xs with
 |nil =>
  cases its with
  |nil=>exact BoolOp_one (hb pins _ σ H1 Q (I1.tok _) q1)|cons _ _=>cases hlen
 |cons y r =>
  cases its with
  |nil=>cases hlen
  |cons _ _=>exact⟨.ref t,H1,I1.tok _,rfl,q1⟩
theorem x71(h:(pl y).bind P01=some l):∃ s,y=[s]/\plD s=some (.tup l):=by
 obtain⟨d,p2,p3⟩:=Ë.mp h;obtain⟨s1,rfl,q1⟩:=d90 p2;cases d with
 |tup l=>cases p3;exact⟨s1,rfl,q1⟩
 |_=>cases p3
theorem g72(ga:b00 X G E a l)(gb:b00 X G E b r):b00 X G E (.orT a b) (.BoolOp .Or [l,r] p):=by
 have no:∀ {zA:Option Æ}{ρ:Env}{z:Z}{rr:R (List S)}{H:Hp}{Q:Bool->Hp->Prop},ev G.F (.orT a b) ρ z=some rr->s71 G zA E H Q rr->False:=λe po=>by
  obtain⟨e,u,z1,rfl⟩:=I60 e;obtain⟨c,rfl,_⟩:=po;rcases M.bind_some e with ⟨m,z2,_,e2⟩ | ⟨c,z2,_,e2⟩
  ·obtain⟨ds,_,e3⟩:=M.a00 e2;split at e3
   ·rcases M.bind_some e3 with ⟨m,z2,_,e2⟩ | ⟨c,z2,_,e2⟩
    ·obtain⟨ds,_,e3⟩:=M.a00 e2;cases e3
    ·cases e2
   ·cases e3
  ·cases e2
 refine⟨PE.imp (R91 ga.pe gb.pe) λσ H Q q=>?_,λ_ pins s σ H Q I ⟨_,_,_,_,_,_,e,po⟩=>(no e po).elim,λ_ _ _ _ wh pins s σ H Q I ⟨_,_,_,_,_,_,e,po⟩=>(no e po).elim⟩;obtain⟨zA,ρ,z,rr,rel,st,e,po⟩:=q;obtain⟨e,u,z1,rfl⟩:=I60 e;refine g30 rel st e (e90 po) λm z1 e1=>?_;obtain⟨ds,p1,e2⟩:=M.a00 e1;obtain⟨s1,rfl,q1⟩:=x71 p1;refine⟨s1,rfl,λv H1 x1 st1 rv=>?_⟩;have hd:=rv.pl.d_ q1;obtain⟨t,xs,rfl,h1,h2⟩:=hd.w10;refine⟨t,xs,rfl,(a30 zA H1).sqT h1,?_⟩;cases ds with
 |nil =>
  cases h2.e70;have po:=po.R81 x1;refine g30 (rel.mono x1) st1 e2 (e90 po) λm z1 e1=>?_;obtain⟨ds,p1,e2⟩:=M.a00 e1;obtain⟨s1,rfl,q1⟩:=x71 p1;cases e2;exact⟨s1,rfl,λv H2 x2 st2 rv=>e40 po x2 st2 _ _ (a10.refl H2) (rv.pl.d_ q1)⟩
 |cons y r =>
  obtain⟨u,w,rfl,_⟩:=h2.c30;cases e2;exact e40 po x1 st1 _ _ (a10.refl H1) hd
theorem g82(gc:b00 X G E c t)(ht:∀ a b d p,t≠.IfExp a b d p)(ga:b00 X G E a x)(gb:b00 X G E b y):b00 X G E (.ite c a b) (.IfExp t x y p):=by
 refine⟨PE.imp (n41 (gc.pt ht) ga.pe gb.pe) λσ H Q q=>?_,λh=>absurd rfl (h t x y p),λop vs p h=>by cases h⟩
 obtain⟨zA,ρ,z,rr,rel,st,e,po⟩:=q;refine I20 rel st e (e90 po) λk z1 e1 H1 x1 st1=>?_;have po1:=po.R81 x1;cases k with
 |true =>
  rw[if_pos rfl];rw[if_pos rfl] at e1;exact⟨zA,ρ,z1,rr,rel.mono x1,st1,e1,po1⟩
 |false =>
  rw[if_neg Ï];rw[if_neg Ï] at e1;exact⟨zA,ρ,z1,rr,rel.mono x1,st1,e1,po1⟩
theorem r52(x:XI lm X G E N sc)(hs:o40 s=true)(ga:b00 X G E a l)(gb:b00 X G E b r)(gc:b00 X G E c s):b00 X G E (.ch o o' a b c) (.Compare l [opC o,opC o'] [r,s] pos):=by
 have hm:lastMarks [opC o,opC o'] [r,s]=false:=w40 hs _;have key:∀ σ H Q,tI X.K G E (.ch o o' a b c) σ H Q->Y90 (rD2 X.K λa b=>(q40 o a b).map λc=>.d (.bl c)) (rD2 X.K λa b=>(q40 o' a b).map λc=>.d (.bl c)) (tI X.K G E a) (tI X.K G E b) (tI X.K G E c) σ H Q:=λσ H Q q=>by
  obtain⟨zA,ρ,z,rr,rel,st,e,po⟩:=q;refine Q30 rel st e (e90 po) λdx dy z2 v w H2 e2 x2 st2 h1 h2=>?_;obtain⟨k,hk,e3⟩:=M.a00 e2;refine⟨zA,z2,dx,dy,.d (.bl k),st2,h1,h2,by show Æ9 _ (q40 o dx dy)=_;rw[hk];rfl,λv3 H3 sm rv=>⟨k,Hd.bl_ (show Hd X.K (hz zA H3) (.bl k) v3 from rv),?_⟩⟩
  have x3:=x2.trans (Ext.of sm);have st3:=st2.same sm;cases k with
  |true =>
   rw[if_pos rfl];rw[if_pos rfl] at e3;refine g30 (rel.mono x3) st3 e3 (λc z2 q=>((e90 po) c z2 q).mono x3) λm z4 e4=>?_;obtain⟨dw,p1,e5⟩:=M.a00 e4;obtain⟨k',hk',e6⟩:=M.a00 e5;obtain⟨s1,rfl,q1⟩:=d90 p1;cases e6;refine⟨s1,rfl,λv4 H4 x4 st4 rv4=>?_⟩;exact⟨zA,z4,dy,dw,_,st4,(h2.same (a10.trans (h30 sm) x4)),rv4.pl.d_ q1,by show Æ9 _ (q40 o' dy dw)=_;rw[hk'];rfl,e40 po (x3.trans x4) st4⟩
  |false =>
   rw[if_neg Ï];rw[if_neg Ï] at e3;cases e3;exact e40 po x3 st3 _ _ (a10.refl H3) h40
 refine⟨PE.imp (n81 (n01 x.room.units o) (n01 x.room.units o') ga.pe gb.pe gc.pe hm) key,λ_=>PT.imp (n91 (n01 x.room.units o) (n01 x.room.units o') ga.pe gb.pe gc.pe hm) λσ H Q q=>?_,λop vs p h=>by cases h⟩
 obtain⟨zA,ρ,z,rr,rel,st,e,po⟩:=q;exact key σ H _ ⟨zA,ρ,z,rr,rel,st,e,x61 po⟩
theorem x81:∀ σ H Q,tI X.K G E (.bf f as) σ H Q->tCB (rDn X.K (bfD f)) (tA X.K G E as) σ H Q:=λσ H Q q=>by
 obtain⟨zA,ρ,z,rr,rel,st,e,po⟩:=q;refine W70 rel st e (e90 po) λl z1 e1 vs H1 x1 st1 rvs=>?_;obtain⟨ds,hd,e2⟩:=M.a00 e1;obtain⟨s,hs,e3⟩:=M.a00 e2;cases e3;exact⟨zA,z1,ds,s,st1,D60 rvs hd,hs,e40 po x1 st1⟩
theorem f41(x:XI lm X G E N sc){f:Bf}{as:Ex}{n:Str}{id:String}{e:Ê}{l:List Ê}{p pos:Pos}(hc:g90 X (.builtin id) (rDn X.K (bfD f)))(hb:n∈F11)(hv:é n=some (.builtin id))(hg:glob sc n=true)(hL:isL as=true)(g:Good X G E as (e::l)):b00 X G E (.bf f as) (.Call (.Name n p) (e::l) [] pos):=by
 obtain⟨k1,k2,k3⟩:=c90 hg;obtain⟨ha,hs⟩:=g.args hL;rw[Á8,Â] at hs;exact b20 (PE.imp (t60 hc (x.glb n k1) (x.blt n hb) hv ha k3 k2 (c80 hs.1 l X.env) (n00 X.env pos hs.2)) x81) rfl
theorem F31(x:XI lm X G E N sc){f:Bf}{as:Ex}{n:Str}{T:String}{e:Ê}{l:List Ê}{p pos:Pos}(hc:g90 X (.type T) (rDn X.K (bfD f)))(hb:n∈F11)(hv:é n=some (.type T))(hg:glob sc n=true)(hL:isL as=true)(g:Good X G E as (e::l)):b00 X G E (.bf f as) (.Call (.Name n p) (e::l) [] pos):=by
 obtain⟨k1,k2,k3⟩:=c90 hg;obtain⟨ha,hs⟩:=g.args hL;rw[Á8,Â] at hs;exact b20 (PE.imp (Z30 hc (x.glb n k1) (x.blt n hb) hv ha k3 k2 (c80 hs.1 l X.env) (n00 X.env pos hs.2)) x81) rfl
theorem S01:é "len"=some (.builtin "len"):=by decide +kernel
theorem f51:é "sorted"=some (.builtin "sorted"):=by decide +kernel
theorem S11:é "all"=some (.builtin "all"):=by decide +kernel
theorem S21:é "min"=some (.builtin "min"):=by decide +kernel
theorem S31:é "max"=some (.builtin "max"):=by decide +kernel
theorem p80:é "isinstance"=some (.builtin "isinstance"):=by decide +kernel
theorem S41:é "int"=some (.type "int"):=by decide +kernel
theorem D80:é "tuple"=some (.type "tuple"):=by decide +kernel
theorem M40:é "list"=some (.type "list"):=by decide +kernel
theorem r62(x:XI lm X G E N sc){f:Bf}{as:Ex}{n:Str}{e:Ê}{l:List Ê}{p pos:Pos}(hf:served f=true)(hn:n=(bfN f).1)(hg:glob sc n=true)(hL:isL as=true)(g:Good X G E as (e::l)):b00 X G E (.bf f as) (.Call (.Name n p) (e::l) [] pos):=by
 subst hn;cases f with
 |len=>exact f41 x Q41 (-0) S01 hg hL g|tuple=>exact F31 x s41 (-0) D80 hg hL g|list=>exact F31 x E51 (-0) M40 hg hL g|min=>exact f41 x (Q61 x.calm) (-0) S21 hg hL g|max=>exact f41 x (Q71 x.calm) (-0) S31 hg hL g|all=>exact f41 x (Q51 x.calm) (-0) S11 hg hL g|int=>exact F31 x Q81 (-0) S41 hg hL g|sorted=>exact f41 x (f21 x.room.units) (-0) f51 hg hL g|_=>cases hf
theorem g92(t:Ty)(h:t≠.seq):À5 (tyN t)∈F11/\é (À5 (tyN t))=some (.type (tyN t))/\tyN t∈["int","bool","tuple","list","str"]:=by
 cases t with
 |seq=>exact absurd rfl h|_=>decide +kernel
theorem S51(x:XI lm X G E N sc){t:Ty}{a:Ex}{n:Str}{e:Ê}{p pos p2:Pos}(hs:t≠.seq)
  (hg2:glob sc (À5 (tyN t))=true) (hn:n="isinstance") (hg:glob sc n=true) (ns:noStar e=true) (ga:b00 X G E a e):b00 X G E (.isi t a) (.Call (.Name n p) [e,.Name (À5 (tyN t)) p2] [] pos):=by
 obtain⟨hb,hv,ht⟩:=g92 t hs;subst hn;obtain⟨k1,k2,k3⟩:=c90 hg;obtain⟨m1,m2,m3⟩:=c90 hg2;refine b20 (PE.imp (t60 q51 (x.glb _ k1) (x.blt _ (-0)) p80 (c40 ga.pe (c40 (A50 (v:=.ty (tyN t)) (x.glb _ m1) (x.blt _ hb) hv rfl m3 m2) h80) (c80 ns _ _)) k3 k2 (c80 ns _ _) rfl) λσ H Q q=>?_) rfl
 obtain⟨zA,ρ,z,rr,rel,st,e,po⟩:=q;refine g30 rel st e (e90 po) λm z1 e1=>?_;obtain⟨d,p1,e2⟩:=M.a00 e1;obtain⟨s1,rfl,q1⟩:=d90 p1;cases e2;refine⟨s1,rfl,λv H1 x1 st1 rv=>⟨d,v,tyN t,rfl,((rv.pl.d_ q1).same (a30 zA H1)).has,ht,?_⟩⟩;rw[E61 t d hs];exact e40 po x1 st1 _ _ (a10.refl H1) h40
theorem S61(x:XI lm X G E N sc){a:Ex}{n:Str}{e:Ê}{p pos p1 p2 p3:Pos}{k:Nat}(hg2:glob sc "tuple"=true)(hg3:glob sc "list"=true)(hn:n="isinstance")(hg:glob sc n=true)(ns:noStar e=true)(ga:b00 X G E a e) :
  b00 X G E (.isi .seq a) (.Call (.Name n p) [e,.Tuple [.Name "tuple" p1,.Name "list" p2] k p3] [] pos):=by
 subst hn;obtain⟨k1,k2,k3⟩:=c90 hg;obtain⟨m1,m2,m3⟩:=c90 hg2;obtain⟨l1,l2,l3⟩:=c90 hg3;refine b20 (PE.imp (t60 b91 (x.glb _ k1) (x.blt _ (-0)) p80 (c40 ga.pe (c40 (v91 (c40 (A50 (v:=.ty "tuple") (x.glb _ m1) (x.blt _ (-0)) D80 rfl m3 m2)
  (c40 (A50 (v:=.ty "list") (x.glb _ l1) (x.blt _ (-0)) M40 rfl l3 l2) h80))) h80) (c80 ns _ _)) k3 k2 (c80 ns _ _) rfl) λσ H Q q=>?_) rfl
 obtain⟨zA,ρ,z,rr,rel,st,e,po⟩:=q;refine g30 rel st e (e90 po) λm z1 e1=>?_;obtain⟨d,p1,e2⟩:=M.a00 e1;obtain⟨s1,rfl,q1⟩:=d90 p1;cases e2;refine⟨s1,rfl,λv H1 x1 st1 rv=>⟨by show 2<=sizeLine;rw[À9];decide,λt ht=>?_⟩⟩
 have sm:a10 H1 (upd H1 t (.tup [.ty "tuple",.ty "list"])):=a10.new _ ht;refine⟨d,v,t,rfl,((rv.pl.d_ q1).same (a10.trans (a30 zA H1) sm)).has,SqT.of a90,?_⟩;rw[s51 d];exact e40 po x1 st1 _ _ sm h40
theorem h02(hs:w30 x=true)(ga:b00 X G E a v)(gi:b00 X G E i x):b00 X G E (.idx a i) (.Subscript v x pos):=by
 refine b20 (PE.imp (B11 ixD ga.pe gi.pe (z00 hs)) λσ H Q q=>?_) rfl;obtain⟨zA,ρ,z,rr,rel,st,e,po⟩:=q;refine Q30 rel st e (e90 po) λdx dy z2 v w H2 e2 x2 st2 h1 h2=>?_;obtain⟨c,hc,e3⟩:=M.a00 e2;cases e3;exact⟨zA,z2,dx,dy,_,st2,h1,h2,by show Æ9 _ (d81 dx dy)=_;rw[hc];rfl,e40 po x2 st2⟩
theorem S71(x:XI lm X G E N sc){i k:Nat}{n:Str}{c:Nat}{p q pos:Pos}(h1:N[i]?=some n)(h2:b30 n=true):b00 X G E (.zget i k) (.Subscript (.Name n p) (.Constant (.int k) c q) pos):=by
 unfold b30 at h2;simp only[Â,î] at h2;refine b20 (PE.imp (B11 K40 (e20 (i:=i) (by rw[x.hN];exact h1) (x.vis n (Ü h1)) h2.1 h2.2) F50 (z00 rfl)) λσ H Q qq=>?_) rfl
 obtain⟨zA,ρ,z,rr,rel,st,e,po⟩:=qq;have e0:e01 k ρ[i]? z=some rr:=e;unfold e01 at e0;split at e0
 ·rename_i p hs;obtain⟨v,hv,a,hz',rfl⟩:=rel i .z hs;subst hz';have st':H a=some (.lst [.int p.1,.bl p.2]):=st.zat;refine⟨_,hv,a,[.int p.1,.bl p.2],(k:Int),?_⟩;split at e0
  ·rename_i hk;subst hk;cases e0;obtain⟨s',e',po⟩:=po;cases e';exact⟨_,rfl,rfl,SqL.of st',rfl,po _ H Ext.refl st i00⟩
  ·split at e0
   ·rename_i hk;subst hk;cases e0;obtain⟨s',e',po⟩:=po;cases e';exact⟨_,rfl,rfl,SqL.of st',rfl,po _ H Ext.refl st (m91 Hd.bl)⟩
   ·cases e0
 ·cases e0
theorem Q40(a:Int):∀ (n:Nat) {its:List Ã},its.length=n->(∀ i,i < n->∃ v t,its[i]?=some v/\v=.int (a + (i:Nat)) t)->Vals ((ñ n).map λ(k:Nat)=>V.int (a + k)) its:=by
 intro n its hl h;have:∀ (m:Nat) (l:List Ã) (o:Nat),l.length=m->(∀ i,i < m->∃ v t,l[i]?=some v/\v=.int (a + (o + i:Nat)) t)->Vals ((range' o m 1).map λ(k:Nat)=>V.int (a + k)) l:=by
  intro m
  induction m with
  |zero =>
   intro l o hl _;rw[List.length_eq_zero_iff.mp hl];exact .nil
  |succ m ih =>
   intro l o hl h;cases l with
   |nil=>cases hl
   |cons x r =>
    obtain⟨v,t,e1,e2⟩:=h 0 (Nat.succ_pos m);simp only[Ç8,Æ7] at e1;subst e1;rw[Ä2,Ë4];refine .cons ⟨t,by rw[e2];simp⟩ (ih r (o + 1) (by simpa using hl) λi hi=>?_)
    obtain⟨v,t,e1,e2⟩:=h (i + 1) (Nat.succ_lt_succ hi);exact⟨v,t,by simpa using e1,by rw[e2];congr 1;omega⟩
 rw[Ï3];exact this n its 0 hl λi hi=>by
  obtain⟨v,t,e1,e2⟩:=h i hi;exact⟨v,t,e1,by rw[e2];simp⟩
theorem f61:é "range"=some (.type "range"):=by decide +kernel
def lrV:List V->Option (Int × Int)
 |[.int j]=>some (0,j)|[.int i,.int j]=>some (i,j)|_=>none
def lrO:Bool->List V->HO
 |true=>HO.tup|false=>HO.lst
def lrT:Bool->String
 |true=>"tuple"|false=>"list"
def h32(b:Bool)(ta:TA):TE:=λσ H Q=>ta σ H λvs H1=>∃ i j:Int,lrV vs=some (i,j)/\-100000 < i/\i < 100000/\-100000 < j/\j < 100000/\∀ l,H1 l=none->Q (.ref l) (upd H1 l (lrO b ((ñ (j - i).toNat).map λ(k:Nat)=>V.int (i + k))))
theorem S81{pins:List (Æ × Obj)}{σ:L2.St}{H1:Hp}{s1:Å}{r:Æ}{i j:Int}{t u v:Tok}{Q:VK}(hc:X.calm=true)(I2:Inv X pins σ H1 s1)(hr:Ï9 s1.heap r i j 1 t u v)(i1:-100000 < i)(i2:i < 100000)(j1:-100000 < j)(j2:j < 100000)
  (q:∀ l,H1 l=none->Q (.ref l) (upd H1 l (.lst ((ñ (j - i).toNat).map λ(k:Nat)=>V.int (i + k))))):Ð (Õ X.prog X.w) X.A (call (.type "list") [.ref r]) (EP X pins σ Q) X.xe s1:=by
 have hz:Á3 i j 1=(((j - i).toNat:Nat):Int):=by rw[rangeSize_one];split <;> omega
 refine call_list_range (n:=(j - i).toNat) (I2.ok.hd hc) hr (small_one ∅ ∅ ∅ ∅) hz ∅ λh' tk acc' c' kp hS hacc=>?_
 have rv:Vals ((ñ (j - i).toNat).map λ(k:Nat)=>V.int (i + k)) acc'.toList:=by
  refine Q40 i (j - i).toNat ?_ λi hi=>?_
  ·rw[Ç4];exact hacc.1
  ·have hlt:i < acc'.size:=by rw[hacc.1];exact hi
   obtain⟨t,e⟩:=hacc.2 i acc'[i] (Æ1 hlt);exact⟨acc'[i],t,by rw[Å1];exact Æ1 hlt,by rw[e];simp⟩
 have hlen:((ñ (j - i).toNat).map λ(k:Nat)=>V.int (i + k)).length<=sizeLine:=by rw[É,õ,À9];omega
 have hn:=I2.hok.fresh (È _);exact⟨.ref _,_,I2.laid (t':=tk) kp (È _) (show f90 X.prog X.w _ h' _ (.lst _) from⟨hlen,acc'.toList,c',rv,by rw[Ë2];exact hS⟩),rfl,q _ hn⟩
theorem F41{pins:List (Æ × Obj)}{σ:L2.St}{H1:Hp}{s1:Å}{r:Æ}{i j:Int}{t u v:Tok}{Q:VK}(hc:X.calm=true)(I2:Inv X pins σ H1 s1)(hr:Ï9 s1.heap r i j 1 t u v)(i1:-100000 < i)(i2:i < 100000)(j1:-100000 < j)(j2:j < 100000)
  (q:∀ l,H1 l=none->Q (.ref l) (upd H1 l (.tup ((ñ (j - i).toNat).map λ(k:Nat)=>V.int (i + k))))):Ð (Õ X.prog X.w) X.A (call (.type "tuple") [.ref r]) (EP X pins σ Q) X.xe s1:=by
 have hz:Á3 i j 1=(((j - i).toNat:Nat):Int):=by rw[rangeSize_one];split <;> omega
 refine HT.tuple_range (n:=(j - i).toNat) (I2.ok.hd hc) hr (small_one ∅ ∅ ∅ ∅) hz ∅ λh' tk acc' kp hsz hacc=>?_
 have rv:Vals ((ñ (j - i).toNat).map λ(k:Nat)=>V.int (i + k)) acc'.toList:=by
  refine Q40 i (j - i).toNat ?_ λi hi=>?_
  ·rw[Ç4];exact hacc.1
  ·have hlt:i < acc'.size:=by rw[hacc.1];exact hi
   obtain⟨t,e⟩:=hacc.2 i acc'[i] (Æ1 hlt);exact⟨acc'[i],t,by rw[Å1];exact Æ1 hlt,by rw[e];simp⟩
 have hlen:((ñ (j - i).toNat).map λ(k:Nat)=>V.int (i + k)).length<=sizeLine:=by rw[É,õ,À9];omega
 exact⟨.ref _,_,I2.laid (t':=tk) (λb o e=>Ä _ (kp b o e)) hsz (show f90 X.prog X.w _ _ _ (.tup _) from⟨hlen,acc'.toList,rv,⟨_,Ì _ rfl,rfl,0,by rw[Ë2]⟩⟩),rfl,q _ (I2.hok.fresh hsz)⟩
theorem f71(b:Bool){pins:List (Æ × Obj)}{σ:L2.St}{H1:Hp}{s1:Å}{r:Æ}{i j:Int}{t u v:Tok}{Q:VK}(hc:X.calm=true)(I2:Inv X pins σ H1 s1)(hr:Ï9 s1.heap r i j 1 t u v)(i1:-100000 < i)(i2:i < 100000)(j1:-100000 < j)(j2:j < 100000)
  (q:∀ l,H1 l=none->Q (.ref l) (upd H1 l (lrO b ((ñ (j - i).toNat).map λ(k:Nat)=>V.int (i + k))))):Ð (Õ X.prog X.w) X.A (call (.type (lrT b)) [.ref r]) (EP X pins σ Q) X.xe s1:=by
 cases b with
 |true=>exact F41 hc I2 hr i1 i2 j1 j2 q|false=>exact S81 hc I2 hr i1 i2 j1 j2 q
theorem h42(b:Bool):é (lrN b)=some (.type (lrT b)):=by
 cases b with
 |true=>exact D80|false=>exact M40
theorem f81(b:Bool){e:Ê}{l:List Ê}{ta:TA}{p p2 pos pos2:Pos}(hc:X.calm=true)(hg:Gl X (lrN b))(hm:X.mg (lrN b)=none)(hg2:Gl X "range")(hm2:X.mg "range"=none)(ha:PA X (e::l) ta)(hs:noStar e=true)(hs2:l.all noStar=true) :
  PE X (.Call (.Name (lrN b) p) [.Call (.Name "range" p2) (e::l) [] pos2] [] pos) (h32 b ta):=by
 intro pins s σ H Q I h;refine Call_ (p00 I hg hm (h42 b) (ö (Ð8 ?_) rfl rfl) (by cases b <;> decide) (by cases b <;> decide))
 refine Call_ (p00 I hg2 hm2 f61 (ö (thn (ha pos2 pins s σ H _ I h) λus s1 ⟨vs,H1,I1,r1,q1⟩=>?_) (c80 hs l X.env) (n00 X.env pos2 hs2)));obtain⟨i,j,hv,i1,i2,j1,j2,q⟩:=q1
 match vs,hv with
 |[.int _],hv =>
  cases hv;obtain⟨u,rfl,r⟩:=vals1 r1;obtain⟨t,rfl⟩:=r;exact call_range_1 (Ë8 (f71 b hc (I1.kept λb o e=>Ä _ e) (Ï9.new ..) i1 i2 j1 j2 q))
 |[.int _,.int _],hv =>
  cases hv;obtain⟨u,u',rfl,r,r'⟩:=vals2 r1;obtain⟨t,rfl⟩:=r;obtain⟨t',rfl⟩:=r';exact call_range_2 (Ë8 (f71 b hc (I1.kept λb o e=>Ä _ e) (Ï9.new ..) i1 i2 j1 j2 q))
theorem s81:∀ {ds xs:List D},lrD ds=some xs->∃ i j:Int,((ds=[.int j]/\i=0)∨ds=[.int i,.int j])/\-100000 < i/\i < 100000/\-100000 < j/\j < 100000/\xs=(ñ (j - i).toNat).map λ(k:Nat)=>D.int (i + k)
 |[],_,h=>by cases h
 |[x],xs,h=>by
  cases x with
  |int j =>
   obtain⟨hj,h⟩:=f60 h;have hj:=v90.mp hj;exact⟨0,j,.inl ⟨rfl,rfl⟩,by omega,by omega,hj.1,hj.2,by cases h;simp⟩
  |_=>cases h
 |[x,y],xs,h=>by
  cases x with
  |int i =>
   cases y with
   |int j =>
    obtain⟨hj,h⟩:=f60 h;have h1:=v90.mp hj.1;have h2:=v90.mp hj.2;exact⟨i,j,.inr rfl,h1.1,h1.2,h2.1,h2.2,by cases h;rfl⟩
   |_=>cases h
  |_=>cases h
 |x::y::_::_,_,h=>by
  cases x with
  |int i=>cases y <;> cases h
  |_=>cases h
theorem S91(x:XI lm X G E N sc){b:Bool}{as:Ex}{a:Ê}{l:List Ê}{p p2 pos pos2:Pos}(h1:glob sc (lrN b)=true)(h2:glob sc "range"=true)(hL:isL as=true)(g:Good X G E as (a::l)):b00 X G E (.lrng b as) (.Call (.Name (lrN b) p) [.Call (.Name "range" p2) (a::l) [] pos2] [] pos):=by
 obtain⟨k1,_,_⟩:=c90 h1;obtain⟨m1,_,_⟩:=c90 h2;obtain⟨ha,hs⟩:=g.args hL;rw[Á8,Â] at hs;refine b20 (PE.imp (f81 b x.calm (x.glb _ k1) (x.blt _ (by cases b <;> decide)) (x.glb _ m1) (x.blt _ (-0)) ha hs.1 hs.2) λσ H Q q=>?_) rfl
 obtain⟨zA,ρ,z,rr,rel,st,e,po⟩:=q;refine W70 rel st e (e90 po) λl z1 e1 vs H1 x1 st1 rvs=>?_;obtain⟨xs,hx,e2⟩:=M.a00 e1;cases e2;obtain⟨s',e',po⟩:=po;cases e';obtain⟨ds,h3,h4⟩:=Ë.mp hx;have hd:=D60 rvs h3;have fin:∀ i j:Int,xs=(ñ (j - i).toNat).map (λ(k:Nat)=>D.int (i + k))->∀ lA,H1 lA=none->Q (.ref lA) (upd H1 lA (lrO b ((ñ (j - i).toNat).map λ(k:Nat)=>V.int (i + k)))):=λi j ex lA hn=>by
  subst ex;have hI:=HdA.ints (K:=X.K) (H:=hz zA H1) ((ñ (j - i).toNat).map λ(k:Nat)=>i + (k:Int));rw[À4,À4] at hI;cases b with
  |false=>exact po _ _ (x1.trans (Ext.of (a10.new _ hn))) (st1.same (a10.new _ hn)) ((k90 st1 hI hn).from x1)|true=>exact po _ _ (x1.trans (Ext.of (a10.new _ hn))) (st1.same (a10.new _ hn)) (m91 (Hd.tup ((st1.same (a10.new _ hn)).D51 (SqT.of a90)) (hI.same (h30 (a10.new _ hn)))))
 obtain⟨i,j,hds,j1,j2,j3,j4,ex⟩:=s81 h4;refine⟨i,j,?_,j1,j2,j3,j4,fin i j ex⟩;rcases hds with ⟨rfl,rfl⟩ | rfl
 ·obtain⟨v,rfl,h5⟩:=hd.one;cases h5.i50;rfl
 ·obtain⟨v,w,rfl,h5,h6⟩:=hd.two;cases h5.i50;cases h6.i50;rfl
def tPO(K:À)(G:Gs)(E:XK)(x:Ex):TO:=λσ H Q=>∃ zA ρ z r,r00 K zA H ρ σ/\c50 zA z H/\ev G.F x ρ z=some r/\(match r with
 |.ok l z'=>∃ o,d91 l=some o/\∀ H',Ext zA H H'->c50 zA z' H'->Q o H'
 |.er c z'=>EPost G zA E c z' H)
theorem T01(hL:isL x=true)(g:Good X G E x e.toList):PO X e (tPO X.K G E x):=by
 cases e with
 |none =>
  cases x with
  |nil =>
   refine λpins s σ H Q I q=>A91 pins s σ H Q I ?_;obtain⟨zA,ρ,z,r,rel,st,e,po⟩:=q;cases e;obtain⟨o,e',po⟩:=po;cases e';exact po H Ext.refl st
  |cons a r=>obtain⟨e,es,h,_⟩:=g;cases h
  |_=>cases hL
 |some e =>
  cases x with
  |nil=>cases (show [e]=[] from g)
  |cons a r =>
   obtain⟨e',es,h,ns,ga,lr,gr⟩:=g;cases h;refine λpins s σ H Q I q=>B01 ga.pe pins s σ H Q I ?_;obtain⟨zA,ρ,z,rr,rel,st,e,po⟩:=q;have her:∀ c z1,rr=.er c z1->EPost G zA E c z1 H:=λc z1 e=>by subst e;exact po
   have rn:r=.nil:=by
    cases r with
    |nil=>rfl|cons b q=>obtain⟨e,es,h,_⟩:=gr;cases h
    |_=>cases lr
   subst rn;refine g30 rel st e her λl z1 e1=>?_;obtain⟨s,hs,e2⟩:=M.a00 e1;cases e2;obtain⟨o,e',po⟩:=po;refine⟨s,s50 hs,λv H1 x1 st1 rv=>?_⟩;cases s with
   |d y =>
    cases y with
    |int i =>
     cases e';exact⟨i,Hd.i50 (show Hd X.K (hz zA H1) (.int i) v from rv),po H1 x1 st1⟩
    |_=>cases e'
   |_=>cases e'
  |_=>cases hL
theorem r72{a lo hi:Ex}{v:Ê}{l h:Option Ê}{p pos:Pos}(ga:b00 X G E a v)(hl:isL lo=true)(hh:isL hi=true)(gl:Good X G E lo l.toList)(gh:Good X G E hi h.toList):b00 X G E (.sl a lo hi) (.Subscript v (.Slice l h none p) pos):=by
 refine b20 (PE.imp (o31 q82 ga.pe (T01 hl gl) (T01 hh gh)) λσ H Q q=>?_) rfl;obtain⟨zA,ρ,z,rr,rel,st,e,po⟩:=q;refine g30 rel st e (e90 po) λm z1 e1=>?_;obtain⟨dx,p1,e2⟩:=M.a00 e1;obtain⟨s1,rfl,q1⟩:=d90 p1;refine⟨s1,rfl,λw H1 x1 st1 rv=>?_⟩;rcases M.bind_some e2 with ⟨u,z2,e3,e4⟩ | ⟨c,z2,e3,e4⟩
 ·obtain⟨o,ho,e5⟩:=M.a00 e4;refine⟨zA,ρ,z1,_,rel.mono x1,st1,e3,o,ho,λH2 x2 st2=>?_⟩;rcases M.bind_some e5 with ⟨u',z3,e6,e7⟩ | ⟨c,z3,e6,e7⟩
  ·obtain⟨o',ho',e8⟩:=M.a00 e7;refine⟨zA,ρ,z2,_,(rel.mono x1).mono x2,st2,e6,o',ho',λH3 x3 st3=>?_⟩;obtain⟨s,hs,e9⟩:=M.a00 e8;cases e9;exact⟨zA,z3,dx,s,st3,((rv.pl.mono (x2.trans x3)).d_ q1),hs,e40 po ((x1.trans x2).trans x3) st3⟩
  ·exact⟨zA,ρ,z2,_,(rel.mono x1).mono x2,st2,e6,((e90 po) c z3 e7).mono (x1.trans x2)⟩
 ·exact⟨zA,ρ,z1,_,rel.mono x1,st1,e3,((e90 po) c z2 e4).mono x1⟩
theorem T11:∀ {x:Ex}{es:List Ê}{z z1:Z}{l:List S},isL x=true->Good X G E x es->ev G.F x ρ z=some (.ok l z1)->l.length=es.length:=by
 intro x
 induction x with
 |nil =>
  intro es z z1 l _ h e;have h:es=[]:=h;subst h;cases e;rfl
 |cons a r _ ih =>
  intro es z z1 l _ h e;obtain⟨e',es',rfl,ns,g,lr,gr⟩:=h;rcases M.bind_some e with ⟨m,z2,e1,e2⟩ | ⟨c,z2,e1,e2⟩
  ·obtain⟨s,hs,e3⟩:=M.a00 e2;rcases M.bind_some e3 with ⟨m',z3,e4,e5⟩ | ⟨c,z3,e4,e5⟩
   ·cases e5;rw[Ò,Ò,ih lr gr e4]
   ·cases e5
  ·cases e2
 |_=>intro es z z1 l h;cases h
theorem s_call(x:XI lm X G E N sc){f:Nat}{as:Ex}{n:Str}{ps:List Str}{e:Ê}{l:List Ê}{p pos:Pos}(hf:G.fns[f]?=some (n,ps))(hl:ps.length=l.length + 1)(hg:glob sc n=true)(hL:isL as=true)(g:Good X G E as (e::l)) :
  b00 X G E (.call f as) (.Call (.Name n p) (e::l) [] pos):=by
 obtain⟨k1,k2,k3⟩:=c90 hg;obtain⟨fa,fd,m1,m2,m3,F⟩:=x.gok f n ps hf;obtain⟨ha,hs⟩:=g.args hL;rw[Á8,Â] at hs;refine b20 (PE.imp (Z20 F x.room (x.glb n k1) m1 m2 m3 .nil x.pas ha k2 (c80 hs.1 l X.env) (n00 X.env pos hs.2)) λσ H Q q=>?_) rfl;obtain⟨zA,ρ,z,rr,rel,st,e,po⟩:=q;have e0:M.bind (ev G.F as ρ) (λl=>M.bind (G.F false f (l.map plS)) λs=>M.ret [s]) z=some rr:=e;rcases M.bind_some e0 with ⟨m,z1,e1,e2⟩ | ⟨c,z1,e1,e2⟩
 ·refine⟨zA,ρ,z,_,rel,st,e1,λvs H1 x1 st1 rvs=>?_⟩;have hv:vs.length=ps.length:=by rw[← rvs.length,T11 hL g e1,hl];rfl
  show spF X.K G f ps.length (vs++[]) H1 Q E;rw[Ä0];refine⟨hv,zA,z1,m.map plS,?_⟩;have ra:RvA X.K zA H1 (m.map plS) vs:=RvA.plS (À1.v01 rvs λ_ _ q=>q.pl);rcases M.bind_some e2 with ⟨s,z2,e3,e4⟩ | ⟨c,z2,e3,e4⟩
  ·cases e4;refine⟨_,ra,st1,e3,λv H2 x2 st2 rv=>?_⟩;obtain⟨s',e',po⟩:=po;cases e';exact po v H2 (x1.trans x2) st2 (rv.from x1)
  ·exact⟨_,ra,st1,e3,((e90 po) c z2 e4).mono x1⟩
 ·exact⟨zA,ρ,z,_,rel,st,e1,(e90 po) c z1 e2⟩
def Z81:Pat->Nat
 |.nil=>0|.cons _ r=>Z81 r + 1|_=>0
mutual
noncomputable def gP(K:À):Pat->TG
 |.v i=>A80 i|.tup ps=>l52 K (Z81 ps) (gL K ps)|.nil=>λ_ _ _ _=>False|.cons _ _=>λ_ _ _ _=>False
noncomputable def gL(K:À):Pat->TGs
 |.nil=>l42|.cons p r=>L51 (gP K p) (gL K r)|.v _=>λ_ _ _ _=>False|.tup _=>λ_ _ _ _=>False
end
end
end Q
namespace Q
open PySem L2 PySem.Spec PyProof.Rows
variable [TB:Tb]
theorem x91(h:noStar e=true)(es:List Ê)(env:Å0):Æ6 (e::es) env=(false,Ñ6 e env)::Æ6 es env:=by
 cases e <;> first | rfl | cases h
structure s91(X:Cx)(N:List Str)(loc:Str->Bool):Prop where
 hN:X.N=N
 nd:N.Nodup
 lc:∀ x,loc x=true->Loc X.env.scope x
 fn:∀ x,loc x=true->(X.fn x=true∨X.env.scope.names.lookup x=some .local)
 calm:X.calm=true
theorem z10:∀ {es:List Ê} (env:Å0),es.all noStar=true->(Æ6 es env).length=es.length/\(Æ6 es env).findIdx? (·.1)=none
 |[],_,_=>⟨rfl,rfl⟩
 |e::es,env,h=>by
  rw[Á8,Â] at h;obtain⟨h1,h2⟩:=z10 env h.2;rw[x91 h.1];refine⟨by rw[Ò,Ò,h1],?_⟩
  rw[List.findIdx?_cons,h2];rfl
theorem Q50:∀ {r:Pat}{es:List Ê},W80 N loc r es=true->es.length=Z81 r/\es.all noStar=true
 |.nil,es,h=>by
  unfold W80 at h;have:es=[]:=Í3.mp h;subst this;exact⟨rfl,rfl⟩
 |.cons p r,es,h=>by
  unfold W80 at h;cases es with
  |nil=>cases h
  |cons e es =>
   rw[Â,Â] at h;obtain⟨h1,h2⟩:=Q50 (r:=r) h.2;exact⟨by rw[Ò,h1];rfl,by rw[Á8,h.1.1,h2];rfl⟩
 |.v _,_,h=>by unfold W80 at h;cases h
 |.tup _,_,h=>by unfold W80 at h;cases h
mutual
theorem f91(L:s91 X N loc):∀ {p:Pat}{e:Ê},h70 N loc p e=true->PG X e (gP X.K p)
 |.v i,e,h=>by
  unfold h70 at h;cases e with
  |Name x pos =>
   rw[Â,beq_iff_eq] at h;unfold gP;exact K20 (by rw[L.hN];exact L.nd) (by rw[L.hN];exact h.1) (L.lc x h.2) (L.fn x h.2)
  |_=>cases h
 |.tup ps,e,h=>by
  unfold h70 at h;cases e with
  |Tuple es k pos =>
   obtain⟨h1,h2⟩:=Q50 h;obtain⟨h3,h4⟩:=z10 X.env h2;unfold gP;exact L61 L.calm (y01 L h) (by rw[h3,h1]) h4
  |_=>cases h
 |.nil,e,h=>by unfold h70 at h;cases h
 |.cons _ _,e,h=>by unfold h70 at h;cases h
theorem y01(L:s91 X N loc):∀ {r:Pat}{es:List Ê},W80 N loc r es=true->PGs X es (gL X.K r)
 |.nil,es,h=>by
  unfold W80 at h;have:es=[]:=Í3.mp h;subst this;unfold gL;exact A41
 |.cons p r,es,h=>by
  unfold W80 at h;cases es with
  |nil=>cases h
  |cons e es =>
   rw[Â,Â] at h;unfold gL;exact n51 (f91 L h.1.2) (y01 L h.2) (by rw[x91 h.1.1];rfl)
 |.v _,_,h=>by unfold W80 at h;cases h
 |.tup _,_,h=>by unfold W80 at h;cases h
end
section
variable {K:À}{zA:Option Æ}{H:Hp}
theorem r00.set{ρ:Env}{σ:L2.St}{i:Nat}{s:S}{v:V}(h:r00 K zA H ρ σ)(hl:ρ.length=σ.length)(r:RvP K zA H s v):r00 K zA H (ρ.set i (some s)) (σ.set i (some v)):=by
 intro j t e;by_cases hj:j=i
 ·subst hj;have hlt:j < ρ.length:=by
   have:=(Ú.mp e).1;simpa using this
  rw[ß hlt] at e;cases e;exact⟨v,ß (by rw[← hl];exact hlt),r⟩
 ·rw[Ö (À3 hj)] at e;obtain⟨w,h1,h2⟩:=h j t e;exact⟨w,by rw[Ö (À3 hj)];exact h1,h2⟩
theorem w50:∀ {r:Pat}{l:List D}{ρ ρ':Env},bindL r l ρ=some ρ'->l.length=Z81 r
 |.nil,l,ρ,ρ',e=>by
  unfold bindL at e;cases l with
  |nil=>rfl|cons x l=>cases e
 |.cons p r,l,ρ,ρ',e=>by
  unfold bindL at e;cases l with
  |nil=>cases e
  |cons x l =>
   obtain⟨ρ1,e1,e2⟩:=Ë.mp e;rw[Ò,w50 e2];rfl
 |.v _,_,_,_,e=>by unfold bindL at e;cases e
 |.tup _,_,_,_,e=>by unfold bindL at e;cases e
mutual
theorem g01:∀ {p:Pat}{d:D}{ρ ρ':Env},e60 p d ρ=some ρ'->∀ {σ:L2.St}{v:V}{R:L2.St->Hp->Prop},r00 K zA H ρ σ->ρ.length=σ.length->Hd K (hz zA H) d v ->
  (∀ σ',r00 K zA H ρ' σ'->ρ'.length=σ'.length->R σ' H)->gP K p v σ H R
 |.v i,d,ρ,ρ',e,σ,v,R,rel,hl,hd,k=>by
  unfold e60 at e;cases e;unfold gP;exact k _ (rel.set hl (show RvP K zA H (.d d) v from hd)) (by rw[À6,À6,hl])
 |.tup ps,d,ρ,ρ',e,σ,v,R,rel,hl,hd,k=>by
  unfold e60 at e;cases d with
  |tup l =>
   obtain⟨a,xs,rfl,h1,h2⟩:=hd.w10;unfold gP;exact⟨a,xs,rfl,(a30 zA H).sqT h1,by rw[h2.length];exact w50 e,Q60 e rel hl h2 k⟩
  |_=>cases e
 |.nil,_,_,_,e,_,_,_,_,_,_,_=>by unfold e60 at e;cases e
 |.cons _ _,_,_,_,e,_,_,_,_,_,_,_=>by unfold e60 at e;cases e
theorem Q60:∀ {r:Pat}{l:List D}{ρ ρ':Env},bindL r l ρ=some ρ'->∀ {σ:L2.St}{vs:List V}{R:L2.St->Hp->Prop},r00 K zA H ρ σ->ρ.length=σ.length->HdA K (hz zA H) l vs ->
  (∀ σ',r00 K zA H ρ' σ'->ρ'.length=σ'.length->R σ' H)->gL K r vs σ H R
 |.nil,l,ρ,ρ',e,σ,vs,R,rel,hl,hd,k=>by
  unfold bindL at e;cases l with
  |nil =>
   cases e;unfold gL;exact⟨hd.e70,k σ rel hl⟩
  |cons x l=>cases e
 |.cons p r,l,ρ,ρ',e,σ,vs,R,rel,hl,hd,k=>by
  unfold bindL at e;cases l with
  |nil=>cases e
  |cons x l =>
   obtain⟨ρ1,e1,e2⟩:=Ë.mp e;obtain⟨v,ws,rfl,h1,h2⟩:=hd.c30;unfold gL;exact⟨v,ws,rfl,g01 e1 rel hl h1 λσ' r' l'=>Q60 e2 r' l' h2 k⟩
 |.v _,_,_,_,e,_,_,_,_,_,_,_=>by unfold bindL at e;cases e
 |.tup _,_,_,_,e,_,_,_,_,_,_,_=>by unfold bindL at e;cases e
end
end
end Q
namespace Q
open PySem L2 PySem.Spec PyProof.Rows
variable [TB:Tb]
structure h52(K:PySem.W.Frag)(zA:Option Addr)(J:L2.It)(xs:List D)(H1:Hp):Prop where
 go:∀ i H,Ext zA H1 H->i < xs.length->J.go i H
 yld:∀ i H x H' z d,Ext zA H1 H->c50 zA z H->J.yld i H x H'->xs[i]?=some d->a10 H H'/\Hd K (hz zA H') d x
 stop:∀ H,Ext zA H1 H->J.stop xs.length H
structure ItB(K:PySem.W.Frag)(J:L2.It)(xs:List D)(B:Hp):Prop where
 go:∀ i H,a10 B H->i < xs.length->J.go i H
 yld:∀ i H x H' zA z d,a10 B (hz zA H)->c50 zA z H->J.yld i H x H'->xs[i]?=some d->a10 H H'/\∀ C,a10 B C->(∀ a ys,SqT K (hz zA H') a ys->SqT K C a ys)->Hd K C d x
 stop:∀ H,a10 B H->J.stop xs.length H
section
variable {K:À}{B:Hp}
theorem ItB.ok(h:ItB K J xs (hz zA H1)):h52 K zA J xs H1 :=
 ⟨λi H x=>h.go i H (a10.trans x (a30 zA H)),λi H x H' z d e st y k=>let ⟨s,f⟩:=h.yld i H x H' zA z d e st y k;⟨s,f _ (a10.trans e (h30 s)) λ_ _ q=>q⟩,λH x=>h.stop H (a10.trans x (a30 zA H))⟩
theorem Q70(h:m90 K B a ys)(r:HdA K B xs ys):ItB K (Itl K a) xs B where
 go:=λi H x hi=>⟨ys,ys[i]'(by rw[r.length];exact hi),(h.same x).sq,by simp⟩
 yld:=λi H v H' zA z d x st y e=>by
  obtain⟨rfl,y⟩:=y;have y1:=y ys ((h.same x).same (a30 zA _)).sq;obtain⟨w,e1,e2⟩:=r.get e;rw[y1] at e1;cases e1;exact⟨a10.refl _,λC c _=>e2.same c⟩
 stop:=λH x=>⟨ys,(h.same x).sq,by rw[r.length];exact È _⟩
theorem g21(h:SqT K B a ys)(r:HdA K B xs ys):ItB K (Itt K a) xs B where
 go:=λi H x hi=>⟨ys,ys[i]'(by rw[r.length];exact hi),a10.sqT x h,by simp⟩
 yld:=λi H v H' zA z d x st y e=>by
  obtain⟨rfl,y⟩:=y;have y1:=y ys ((a30 zA _).sqT (a10.sqT x h));obtain⟨w,e1,e2⟩:=r.get e;rw[y1] at e1;cases e1;exact⟨a10.refl _,λC c _=>e2.same c⟩
 stop:=λH x=>⟨ys,a10.sqT x h,by rw[r.length];exact È _⟩
theorem g31(lo:Int)(n:Nat):ItB K (Itr lo n) ((ñ n).map λ(k:Nat)=>D.int (lo + k)) B where
 go:=λi H x hi=>by show i < n;simpa using hi
 yld:=λi H v H' zA z d x st y e=>by
  obtain⟨rfl,rfl⟩:=y;rw[Ù] at e;obtain⟨k,e1,rfl⟩:=Í.mp e;obtain⟨h1,h2⟩:=Ú.mp e1;rw[Ñ1] at h2;subst h2;exact⟨a10.refl _,λ_ _ _=>Hd.int⟩
 stop:=λH x=>by show n<=_;simp
end
section
variable {K:À}{zA:Option Æ}{H1:Hp}
theorem zip_get:∀ {a b:List D}{i:Nat}{d:D},(t20 a b)[i]?=some d->∃ x y,a[i]?=some x/\b[i]?=some y/\d=.tup [x,y]
 |[],_,_,_,e=>by simp[t20] at e|_::_,[],_,_,e=>by simp[t20] at e|x::r,y::q,0,d,e=>by simp[t20] at e;exact⟨x,y,rfl,rfl,e.symm⟩
 |x::r,y::q,i + 1,d,e=>by
  obtain⟨u,v,h1,h2,h3⟩:=zip_get (a:=r) (b:=q) (i:=i) (by simpa [t20] using e)
  exact⟨u,v,by simpa using h1,by simpa using h2,h3⟩
theorem M50:∀ (a b:List D),(t20 a b).length=min a.length b.length
 |[],_=>by simp[t20]|_::_,[]=>by simp[t20]|x::r,y::q=>by simp only[t20,Ò,M50 r q];omega
theorem g41(h:∀ H,a10 B H->SqB bb K H a us)(r:HdA K B xs us)(h':∀ H,a10 B H->SqB bb K H b ws)(r':HdA K B ys ws):ItB K (Itz bb K a b) (t20 xs ys) B where
 go:=λi H x hi=>by
  rw[M50] at hi;exact⟨us,ws,us[i]'(by rw[r.length];omega),ws[i]'(by rw[r'.length];omega),h H x,h' H x,by simp,by simp⟩
 yld:=λi H v H' zA z d x st y e=>by
  obtain⟨T,rfl,hT,y⟩:=y;obtain⟨d1,d2,e1,e2,rfl⟩:=zip_get e;obtain⟨w1,f1,g1⟩:=r.get e1;obtain⟨w2,f2,g2⟩:=r'.get e2;have y1:=y us ws w1 w2 (h H (a10.trans x (a30 zA H))) (h' H (a10.trans x (a30 zA H))) f1 f2;subst y1;have sm:a10 H (upd H T (.tup [w1,w2])):=a10.new _ hT;exact⟨sm,λC c t=>Hd.tup (t _ _ ((st.same sm).D51 (SqT.of a90))) (.cons (g1.same c) (.cons (g2.same c) .nil))⟩
 stop:=λH x=>⟨us,ws,h H x,h' H x,by rw[M50,r.length,r'.length];omega⟩
end
def PX(P:D->Prop):D->Prop
 |.tup l=>∀ y∈l,P y|.lst l=>∀ y∈l,P y|_=>True
def ItX(K:À)(zA:Option Æ)(H H':Hp)(l:List S)(J:L2.It)(xs:List D):Prop :=
 ∀ (P:D->Prop) (B:Hp),a10 B (hz zA H')->(∀ a ys,SqT K (hz zA H') a ys->SqT K B a ys)->(∀ d v,P d->Hd K (hz zA H') d v->Hd K B d v)->(∀ ds,plA l=some ds->∀ d∈ds,PX P d) ->
  (∀ a ys,m90 K (hz zA H') a ys->((H a=none/\H' a=some (.lst ys))∨W50 l=true)->m90 K B a ys)->ItB K J xs B
theorem HdA.move{K:À}{H B:Hp}{P:D->Prop}(mv:∀ d v,P d->Hd K H d v->Hd K B d v):∀ {ds:List D}{vs:List V},(∀ y∈ds,P y)->HdA K H ds vs->HdA K B ds vs
 |[],_,_,h=>by rw[h.e70];exact .nil
 |d::ds,_,p,h=>by
  obtain⟨x,r,rfl,h1,h2⟩:=h.c30;exact .cons (mv d x (p d Ó) h1) (HdA.move mv (λy hy=>p y (Î _ hy)) h2)
theorem ItX.ok{K:À}{zA:Option Æ}{H H':Hp}{l:List S}{J:L2.It}{xs:List D}(h:ItX K zA H H' l J xs):h52 K zA J xs H':=by
 refine(h (λ_=>True) (hz zA H') (a10.refl _) (λ_ _ q=>q) (λ_ _ _ q=>q) (λds _ d _=>?_) λ_ _ q _=>q).ok;cases d <;> first | trivial | exact λ_ _=>trivial
def tIt(K:À)(G:Gs)(E:XK)(it:It)(src:Ex):TI:=λσ H R=>∃ zA ρ z r,r00 K zA H ρ σ/\c50 zA z H/\ev G.F src ρ z=some r/\(match r with
 |.ok l z'=>∃ xs,(plA l).bind (itD it)=some xs/\∀ J H',Ext zA H H'->c50 zA z' H'->ItX K zA H H' l J xs->R J H'
 |.er c z'=>EPost G zA E c z' H)
section
variable {lm:Bool}{X:Cx}{G:Gs}{E:XK}{N:List Str}{sc:à}
theorem T21{zA:Option Æ}{H:Hp}{it:It}{P:L2.It->Hp->Prop}{r:R (List S)}(po:(match r with | .ok l z'=>∃ xs,(plA l).bind (itD it)=some xs/\∀ J H',Ext zA H H'->c50 zA z' H'->ItX X.K zA H H' l J xs->P J H' | .er c z'=>EPost G zA E c z' H)):∀ c z1,r=.er c z1->EPost G zA E c z1 H:=λc z1 e=>by subst e;exact po
theorem g51{s:S}{ds:List D}(h:plA [s]=some ds):∃ d,ds=[d]/\plD s=some d:=by
 cases s with
 |d x=>cases h;exact⟨x,rfl,rfl⟩
 |fr xs=>cases h;exact⟨_,rfl,rfl⟩
 |_=>cases h
theorem y11{tg e:Ê}{a:Ex}(g:b00 X G E a e):PI X tg e (tIt X.K G E .seq (.cons a .nil)):=by
 intro pins s σ H R I q;obtain⟨zA,ρ,z,rr,rel,st,ee,po⟩:=q;have e0:M.bind (ev G.F a ρ) (λx=>M.bind (M.of (one x)) λs=>M.bind (ev G.F .nil ρ) λy=>M.ret (s::y)) z=some rr:=ee;rcases M.bind_some e0 with ⟨m,z1,e1,e2⟩ | ⟨c,z1,e1,e2⟩
 ·obtain⟨t,ht,e3⟩:=M.a00 e2;cases e3;have hm:=s50 ht;subst hm;obtain⟨xs,hx,po⟩:=po;obtain⟨ds,h1,h2⟩:=Ë.mp hx;obtain⟨d,rfl,h3⟩:=g51 h1;cases d with
  |tup l =>
   cases h2;refine v61 g.pe pins s σ H R I ⟨zA,ρ,z,_,rel,st,e1,t,rfl,λv H1 x1 st1 rv=>?_⟩;obtain⟨b,ys,rfl,k1,k2⟩:=(rv.pl.d_ h3).w10;exact⟨b,rfl,⟨ys,(a30 zA H1).sqT k1⟩,po _ H1 x1 st1 λP B sub tup mv pa sf=>g21 (tup _ _ k1) (HdA.move mv (show ∀ y∈xs,P y from pa _ h1 _ Ó) k2)⟩
  |lst l =>
   cases h2;refine A90 g.pe pins s σ H R I ⟨zA,ρ,z,_,rel,st,e1,t,rfl,λv H1 x1 st1 rv=>?_⟩;have fin:∀ {b:Æ}{ys:List V},m90 X.K (hz zA H1) b ys->HdA X.K (hz zA H1) xs ys->((H b=none/\H1 b=some (.lst ys))∨W50 [t]=true)->∃ a,V.ref b=.ref a/\(∃ xs,SqL X.K H1 a xs)/\R (Itl X.K a) H1:=λ{b ys} k1 k2 k5=>by
    exact⟨b,rfl,⟨ys,(k1.same (a30 zA H1)).sq⟩,po _ H1 x1 st1 λP B sub tup mv pa sf=>Q70 (sf _ _ k1 k5) (HdA.move mv (show ∀ y∈xs,P y from pa _ h1 _ Ó) k2)⟩
   cases t with
   |d x =>
    cases h3;obtain⟨b,ys,rfl,k1,k2⟩:=Hd.P90 (show Hd X.K (hz zA H1) (.lst xs) v from rv);exact fin k1 k2 (.inr rfl)
   |fr x =>
    cases h3;obtain⟨b,ys,rfl,k0,k1,k2,k3⟩:=rv;exact fin (m90.of (d30 k2 k1)) (k3.same (e00 b _)) (.inl ⟨k0,k2⟩)
   |_=>cases h3
  |_=>cases h2
 ·exact A90 g.pe pins s σ H R I ⟨zA,ρ,z,_,rel,st,e1,(T21 po) c z1 e2⟩
theorem D90{l:List S}{it:It}{xs:List D}(h:(plA l).bind (itD it)=some xs):∃ ds,plA l=some ds/\itD it ds=some xs:=Ë.mp h
theorem g61(x:XI lm X G E N sc){tg a:Ê}{as:Ex}{n:Str}{p pos:Pos}(hn:n="range")(hg:glob sc n=true)(hL:isL as=true)(g:Good X G E as [a]):PI X tg (.Call (.Name n p) [a] [] pos) (tIt X.K G E .rng1 as):=by
 subst hn;obtain⟨k1,k2,k3⟩:=c90 hg;obtain⟨ha,hs⟩:=g.args hL;rw[Á8,Â] at hs;intro pins s σ H R I q;refine F70 (x.glb _ k1) (x.blt _ (-0)) ha (c80 hs.1 [] X.env) pins s σ H R I ?_
 obtain⟨zA,ρ,z,rr,rel,st,ee,po⟩:=q;refine⟨zA,ρ,z,rr,rel,st,ee,?_⟩;cases rr with
 |er c z1=>exact po
 |ok l z1 =>
  obtain⟨xs,hx,po⟩:=po;intro vs H1 x1 st1 rvs;obtain⟨ds,h1,h2⟩:=D90 hx;have hd:=D60 rvs h1
  match ds,h2 with
  |[.int j],h2 =>
   obtain⟨hj,h2⟩:=f60 h2;have hj:=v90.mp hj;cases h2;obtain⟨v,rfl,h3⟩:=hd.one;cases h3.i50;refine⟨j,rfl,by omega,by omega,po _ H1 x1 st1 λP B sub tup mv pa sf=>?_⟩
   have:=g31 (K:=X.K) (B:=B) 0 j.toNat;simpa using this
theorem g71(x:XI lm X G E N sc){tg a b:Ê}{as:Ex}{n:Str}{p pos:Pos}(hn:n="range")(hg:glob sc n=true)(hL:isL as=true)(g:Good X G E as [a,b]):PI X tg (.Call (.Name n p) [a,b] [] pos) (tIt X.K G E .rng2 as):=by
 subst hn;obtain⟨k1,k2,k3⟩:=c90 hg;obtain⟨ha,hs⟩:=g.args hL;rw[Á8,Á8,Â,Â] at hs;intro pins s σ H R I q;refine Y70 (x.glb _ k1) (x.blt _ (-0)) ha (by rw[c80 hs.1,c80 hs.2.1];rfl) (c80 hs.2.1 [] X.env) pins s σ H R I ?_
 obtain⟨zA,ρ,z,rr,rel,st,ee,po⟩:=q;refine⟨zA,ρ,z,rr,rel,st,ee,?_⟩;cases rr with
 |er c z1=>exact po
 |ok l z1 =>
  obtain⟨xs,hx,po⟩:=po;intro vs H1 x1 st1 rvs;obtain⟨ds,h1,h2⟩:=D90 hx;have hd:=D60 rvs h1
  match ds,h2 with
  |[.int i,.int j],h2 =>
   obtain⟨hj,h2⟩:=f60 h2;have hi:=v90.mp hj.1;have hj:=v90.mp hj.2;cases h2;obtain⟨v,w,rfl,h3,h4⟩:=hd.two;cases h3.i50;cases h4.i50;exact⟨i,j,rfl,by omega,po _ H1 x1 st1 λP B sub tup mv pa sf=>g31 i (j - i).toNat⟩
theorem g81{s:S}{r:List S}{ds:List D}(h:plA (s::r)=some ds):∃ x q,ds=x::q/\plD s=some x/\plA r=some q:=by
 cases s with
 |d y =>
  obtain⟨q,e,rfl⟩:=Í.mp h;exact⟨y,q,rfl,rfl,e⟩
 |fr y =>
  obtain⟨q,e,rfl⟩:=Í.mp h;exact⟨_,q,rfl,rfl,e⟩
 |_=>cases h
theorem F51(h:plA l=some [x,y]):∃ s t,l=[s,t]/\plD s=some x/\plD t=some y:=by
 cases l with
 |nil=>cases h
 |cons s r =>
  obtain⟨_,_,e,h1,h2⟩:=g81 h;cases e;cases r with
  |nil=>cases h2
  |cons t r =>
   obtain⟨_,_,e,h3,h4⟩:=g81 h2;cases e;cases r with
   |nil=>exact⟨s,t,rfl,h1,h3⟩
   |cons u r =>
    obtain⟨_,_,e,_⟩:=g81 h4;cases e
theorem t01{s t:S}(h:W50 [s]=true):W50 [s,t]=true:=by
 match s,h with
 |.d (.lst _),_=>rfl
theorem t11{s t:S}(h:W50 [t]=true):W50 [s,t]=true:=by
 match s with
 |.d (.lst _)=>rfl|.d .non | .d (.bl _) | .d (.int _) | .d (.str _) | .d (.tup _) | .d .dct | .fr _ | .z=>exact h
theorem g91{K:À}{zA:Option Æ}{H H1:Hp}{t:S}{v:V}{a:List D}(rv:RvS K zA H H1 t v)(h:plD t=some (.lst a)):∃ b ys,v=.ref b/\m90 K (hz zA H1) b ys/\HdA K (hz zA H1) a ys/\((H b=none/\H1 b=some (.lst ys))∨W50 [t]=true):=by
 cases t with
 |d x =>
  cases h;obtain⟨b,ys,rfl,k1,k2⟩:=Hd.P90 (show Hd K (hz zA H1) (.lst a) _ from rv);exact⟨b,ys,rfl,k1,k2,.inr rfl⟩
 |fr x =>
  cases h;obtain⟨b,ys,rfl,k0,k1,k2,k3⟩:=rv;exact⟨b,ys,rfl,m90.of (d30 k2 k1),k3.same (e00 b _),.inl ⟨k0,k2⟩⟩
 |_=>cases h
theorem h01(x:XI lm X G E N sc){tg a b:Ê}{as:Ex}{n:Str}{p pos:Pos}(ht:j70 tg=true)(hn:n="zip")(hg:glob sc n=true)(hL:isL as=true)(g:Good X G E as [a,b]):PI X tg (.Call (.Name n p) [a,b] [] pos) (tIt X.K G E .zip as):=by
 subst hn;obtain⟨k1,k2,k3⟩:=c90 hg;obtain⟨ha,hs⟩:=g.args hL;rw[Á8,Á8,Â,Â] at hs;cases tg with
 |Tuple es ek ep =>
  intro pins s σ H R I q;refine N51 (x.glb _ k1) (x.blt _ (-0)) ha (by rw[c80 hs.1,c80 hs.2.1];rfl) (c80 hs.2.1 [] X.env) pins s σ H R I ?_
  obtain⟨zA,ρ,z,rr,rel,st,ee,po⟩:=q;refine⟨zA,ρ,z,rr,rel,st,ee,?_⟩;cases rr with
  |er c z1=>exact po
  |ok l z1 =>
   obtain⟨xs,hx,po⟩:=po;intro vs H1 x1 st1 rvs;obtain⟨ds,h1,h2⟩:=D90 hx;have hd:=D60 rvs h1
   match ds,h2 with
   |[.tup a,.tup b],h2 =>
    cases h2;obtain⟨v,w,rfl,h3,h4⟩:=hd.two;obtain⟨p1,us,rfl,m1,m2⟩:=h3.w10;obtain⟨p2,ws,rfl,m3,m4⟩:=h4.w10;exact⟨false,p1,p2,rfl,⟨us,(a30 zA H1).sqT m1⟩,⟨ws,(a30 zA H1).sqT m3⟩,po _ H1 x1 st1 λP B sub tup mv pa sf=>g41 (λ_ x=>a10.sqT x (tup _ _ m1)) (HdA.move mv (show ∀ y∈a,P y from pa _ h1 _ Ó) m2) (λ_ x=>a10.sqT x (tup _ _ m3)) (HdA.move mv (show ∀ y∈b,P y from pa _ h1 _ (Î _ Ó)) m4)⟩
   |[.lst a,.lst b],h2 =>
    cases h2;obtain⟨t1,t2,rfl,e1,e2⟩:=F51 h1;cases rvs with
    |cons rv1 rn =>
     cases rn with
     |cons rv2 rn =>
      cases rn;obtain⟨p1,us,rfl,m1,m2,m3⟩:=g91 rv1 e1;obtain⟨p2,ws,rfl,m4,m5,m6⟩:=g91 rv2 e2;refine⟨true,p1,p2,rfl,⟨us,(m1.same (a30 zA H1)).sq⟩,⟨ws,(m4.same (a30 zA H1)).sq⟩,po _ H1 x1 st1 λP B sub tup mv pa sf=>g41 (λ_ x=>((sf _ _ m1 (m3.imp id λq=>?_)).same x).sq) (HdA.move mv (show ∀ y∈a,P y from pa _ h1 _ Ó) m2) (λ_ x=>((sf _ _ m4 (m6.imp id λq=>?_)).same x).sq) (HdA.move mv (show ∀ y∈b,P y from pa _ h1 _ (Î _ Ó)) m5)⟩
      ·exact t01 q
      ·exact t11 q
 |_=>cases ht
theorem Q80:∀ {a:List D}{i n:Nat}{d:D},(o20 a n)[i]?=some d->∃ x,a[i]?=some x/\d=.tup [.int ((n + i:Nat):Int),x]
 |[],_,_,_,e=>by simp[o20] at e|x::r,0,n,d,e=>by simp[o20] at e;exact⟨x,rfl,e.symm⟩
 |x::r,i + 1,n,d,e=>by
  obtain⟨u,h1,h2⟩:=Q80 (a:=r) (i:=i) (n:=n + 1) (by simpa [o20] using e)
  exact⟨u,by simpa using h1,by rw[h2,show n + 1 + i=n + (i + 1) by omega]⟩
theorem E00:∀ (a:List D) (n:Nat),(o20 a n).length=a.length
 |[],_=>rfl|x::r,n=>by simp only[o20,Ò,E00 r]
theorem Q90(h:∀ H,a10 B H->SqB b X.K H a us)(r:HdA X.K B xs us):ItB X.K (Ite b X.K a) (o20 xs 0) B where
 go:=λi H x hi=>by
  rw[E00] at hi;exact⟨us,us[i]'(by rw[r.length];omega),h H x,by simp⟩
 yld:=λi H v H' zA z d x st y e=>by
  obtain⟨T,rfl,hT,y⟩:=y;obtain⟨d1,e1,rfl⟩:=Q80 e;obtain⟨w1,f1,g1⟩:=r.get e1;have y1:=y us w1 (h H (a10.trans x (a30 zA H))) f1;subst y1;have sm:a10 H (upd H T (.tup [.int i,w1])):=a10.new _ hT;exact⟨sm,λC c t=>Hd.tup (t _ _ ((st.same sm).D51 (SqT.of a90))) (.cons (by rw[zero_add];exact Hd.int) (.cons (g1.same c) .nil))⟩
 stop:=λH x=>⟨us,h H x,by rw[E00,r.length]⟩
theorem F61(h:plA l=some [d]):∃ s,l=[s]:=by
 cases l with
 |nil=>cases h
 |cons s r =>
  cases r with
  |nil=>exact⟨s,rfl⟩|cons t q=>exfalso;cases s <;> cases t <;> first | (cases h;done) | (simp only[plA,Option.map_map,Ï0] at h;obtain⟨_,_,h⟩:=h;cases h)
theorem R00(x:XI lm X G E N sc){tg a:Ê}{as:Ex}{n:Str}{p pos:Pos}(ht:j70 tg=true)(hn:n="enumerate")(hg:glob sc n=true)(hL:isL as=true)(g:Good X G E as [a]):PI X tg (.Call (.Name n p) [a] [] pos) (tIt X.K G E .enum as):=by
 subst hn;obtain⟨k1,k2,k3⟩:=c90 hg;obtain⟨ha,hs⟩:=g.args hL;rw[Á8,Â] at hs;cases tg with
 |Tuple es ek ep =>
  intro pins s σ H R I q;refine C71 (x.glb _ k1) (x.blt _ (-0)) ha (c80 hs.1 [] X.env) pins s σ H R I ?_
  obtain⟨zA,ρ,z,rr,rel,st,ee,po⟩:=q;refine⟨zA,ρ,z,rr,rel,st,ee,?_⟩;cases rr with
  |er c z1=>exact po
  |ok l z1 =>
   obtain⟨xs,hx,po⟩:=po;intro vs H1 x1 st1 rvs;obtain⟨ds,h1,h2⟩:=D90 hx;have hd:=D60 rvs h1
   match ds,h2 with
   |[.tup a],h2 =>
    cases h2;obtain⟨v,rfl,h3⟩:=hd.one;obtain⟨p1,us,rfl,m1,m2⟩:=h3.w10;exact⟨false,p1,rfl,⟨us,(a30 zA H1).sqT m1⟩,po _ H1 x1 st1 λP B sub tup mv pa sf=>Q90 (λ_ x=>a10.sqT x (tup _ _ m1)) (HdA.move mv (show ∀ y∈a,P y from pa _ h1 _ Ó) m2)⟩
   |[.lst a],h2 =>
    cases h2;have fin:∀ (b:Æ) (ys:List V),m90 X.K (hz zA H1) b ys->HdA X.K (hz zA H1) a ys->((H b=none/\H1 b=some (.lst ys))∨W50 l=true)->∃ bb p,[V.ref b]=[.ref p]/\(∃ xs,SqB bb X.K H1 p xs)/\R (Ite bb X.K p) H1:=λb ys k1 k2 k5 =>
     ⟨true,b,rfl,⟨ys,(k1.same (a30 zA H1)).sq⟩,po _ H1 x1 st1 λP B sub tup mv pa sf=>Q90 (λ_ x=>((sf _ _ k1 k5).same x).sq) (HdA.move mv (show ∀ y∈a,P y from pa _ h1 _ Ó) k2)⟩
    obtain⟨t,rfl⟩:=F61 h1;cases rvs with
    |cons rv rn =>
     cases rn;cases t with
     |d x =>
      cases h1;obtain⟨b,ys,rfl,k1,k2⟩:=Hd.P90 (show Hd X.K (hz zA H1) (.lst a) _ from rv);exact fin _ _ k1 k2 (.inr rfl)
     |fr x =>
      cases h1;obtain⟨b,ys,rfl,k0,k1,k2,k3⟩:=rv;exact fin _ _ (m90.of (d30 k2 k1)) (k3.same (e00 b _)) (.inl ⟨k0,k2⟩)
     |_=>cases h1
 |_=>cases ht
abbrev EF:XK:=λ_ _ _=>False
def ttC(K:À)(G:Gs):Ex->TT
 |.nil=>a41|.cons c _=>tT K G EF c|_=>λ_ _ _=>False
theorem W90(h:turns f (x::r) z=some (.ok ys z2)):∃ o z1 l,f x z=some (.ok o z1)/\turns f r z1=some (.ok l z2)/\ys=(match o with | some y=>y::l | none=>l):=by
 rcases M.bind_some (show M.bind (f x) _ z=_ from h) with ⟨o,z1,e1,e2⟩ | ⟨c,z1,e1,e2⟩
 ·rcases M.bind_some e2 with ⟨l,z3,e3,e4⟩ | ⟨c,z3,e3,e4⟩
  ·cases e4;exact⟨o,z1,l,e1,e3,rfl⟩
  ·cases e4
 ·cases e2
theorem F71{zA:Option Æ}{J:L2.It}{xs ys:List D}{H1:Hp}{z1 z2:Z}{p:Pat}{cond el:Ex}{ρ0:Env}{σ0:L2.St}{Q:VK}(IT:h52 X.K zA J xs H1)(hm:xs.length<=most)(rel0:r00 X.K zA H1 ρ0 σ0)(len:ρ0.length=σ0.length)(st1:c50 zA z1 H1)
  (hc:cond=.nil∨∃ c,cond=.cons c .nil) (e:turns (t30 (ev G.F cond) (ev G.F el) p ρ0) xs z1=some (.ok ys z2))
  (fin:∀ H2 vs l,Ext zA H1 H2->c50 zA z2 H2->HdA X.K (hz zA H2) ys vs->H2 l=none->Q (.ref l) (upd H2 l (.lst vs))):U90 J σ0 H1 (gP X.K p) (ttC X.K G cond) (tI X.K G EF el) Q:=by
 refine⟨λi m vs H=>m=xs.length - i/\i<=xs.length/\vs.length<=i/\∃ yd z rest,Ext zA H1 H/\c50 zA z H/\HdA X.K (hz zA H) yd vs/\turns (t30 (ev G.F cond) (ev G.F el) p ρ0) (xs.drop i) z=some (.ok rest z2)/\ys=yd++rest,
  ⟨xs.length,rfl,Æ3 _,Æ3 _,[],z1,ys,Ext.refl,st1,.nil,by simpa using e,rfl⟩,?_⟩
 rintro i m vs H ⟨rfl,hi,hv,yd,z,rest,x,st,hd,et,ey⟩;by_cases hlt:i < xs.length
 ·refine .inr ⟨IT.go i H x hlt,Â9 hv (Ñ hlt (e10 hm)),
   λws H'=>ws.length<=i + 1/\∃ yd z rest,Ext zA H1 H'/\c50 zA z H'/\HdA X.K (hz zA H') yd ws/\turns (t30 (ev G.F cond) (ev G.F el) p ρ0) (xs.drop (i + 1)) z=some (.ok rest z2)/\ys=yd++rest,
   λws H' q=>⟨xs.length - (i + 1),by omega,rfl,hlt,q.1,q.2⟩,λv H' y=>?_⟩
  obtain⟨sm,hx⟩:=IT.yld i H v H' z xs[i] x st y (by simp[hlt])
  rw[Ë7 hlt] at et;obtain⟨o,z3,l,f1,f2,f3⟩:=W90 et;obtain⟨ρ',b1,f4⟩:=M.a00 (show M.bind (M.of (e60 p xs[i] ρ0)) _ z=_ from f1);have x':Ext zA H1 H':=x.trans (Ext.of sm);have st':=st.same sm;refine g01 b1 (rel0.mono x') len hx λσ' rel' len'=>?_;have yes:∀ {za:Z}{Ha:Hp},Ext zA H' Ha->c50 zA za Ha->M.bind (ev G.F el ρ') (λy=>M.bind (M.of (pl y)) λy=>M.ret (some y)) za=some (.ok o z3)->tI X.K G EF el σ' Ha (λy H4=>(vs++[y]).length<=i + 1/\∃ yd z rest,Ext zA H1 H4/\c50 zA z H4/\HdA X.K (hz zA H4) yd (vs++[y])/\turns (t30 (ev G.F cond) (ev G.F el) p ρ0) (xs.drop (i + 1)) z=some (.ok rest z2)/\ys=yd++rest):=λ{za Ha} xa sta ea=>by
   refine g30 (rel'.mono xa) sta ea (λc z1 h=>by cases h) λm z4 e4=>?_
   obtain⟨d,p1,e5⟩:=M.a00 e4;obtain⟨s1,rfl,q1⟩:=d90 p1;cases e5;refine⟨s1,rfl,λw H4 x4 st4 rv=>⟨by rw[ÿ];simp;omega,yd++[d],z3,l,(x'.trans xa).trans x4,st4,?_,f2,by rw[ey,f3,È5];rfl⟩⟩
   exact(hd.same (a10.trans (h30 sm) (a10.trans xa.same x4.same))).append (.cons (rv.pl.d_ q1) .nil)
  rcases hc with rfl | ⟨c,rfl⟩
  ·have f5:M.bind (ev G.F el ρ') (λy=>M.bind (M.of (pl y)) λy=>M.ret (some y)) z=some (.ok o z3):=f4;have ty:ttC X.K G .nil=a41:=rfl;rw[ty];refine q61 ?_;dsimp only;rw[if_pos rfl];exact yes Ext.refl st' f5
  ·rcases M.bind_some (show M.bind (ev G.F (.cons c .nil) ρ') _ z=_ from f4) with ⟨m,za,e1,e2⟩ | ⟨q,za,e1,e2⟩
   ·rcases M.bind_some (show M.bind (ev G.F c ρ') _ z=_ from e1) with ⟨m',zb,e3,e4⟩ | ⟨q,zb,e3,e4⟩
    ·obtain⟨s,hs,e5⟩:=M.a00 e4;cases e5;have hm':=s50 hs;subst hm';show tT X.K G EF c σ' H' _;have tb:∃ b,s=.d (.bl b):=by
      cases s with
      |d y=>cases y with
       |bl b=>exact⟨b,rfl⟩|_=>cases e2
      |_=>cases e2
     obtain⟨b,rfl⟩:=tb;refine⟨zA,ρ',z,_,rel',st',e3,b,rfl,λHa xa sta=>?_⟩;cases b with
     |true =>
      rw[if_pos rfl];exact yes xa sta e2
     |false =>
      rw[if_neg Ï];cases e2;exact⟨ë hv (Nat.le_succ _),yd,z3,l,x'.trans xa,sta,hd.same (a10.trans (h30 sm) xa),f2,by rw[ey,f3]⟩
    ·cases e4
   ·cases e2
 ·have hi':i=xs.length:=by omega
  subst hi';rw[drop_length] at et;cases et;refine .inl ⟨IT.stop H x,λl hl=>fin H vs l x st (by rw[ey,Ä0];exact hd) hl⟩
end
section
variable {K:À}{zA:Option Æ}{z:Z}{H H2:Hp}{P:Æ}{q:Str}
theorem R10(KB:v60 P H H2)(t:Tab H P q)(t2:Tab H2 P q):Ext zA H H2:=by
 refine⟨λb o h=>?_,λb ps h=>?_⟩
 ·obtain⟨h1,h2⟩:=l50 h;have nt:=l80 h;obtain⟨ps,hp,_⟩:=t;have hb:b≠P:=λz=>by
   subst z;rw[hp] at h1;cases h1;exact nt _ rfl
  exact d30 (KB.same b o hb h1) h2 nt
 ·by_cases hb:b=P
  ·subst hb;obtain⟨qs,e,_⟩:=t2;exact⟨qs,e⟩
  ·exact⟨ps,KB.same b _ hb h⟩
theorem h31(KB:v60 P H H2)(t:Tab H P q)(t2:Tab H2 P q)(uq:∀ p∈TB.tb,p.1=P->p.2=q)(st:c50 zA z H):c50 zA z H2:=by
 obtain⟨ps,hp,_⟩:=t;have ne:∀ {b:Æ}{o:HO},H b=some o->(∀ l,o≠.tbl l)->b≠P:=λ{b o} e1 e2 z=>by
  subst z;rw[hp] at e1;cases e1;exact e2 _ rfl
 refine⟨?_,λp hq=>?_⟩
 ·have h:=st.zat;cases zA with
  |none=>cases z with
   |none=>trivial|some _=>exact h.elim
  |some a=>cases z with
   |none=>exact h.elim
   |some pr =>
    have h':H a=some (.lst [.int pr.1,.bl pr.2]):=h;exact KB.same _ _ (ne h' λ_ z=>nomatch z) h'
 ·by_cases hb:p.1=P
  ·rw[uq p hq hb,hb];exact t2
  ·obtain⟨qs,e,tr,k⟩:=st.tab p hq;refine⟨qs,KB.same _ _ hb e,tr,λpos c hc=>?_⟩;obtain⟨c',e1,e2⟩:=k pos c hc;exact⟨c',e1,KB.same _ _ (ne e2 λ_ z=>nomatch z) e2⟩
theorem h41:∀ l:List Nat,(a80 N l).length<=l.length
 |[]=>È _
 |j::q=>by
  have ih:=h41 (N:=N) q;unfold a80;split
  ·rw[Ò,Ò];omega
  ·rw[Ò];omega
theorem w60(rel:r00 K zA H ρ σ):∀ {capt:List Nat}{ss:List S},W30 ρ capt=some ss->(a80 N capt).length=capt.length ->
  ∃ vs,RvA K zA H ss vs/\vs.length=(a80 N capt).length/\∀ (i:Nat) (x:Str) (v:V),((a80 N capt).map (·.1))[i]?=some x->vs[i]?=some v->∃ j:Nat,N[j]?=some x/\σ[j]?=some (some v)
 |[],ss,h,_=>by
  cases h;exact⟨[],.nil,rfl,λi x v h=>by simp[a80] at h⟩
 |i::capt,ss,h,hl=>by
  have h:(match ρ[i]? with | some (some s)=>(W30 ρ capt).map (s::·) | _=>none)=some ss:=h
  have le:=h41 (N:=N) capt;obtain⟨s,r,e2,h3,rfl⟩:∃ s r,ρ[i]?=some (some s)/\W30 ρ capt=some r/\ss=s::r:=by
   split at h
   ·rename_i s e;obtain⟨r,h3,h4⟩:=Í.mp h;exact⟨s,r,e,h3,h4.symm⟩
   ·cases h
  obtain⟨v,k1,k2⟩:=rel i s e2;cases hN:N[i]? with
  |none =>
   unfold a80 at hl;rw[hN] at hl;simp only[Ò] at hl;omega
  |some y =>
   unfold a80 at hl ⊢;rw[hN] at hl ⊢;simp only[Ò] at hl;obtain⟨vs,a1,a2,a3⟩:=w60 rel (N:=N) (capt:=capt) h3 ∅
   refine⟨v::vs,.cons k2 a1,by simp[a2],λj x u b1 b2=>?_⟩
   cases j with
   |zero =>
    simp only[Ë4,Ç8,Æ7] at b1 b2;subst b1;subst b2;exact⟨i,hN,k1⟩
   |succ j=>exact a3 j x u (by simpa using b1) (by simpa using b2)
theorem t80:∀ {ss:List S}{vs:List V},RvA K zA H ss vs->r00 K zA H (ss.map some) (vs.map some)
 |[],_,h,i,s,e=>by simp at e
 |a::ss,_,h,i,s,e=>by
  cases h with
  |cons h1 h2 =>
   cases i with
   |zero =>
    simp only[Ë4,Ç8,Æ7] at e;subst e;exact⟨_,rfl,h1⟩
   |succ i =>
    obtain⟨v,k1,k2⟩:=t80 h2 i s (by simpa using e)
    exact⟨v,by simpa using k1,k2⟩
end
section
variable {lm:Bool}{X:Cx}{G:Gs}{E:XK}{N:List Str}{sc:à}
theorem t21{kr:Nat}{fQ:Æ}{fdQ:ø}{ps:List Str}{sp:Å->Sp}{g:Str}{e:Ê}{es:List Ê}{p pos:Pos}{t:TA}{pre:L2.St->Hp->List V->VK->Prop}(F:y20 X.prog X.w X.K X.mg X.base (CX1 X.prog X.w) kr fQ fdQ ps sp)(hr:l20 kr X.A)(hg:Gl X g)(hm:X.mg g=some (.ref fQ))(hk:Ç7 X.K (.ref fQ)=true)(hb:Binds X.K fdQ ps [])
  (ha:PA X (e::es) t) (cv:∀ pins σ H s vs Q,Inv X pins σ H s->pre σ H vs Q->sp s vs H Q λ_ _ _=>False) (hdb:(g == ("__debug__":Str))=false) (he:í (e::es) X.env=(false,eval e X.env)::í es X.env) (hpl:(Î2 pos (í es X.env)).any (·.1)=false) :
  PE X (.Call (.Name g p) (e::es) [] pos) (λσ H Q=>t σ H λvs H1=>pre σ H1 vs Q):=by
 intro pins s σ H Q I h;refine Ã4 (u30 I hg hm ?_ hdb);refine callWith_K (h₀:=X.base) I.ok.mod.kin hk (thn (ha pos pins s σ H _ I h) λus s1 hq=>?_) he hpl;obtain⟨vs,H1,I1,r,q⟩:=hq;refine⟨I1.kIn,?_⟩;have sq:=cv pins σ H1 s1 vs Q I1 q;have hl:us.length=ps.length:=by rw[← r.length];exact F.len _ _ _ _ _ sq
 have hb1:=hb s1 us I1.kIn (by rw[Ä0];exact hl)
 rw[Ä0] at hb1;refine Ì5 (Å6 (F.run X.A X.stack s1 H1 ⟨us,[]⟩ us vs Q _ hr I1.M81 hb1 r sq) λr s' hq=>?_);cases r with
 |error e=>obtain⟨_,_,_,_,_,_,_,_,_,_,_,_,_,z⟩:=hq;exact z.elim
 |ok fl =>
  cases fl with
  |ret u=>exact I1.after hq|next=>exact è hq
  |brk=>exact è hq|cont=>exact è hq
theorem h62(x:XI lm X G E N sc)(hlm:lm=true){capt:List Nat}{a b:Ex}{sm:Nat}{ps:List Str}{body be:Ê}{lsc:à}{p lpos pos:Pos}(hg:glob sc "_law_right"=true)(hc:(a80 N capt).length=capt.length)(hs:I40 lsc sc (a80 N capt)=true)(hL:isL a=false)(hf:G.fns[sm]?=some (("_law_same":Str),ps))(hps:ps.length=2)(ns:noStar be=true)(gb:b00 X G E b be)
  (ih:∀ (k:Nat) {X:Cx}{E:XK},XI false X (lowG G k) E ((a80 N capt).map (·.1)) lsc->Good X (lowG G k) E a [body]):b00 X G E (.rgt capt a b sm) (.Call (.Name "_law_right" p) [.Lambda ⟨[],[],none,[],[],none,[]⟩ body lsc lpos,be] [] pos):=by
 obtain⟨c,P,q,k,fR,fdR,L⟩:=x.lam hlm;obtain⟨fQ,fdQ,m1,m2,m3,FQ⟩:=L.rg;have F:=FQ sm ps hf hps;obtain⟨k1,k2,k3⟩:=c90 hg;unfold I40 at hs;simp only[Â,î,beq_iff_eq,Ã7,decide_eq_true_eq] at hs;obtain⟨⟨⟨⟨⟨⟨s1,s2⟩,s3⟩,s4⟩,s5⟩,s6⟩,s7⟩:=hs;have hfree:∀ y∈(a80 N capt).map (·.1),lsc.names.lookup y=some .free:=λy hy=>by
  obtain⟨pr,h1,rfl⟩:=Þ.mp hy;exact s6 pr h1
 have fm:LTf X lsc ((a80 N capt).map (·.1)):=⟨λy hy hf=>by
  have:=s5 y hy;rw[hf] at this;unfold Env.kindOf;rw[L.sco];simpa using this,λy hy=>by simpa using s4 y hy,hfree,s1,s2,s3⟩
 have XL:∀ {t:LT} (A:ï) (outer:List Å0) (s:Å) (H3:Hp) (E':XK),t.N=(a80 N capt).map (·.1)->t.lsc=lsc->l20 k (A.deeper (envX q t.lsc s.heap.objs.size t.f (.ref t.c') t.cl))->XI false (t10 X.prog X.w X.K X.mg X.base t.N q t.lsc t.f (.ref t.c') t.cl A outer s H3 E') (lowG G k) E' ((a80 N capt).map (·.1)) lsc:=λA outer s H3 E' e1 e2 hr=>by
  rw[e1,e2] at *
  exact { gok:=L.low,num:=x.num,blt:=x.blt,hN:=rfl,nd:=s7,vis:=λy hy=>.inr (.inr (hfree y hy)),glb:=λy h=>h,cel:=λy h=>h,calm:=rfl,room:=hr,pas:=c91,lam:=λh=>nomatch h }
 refine b20 (PE.imp (t21 (pre:=λσ H vs Q=>∃ (t:LT) (ws:List V) (dv:V) (d:D) (zA:Option Æ) (z:Z),vs=[.ref t.f,dv]/\d31 X q H t/\t.lsc=lsc/\t.N=(a80 N capt).map (·.1)/\LTv X σ t ws/\c50 zA z H/\Hd X.K (hz zA H) d dv /\
  ((h90 d=true/\∃ (C:Æ) (j:Nat) (z1:Z) (RR:Hp->Prop),Raises X q k H t ws (.ref C) RR/\v70 X.K X.mg C j/\(∀ H1,RR H1->c50 zA z1 H1)/\∀ H1 H',RR H1->a10 H1 H'->Q (.bl (j == 8)) H') ∨
   (h90 d=false/\∃ gv:Hp->VK->Prop,Gives X q k H t ws gv/\∀ H1,a10 H H1->gv H1 λv H2=>spF X.K (lowG G k) sm 2 [v,dv] H2 Q λ_ _ _=>False))) F (x.room.mono L.lv) (x.glb _ k1) m1 m2 m3 (c40 (w81 (lpos:=lpos) L.code L.hd L.qual rfl L.bm fm.hfr) (c40 gb.pe h80 (hs:=c80 ns [] X.env))) (λpins σ H s vs Q I pr=>?_) k2 rfl ?_) λσ H Q qq=>?_) rfl
 ·obtain⟨t,ws,dv,d,zA,z,e1,lt,el,eN,lv,st,hd,r⟩:=pr;exact⟨X,t,ws,dv,d,zA,z,e1,⟨rfl,rfl,rfl,rfl,rfl⟩,lt.form,⟨lt.fn,lt.rc⟩,lt.frees lv I,st,hd,r⟩
 ·exact n00 X.env pos (by rw[Á8,ns];rfl)
 ·obtain⟨zA,ρ,z,rr,rel,st,e,po⟩:=qq;have e0:M.bind (ev G.F b ρ) (λl=>M.bind (M.of (pl l)) λd=>s01 (W30 ρ capt) d (λρ'=>ev (W20 G.F) a ρ') λs=>G.F true sm [plS s,.d d]) z=some rr:=e;have tab:=st.tab _ L.tb;refine⟨tab,λcl fa c' pm ctv H2 h1 h2 t2 kb nf g1 g2=>?_⟩;have x2:Ext zA H H2:=R10 kb tab t2;have st2:c50 zA z H2:=h31 kb tab t2 L.uq st;refine g30 (rel.mono x2) st2 e0 (λc z1 h=>(e90 po c z1 h).mono x2) λl z1 e1=>?_;obtain⟨d,hd,e2⟩:=M.a00 e1;obtain⟨s,rfl,hs'⟩:=d90 hd;refine⟨s,rfl,λdv H3 x3 st3 rv3=>?_⟩;unfold s01 at e2;cases hcap:W30 ρ capt with
  |none=>rw[hcap] at e2;cases e2
  |some ss =>
   rw[hcap] at e2;obtain⟨vs,ra,hvl,hvs⟩:=w60 rel hcap hc;have nz:∀ {a:Æ}{p:á->Prop},H2 a=some (.ext p)->zA≠some a:=λ{a p} h e=>by
    subst e;have:=st2.zat;cases z with
    |none=>exact this.elim
    |some pr =>
     have h':H2 a=some (.lst [.int pr.1,.bl pr.2]):=this;rw[h] at h';cases h'
   let t:LT:=⟨fa,c',cl,pm,ctv,lsc,body,(a80 N capt).map (·.1)⟩
   have lt:d31 X q H3 t:=⟨fm,x3.at g1 (nz g1),x3.at g2 (nz g2),h1,h2⟩;have lv:LTv X σ t vs:=⟨by show vs.length=((a80 N capt).map (·.1)).length;rw[É];exact hvl,λi y v b1 b2=>by rw[x.hN];exact hvs i y v b1 b2⟩
   have x13:=x2.trans x3;have ra3:=RvA.mono ra x13;refine⟨t,vs,dv,d,zA,z1,rfl,lt,rfl,rfl,lv,st3,rv3.pl.d_ hs',?_⟩;cases hn:h90 d with
   |true =>
    rw[hn] at e2;have e2:Z51 (ev (W20 G.F) a (ss.map some)) z1=some rr:=e2;unfold Z51 at e2;split at e2
    ·rename_i cc z2 he;split at e2
     ·rename_i hc12;cases e2;refine .inl ⟨rfl,G.cls cc,cc,z2,λH'=>Ext zA H3 H'/\c50 zA z2 H',λA outer s H4 hr sm=>?_,L.cls cc hc12,λH1 h=>h.2,λH1 H' hRR sm=>?_⟩
      ·refine⟨_,(a50 hL (ih k (XL (t:=t) A outer s H4 _ rfl rfl hr))).pe,?_⟩;exact⟨zA,ss.map some,z1,_,t80 (RvA.mono ra3 (Ext.of sm)),st3.same sm,he,λea H' xx stt hn'=>⟨rfl,(Ext.of sm).trans xx,stt⟩⟩
      ·obtain⟨s',e',po⟩:=po;cases e';exact po _ _ ((x13.trans hRR.1).trans (Ext.of sm)) (hRR.2.same sm) h40
     ·cases e2
    ·cases e2
   |false =>
    rw[hn] at e2;have e2:Z61 (ev (W20 G.F) a (ss.map some)) (λs=>G.F true sm [plS s,.d d]) z1=some rr:=e2;unfold Z61 at e2;split at e2
    ·rename_i l2 z2 he;split at e2
     ·rename_i s2 hs2;split at e2
      ·rename_i r2 z3 hr2;cases e2;refine .inr ⟨rfl,λH4 Q'=>∀ v H',Ext zA H4 H'->c50 zA z2 H'->RvS X.K zA H4 H' s2 v->Q' v H',λA outer s H4 Q' hr sm hq=>?_,λH4 sm v H5 x5 st5 rv5=>?_⟩
       ·refine⟨_,(a50 hL (ih k (XL (t:=t) A outer s H4 _ rfl rfl hr))).pe,?_⟩;exact⟨zA,ss.map some,z1,_,t80 (RvA.mono ra3 (Ext.of sm)),st3.same sm,he,⟨s2,s50 hs2,λv H' xx stt rv=>hq v H' xx stt rv⟩⟩
       ·have xx:Ext zA H3 H5:=(Ext.of sm).trans x5;refine⟨rfl,zA,z2,[plS s2,.d d],_,.cons (RvP.plS rv5.pl) (.cons ((rv3.pl.d_ hs').same xx.same) .nil),st5,hr2,λv' H6 x6 st6 rv6=>?_⟩;obtain⟨s',e',po⟩:=po;cases e';exact po v' H6 ((x13.trans xx).trans x6) st6 (rv6.from (x13.trans xx))
      ·cases e2
     ·cases e2
    ·cases e2
end
theorem g80{env:Å0}{k0:Ç9}(hk:k0≠.free):∀ {names:List (Str × Ç9)}{x:Str},names.lookup x=some k0 ->
  (names.map λ(n,k)=>if (k == ê&&env.scope.kind == .function&&env.kindOf n == some .cell) then(n,Ã3) else(n,k)).lookup x=some k0
 |[],_,h=>by simp at h
 |(n,k)::r,x,h=>by
  have ih:=@g80 env k0 hk r x;show É1 x ((if (k == ê&&env.scope.kind == .function&&env.kindOf n == some .cell)=true then(n,Ã3) else(n,k))::_)=_;cases hx:x == n with
  |true =>
   simp only[ô,hx] at h;cases h;have:(k0 == ê)=false:=by simpa using hk
   rw[this,Ï6,Ï6,if_neg Ï];simp only[ô,hx]
  |false =>
   simp only[ô,hx] at h;by_cases hq:(k == ê&&env.scope.kind == .function&&env.kindOf n == some .cell)=true
   ·rw[if_pos hq];simp only[ô,hx];exact ih h
   ·rw[if_neg hq];simp only[ô,hx];exact ih h
section
variable {lm:Bool}{X:Cx}{G:Gs}{E:XK}{N:List Str}{sc csc:à}{on:List Str}{cs:List (Str × Nat)}
structure y21(csc sc:Scope)(N on:List Str)(cs:List (Str × Nat)):Prop where
 kind:csc.kind=.function
 nocell:∀ y∈csc.names,y.2≠.cell
 locs:∀ y∈csc.names,y.2=.local->csc.names.lookup y.1=some .local
 frees:∀ y∈csc.names,y.2=.free->(sc.names.lookup y.1=some .cell∨sc.names.lookup y.1=some .free)
 captd:∀ p∈cs,N[p.2]?=some p.1/\csc.names.lookup p.1=some .free
 own:∀ x∈on,csc.names.lookup x=some .local
 nd:(on++cs.map (·.1)).Nodup
theorem F81(h:I30 csc sc N on cs=true):y21 csc sc N on cs:=by
 unfold I30 at h;simp only[Â] at h;obtain⟨⟨⟨⟨⟨⟨h1,h2⟩,h3⟩,h4⟩,h5⟩,h6⟩,h7⟩:=h;rw[Ã7] at h2 h3 h4 h5 h6;refine⟨by simpa using h1,λy hy=>by simpa using h2 y hy,λy hy hl=>?_,λy hy hf=>?_,λp hp=>by simpa using h5 p hp,λx hx=>by simpa using h6 x hx,of_decide_eq_true h7⟩
 ·have:=h3 y hy;rw[hl] at this;simpa using this
 ·have:=h4 y hy;rw[hf] at this;simpa using this
theorem h51(x:XI lm X G E N sc)(c:y21 csc sc N on cs):l60 X csc on cs:=⟨c.kind,c.nocell,c.locs,λy hy hf=>x.cel _ (c.frees y hy hf),λp hp=>by rw[x.hN];exact c.captd p hp⟩
theorem E10(x:XI lm X G E N sc)(c:y21 csc sc N on cs)(cl:List (Str × Æ))(C:Æ)(s:Å)(H:Hp)(fp:List Æ):XI false (b60 X (c60 on cs) csc cl C s H fp) G EF (on++cs.map (·.1)) csc where
 gok:=x.gok
 num:=x.num
 blt:=x.blt
 hN:=rfl
 nd:=c.nd
 vis:=λy hy=>by
  rcases Ç1.mp hy with h | h
  ·exact .inl (g80 (-0) (c.own y h))
  ·obtain⟨p,hp,rfl⟩:=Þ.mp h;rcases m40 (env:=X.env) (c.captd p hp).2 with h | h
   ·exact .inr (.inl h)
   ·exact .inr (.inr h)
 glb:=λy hy=>g80 (-0) hy
 cel:=λy hy=>by
  rcases hy with h | h
  ·exact .inl (g80 (-0) h)
  ·exact m40 (env:=X.env) h
 calm:=x.calm
 room:=x.room
 pas:=O51
 lam:=λh=>nomatch h
theorem E20(x:XI lm X G E N sc)(c:y21 csc sc N on cs)(cl:List (Str × Æ))(C:Æ)(s:Å)(H:Hp)(fp:List Æ):s91 (b60 X (c60 on cs) csc cl C s H fp) (on++cs.map (·.1)) (λy=>on.contains y) where
 hN:=rfl
 nd:=c.nd
 lc:=λy hy=>.inl (g80 (-0) (c.own y (by simpa using hy)))
 fn:=λy hy=>.inr (g80 (-0) (c.own y (by simpa using hy)))
 calm:=x.calm
theorem R20:∀ {capt:List Nat},(a80 N capt).length=capt.length->(a80 N capt).map (·.2)=capt
 |[],_=>rfl
 |i::r,h=>by
  have le:∀ l:List Nat,(a80 N l).length<=l.length:=by
   intro l
   induction l with
   |nil=>exact È _
   |cons j q ih =>
    unfold a80;split
    ·rw[Ò,Ò];omega
    ·rw[Ò];omega
  unfold a80 at h ⊢;split at h
  ·rename_i y hy;rw[Ò,Ò] at h;rw[Ë4,R20 ∅]
  ·have:=le r;rw[Ò] at h;omega
theorem t31(rel:r00 X.K zA H ρ σ)(h:cs.map (·.2)=capt):r00 X.K zA H (ã on.length none++capt.map λi=>(ρ[i]?).getD none) (n40 on cs σ) /\
  (ã on.length (none:Option S)++capt.map λi=>(ρ[i]?).getD none).length=(n40 on cs σ).length:=by
 subst h;constructor
 ·intro j s e;unfold n40;by_cases hj:j < on.length
  ·rw[Ë6 (by simpa using hj)] at e
   simp[Í4,hj] at e
  ·rw[Â7 (by simpa using hj),Ö9,Ù,Ù] at e
   rw[Â7 (by simpa using hj),É,Ù]
   cases hp:cs[j - on.length]? with
   |none=>rw[hp] at e;simp at e
   |some p =>
    rw[hp] at e;simp only[Option.map_some,Æ7] at e;have e2:ρ[p.2]?=some (some s):=by
     cases hr:ρ[p.2]? with
     |none=>rw[hr] at e;cases e
     |some o=>rw[hr] at e;exact congrArg some e
    obtain⟨v,h1,h2⟩:=rel p.2 s e2;exact⟨v,by simp[h1],h2⟩
 ·unfold n40;simp
theorem h61(h:o40 e=true)(env:Å0)(x:Ã):Ä1 e env x=pure x:=by
 cases e with
 |Set _ _ _=>cases h
 |_=>rfl
def z20(X:Cx)(G:Gs)(E:XK)(x:Ex)(elt tg iter:Ê)(ifs:List Ê)(csc:à):Prop:=∃ (own:List Str) (capt:List (Str × Nat)) (wi:TI) (g:TG) (tt:TT) (te:TE),l60 X csc own capt/\PI X tg iter wi /\
 (∀ cl C s H fp,PG (b60 X (c60 own capt) csc cl C s H fp) tg g)/\(∀ cl C s H fp,PTs (b60 X (c60 own capt) csc cl C s H fp) ifs tt)/\(∀ cl C s H fp,PE (b60 X (c60 own capt) csc cl C s H fp) elt te) /\
 (∀ x,Ä1 iter X.env x=pure x)/\∀ σ H Q,tI X.K G E x σ H Q->B41 own capt wi g tt te σ H Q
theorem h72(x:XI lm X G E N sc){p:Pat}{it:It}{src cond el:Ex}{capt:List Nat}{elt tg iter:Ê}{ifs:List Ê}(c:y21 csc sc N on cs)(hcap:cs.map (·.2)=capt)(hp:h70 (on++cs.map (·.1)) (λy=>on.contains y) p tg=true)
  (hi:PI X tg iter (tIt X.K G E it src)) (hns:o40 iter=true) (hc:(cond=.nil/\ifs=[])∨∃ q f,cond=.cons q .nil/\ifs=[f]/\∀ cl C s H fp,PT (b60 X (c60 on cs) csc cl C s H fp) f (tT X.K G EF q))
  (he:∀ cl C s H fp,PE (b60 X (c60 on cs) csc cl C s H fp) elt (tI X.K G EF el)):z20 X G E (.comp on.length capt p it src cond el) elt tg iter ifs csc:=by
 have ht:∀ cl C s H fp,PTs (b60 X (c60 on cs) csc cl C s H fp) ifs (ttC X.K G cond):=by
  rcases hc with ⟨rfl,rfl⟩ | ⟨q,f,rfl,rfl,h⟩
  ·exact λcl C s H fp=>a51
  ·exact λcl C s H fp=>a61 (h cl C s H fp)
 refine⟨on,cs,tIt X.K G E it src,gP X.K p,ttC X.K G cond,tI X.K G EF el,h51 x c,hi,λcl C s H fp=>f91 (E20 x c cl C s H fp) hp,ht,he,h61 hns X.env,λσ H Q q=>?_⟩;obtain⟨zA,ρ,z,rr,rel,st,e,po⟩:=q;have e0:M.bind (ev G.F src ρ) (λl=>M.bind (M.of ((plA l).bind (itD it))) λxs=>if xs.length<=most then M.bind (M.calm (turns (t30 (ev G.F cond) (ev G.F el) p (ã on.length none++capt.map λi=>(ρ[i]?).getD none)) xs)) λys=>M.ret [.fr ys] else M.no) z=some rr:=e;rcases M.bind_some e0 with ⟨m,z1,e1,e2⟩ | ⟨k,z1,e1,e2⟩
 ·obtain⟨xs,hx,e3⟩:=M.a00 e2;refine⟨zA,ρ,z,_,rel,st,e1,xs,hx,λJ H1 x1 st1 IT'=>?_⟩;have IT:=IT'.ok;split at e3
  ·rename_i hm;rcases M.bind_some e3 with ⟨ys,z2,e4,e5⟩ | ⟨k,z2,e4,e5⟩
   ·cases e5;have e6:turns (t30 (ev G.F cond) (ev G.F el) p (ã on.length none++capt.map λi=>(ρ[i]?).getD none)) xs z1=some (.ok ys z2):=by
     unfold M.calm at e4;split at e4
     ·rename_i h;cases e4;exact h
     ·cases e4
    obtain⟨r1,r2⟩:=t31 (on:=on) (rel.mono x1) hcap;refine F71 IT hm r1 r2 st1 (by rcases hc with ⟨h,_⟩ | ⟨q,_,h,_⟩;exact .inl h;exact .inr ⟨q,h⟩) e6 λH2 vs l x2 st2 hd hl=>?_
    exact e40 po (x1.trans x2) st2 _ _ (a10.new _ hl) (k90 st2 hd hl)
   ·unfold M.calm at e4;split at e4 <;> cases e4
  ·cases e3
 ·exact⟨zA,ρ,z,_,rel,st,e1,(e90 po) k z1 e2⟩
theorem z20.good(hc:X.calm=true)(h:z20 X G E x elt tg iter ifs csc):b00 X G E x (.ListComp elt [⟨tg,iter,ifs,0⟩] csc pos):=by
 obtain⟨own,capt,wi,g,tt,te,h1,h2,h3,h4,h5,h6,h7⟩:=h;exact b20 (PE.imp (a71 hc h1 h2 h3 h4 h5 h6) h7) rfl
theorem b40(h:(!isL x)=true):isL x=false:=by simpa using h
theorem h71(hL:isL x=true)(g:Good X G E x [e]):∃ a,x=.cons a .nil/\b00 X G E a e:=by
 cases x with
 |nil=>cases (show [e]=[] from g)
 |cons a r =>
  obtain⟨e',es,h,ns,ga,lr,gr⟩:=g;cases h;cases r with
  |nil=>exact⟨a,rfl,ga⟩|cons b q=>obtain⟨e,es,h,_⟩:=gr;cases h
  |_=>cases lr
 |_=>cases hL
theorem I70{lm:Bool}{G:Gs}{own:Nat}{capt:List Nat}{p:Pat}{it:It}{src cond el:Ex}(ihs:(∀ {X:Cx}{E:XK}{N:List Str}{sc:à},XI lm X G E N sc->∀ {es:List Ê},mt lm G.fns G.nums src sc N es=true->Good X G E src es))(ihc:(∀ {X:Cx}{E:XK}{N:List Str}{sc:à},XI false X G E N sc->∀ {es:List Ê},mt false G.fns G.nums cond sc N es=true->Good X G E cond es))(ihe:(∀ {X:Cx}{E:XK}{N:List Str}{sc:à},XI false X G E N sc->∀ {es:List Ê},mt false G.fns G.nums el sc N es=true->Good X G E el es))
  {X:Cx}{E:XK}{N:List Str}{sc:à} (x:XI lm X G E N sc) {elt tg iter:Ê}{ifs:List Ê}{csc:à} (h:(d20 tg).length == own&&(a80 N capt).length == capt.length&&I30 csc sc N (d20 tg) (a80 N capt)&&h70 (d20 tg++(a80 N capt).map (·.1)) (λx=>(d20 tg).contains x) p tg&&isL src&&!isL el&&isL cond&&ifs.length<=1&&noStar elt&&o40 iter&&ifs.all (λc=>!ifB c) &&
    (match it with
    |.seq=>mt lm G.fns G.nums src sc N [iter]|.rng1=>opt (K01 iter) λr=>r.1.1 == ("range":Str)&&glob sc r.1.1&&mt lm G.fns G.nums src sc N [r.1.2.2.1]|.rng2=>opt (K11 iter) λr=>r.1.1 == ("range":Str)&&glob sc r.1.1&&mt lm G.fns G.nums src sc N [r.1.2.2.1,r.1.2.2.2.1]|.zip=>opt (K11 iter) λr=>r.1.1 == ("zip":Str)&&glob sc r.1.1&&j70 tg&&mt lm G.fns G.nums src sc N [r.1.2.2.1,r.1.2.2.2.1]|.enum=>opt (K01 iter) λr=>r.1.1 == ("enumerate":Str)&&glob sc r.1.1&&j70 tg&&mt lm G.fns G.nums src sc N [r.1.2.2.1]
    )&&mt false G.fns G.nums cond csc (d20 tg++(a80 N capt).map (·.1)) ifs&&mt false G.fns G.nums el csc (d20 tg++(a80 N capt).map (·.1)) [elt]):z20 X G E (.comp own capt p it src cond el) elt tg iter ifs csc:=by
 simp only[Â,beq_iff_eq,decide_eq_true_eq] at h;obtain⟨⟨⟨⟨⟨⟨⟨⟨⟨⟨⟨⟨⟨h1,h2⟩,h3⟩,h4⟩,h5⟩,h6⟩,h7⟩,h8⟩,h9⟩,h10⟩,h11⟩,h12⟩,h13⟩,h14⟩:=h;subst h1;have c:=F81 h3;have hi:PI X tg iter (tIt X.K G E it src):=by
  cases it with
  |seq =>
   obtain⟨a,rfl,ga⟩:=h71 h5 (ihs x h12);exact y11 ga
  |rng1 =>
   obtain⟨⟨⟨n,_,a,_⟩,rfl⟩,-,h12⟩:=a40 h12;simp only[Â,beq_iff_eq] at h12;exact g61 x h12.1.1 h12.1.2 h5 (ihs x h12.2)
  |rng2 =>
   obtain⟨⟨⟨n,_,a,b,_⟩,rfl⟩,-,h12⟩:=a40 h12;simp only[Â,beq_iff_eq] at h12;exact g71 x h12.1.1 h12.1.2 h5 (ihs x h12.2)
  |zip =>
   obtain⟨⟨⟨n,_,a,b,_⟩,rfl⟩,-,h12⟩:=a40 h12;simp only[Â,beq_iff_eq] at h12;exact h01 x h12.1.2 h12.1.1.1 h12.1.1.2 h5 (ihs x h12.2)
  |enum =>
   obtain⟨⟨⟨n,_,a,_⟩,rfl⟩,-,h12⟩:=a40 h12;simp only[Â,beq_iff_eq] at h12;exact R00 x h12.1.2 h12.1.1.1 h12.1.1.2 h5 (ihs x h12.2)
 have hc:(cond=.nil/\ifs=[])∨∃ q f,cond=.cons q .nil/\ifs=[f]/\∀ cl C s H fp,PT (b60 X (c60 (d20 tg) (a80 N capt)) csc cl C s H fp) f (tT X.K G EF q):=by
  match ifs,h8,h11,h13 with
  |[],_,_,h13 =>
   cases cond with
   |nil=>exact .inl ⟨rfl,rfl⟩|cons a r=>cases h13
   |_=>cases h7
  |[f],_,h11,h13 =>
   cases cond with
   |nil=>cases h13
   |cons a r =>
    have h13':(noStar f&&!isL a&&isL r&&mt false G.fns G.nums a csc (d20 tg++(a80 N capt).map (·.1)) [f]&&mt false G.fns G.nums r csc (d20 tg++(a80 N capt).map (·.1)) [])=true:=h13;simp only[Â] at h13';have rn:r=.nil:=by
     cases r with
     |nil=>rfl|cons b q=>cases h13'.2
     |_=>cases h13'.1.1.2
    subst rn;simp only[Á8,all_nil,Ì4] at h11;refine .inr ⟨a,f,rfl,rfl,λcl C s H fp=>?_⟩;obtain⟨e',es,he,ns,ga,lr,gr⟩:=ihc (E10 x c cl C s H fp) h13;cases he;exact ga.pt (F21 h11)
   |_=>cases h7
 refine h72 x c (R20 h2) h4 hi h10 hc λcl C s H fp=>?_;exact(a50 (b40 h6) (ihe (E10 x c cl C s H fp) h14)).pe
theorem T31:∀ (t:Ex) {lm:Bool}{G:Gs}{X:Cx}{E:XK}{N:List Str}{sc:à},XI lm X G E N sc->∀ {es:List Ê},mt lm G.fns G.nums t sc N es=true->Good X G E t es:=by
 intro t
 induction t with
 |nil =>
  intro lm G X E N sc x es h;exact Í3.mp h
 |cons a r iha ihr =>
  intro lm G X E N sc x es h;cases es with
  |nil=>cases h
  |cons e es =>
   have h:(noStar e&&!isL a&&isL r&&mt lm G.fns G.nums a sc N [e]&&mt lm G.fns G.nums r sc N es)=true:=h;simp only[Â] at h;obtain⟨⟨⟨⟨h1,h2⟩,h3⟩,h4⟩,h5⟩:=h;exact⟨e,es,rfl,h1,a50 (b40 h2) (iha x h4),h3,ihr x h5⟩
 |var i =>
  intro lm G X E N sc x es h;obtain⟨⟨q,rfl⟩,-,h⟩:=a40 h;simp only[Â,beq_iff_eq] at h;exact b90 rfl (f72 x h.1 h.2)
 |con d =>
  intro lm G X E N sc x es h;rcases (Ã9 _ _).mp h with h | h
  ·obtain⟨⟨q,rfl⟩,-,h⟩:=a40 h;exact b90 rfl (f82 h)
  ·obtain⟨⟨p,rfl⟩,-,h⟩:=a40 h;cases d with
   |dct=>exact b90 rfl f92|_=>cases h
 |gint g i =>
  intro lm G X E N sc x es h;obtain⟨⟨⟨n,p⟩,rfl⟩,-,h⟩:=a40 h;simp only[Â,beq_iff_eq,Î7] at h;obtain⟨⟨rfl,h2⟩,h3⟩:=h;exact b90 rfl (R61 x h2 h3)
 |tup as ih =>
  intro lm G X E N sc x es h;obtain⟨⟨q,rfl⟩,-,h⟩:=a40 h;simp only[Â] at h;exact b90 rfl (g02 h.1 (ih x h.2))
 |lst as ih =>
  intro lm G X E N sc x es h;obtain⟨⟨q,rfl⟩,-,h⟩:=a40 h;simp only[Â] at h;exact b90 rfl (g12 h.1 (ih x h.2))
 |bin o a b iha ihb =>
  intro lm G X E N sc x es h;obtain⟨⟨⟨l,op,r,p⟩,rfl⟩,-,h⟩:=a40 h;simp only[Â,beq_iff_eq] at h;obtain⟨⟨⟨⟨rfl,h2⟩,h3⟩,h4⟩,h5⟩:=h;exact b90 rfl (g22 (a50 (b40 h2) (iha x h4)) (a50 (b40 h3) (ihb x h5)))
 |cmp o a b iha ihb =>
  intro lm G X E N sc x es h;obtain⟨⟨⟨l,op,r,p⟩,rfl⟩,-,h⟩:=a40 h;simp only[Â,beq_iff_eq] at h;obtain⟨⟨⟨⟨⟨rfl,h1⟩,h2⟩,h3⟩,h4⟩,h5⟩:=h;exact b90 rfl (g32 x h1 (a50 (b40 h2) (iha x h4)) (a50 (b40 h3) (ihb x h5)))
 |neg a ih =>
  intro lm G X E N sc x es h;obtain⟨⟨q,rfl⟩,-,h⟩:=a40 h;simp only[Â] at h;exact b90 rfl (g42 (a50 (b40 h.1) (ih x h.2)))
 |not a ih =>
  intro lm G X E N sc x es h;obtain⟨⟨q,rfl⟩,-,h⟩:=a40 h;simp only[Â] at h;obtain⟨⟨h1,h2⟩,h3⟩:=h;exact b90 rfl (g52 (a50 (b40 h1) (ih x h3)) (F21 h2))
 |and a b iha ihb =>
  intro lm G X E N sc x es h;obtain⟨⟨⟨l,r,vs,p⟩,rfl⟩,-,h⟩:=a40 h;simp only[Â] at h;obtain⟨⟨⟨⟨h1,h2⟩,h3⟩,h4⟩,h5⟩:=h;refine b90 rfl (g62 (a50 (b40 h1) (iha x h4)) (F21 h3) ?_);cases vs with
  |nil =>
   rw[if_pos (show([]:List Ê).isEmpty=true from rfl),Â] at h5;exact R71 (a50 (b40 h2) (ihb x h5.2)) (F21 h5.1)
  |cons v vs =>
   rw[if_neg (by exact Ï)] at h5
   exact a50 (b40 h2) (ihb x h5)
 |or a b iha ihb =>
  intro lm G X E N sc x es h;obtain⟨⟨⟨l,r,vs,p⟩,rfl⟩,-,h⟩:=a40 h;simp only[Â] at h;obtain⟨⟨⟨⟨h1,h2⟩,h3⟩,h4⟩,h5⟩:=h;refine b90 rfl (r42 (a50 (b40 h1) (iha x h4)) (F21 h3) ?_);cases vs with
  |nil =>
   rw[if_pos (show([]:List Ê).isEmpty=true from rfl),Â] at h5;exact R71 (a50 (b40 h2) (ihb x h5.2)) (F21 h5.1)
  |cons v vs =>
   rw[if_neg (by exact Ï)] at h5
   exact a50 (b40 h2) (ihb x h5)
 |orT a b iha ihb =>
  intro lm G X E N sc x es h;obtain⟨⟨⟨l,r,vs,p⟩,rfl⟩,-,h⟩:=a40 h;simp only[Â] at h;obtain⟨⟨⟨⟨h1,h2⟩,h3⟩,h4⟩,h5⟩:=h;cases vs with
  |nil=>exact b90 rfl (g72 (a50 (b40 h1) (iha x h4)) (a50 (b40 h2) (ihb x h5)))|cons v vs=>cases h3
 |ite c a b ihc iha ihb =>
  intro lm G X E N sc x es h;obtain⟨⟨q,rfl⟩,-,h⟩:=a40 h;simp only[Â] at h;obtain⟨⟨⟨⟨⟨⟨h1,h2⟩,h3⟩,h4⟩,h5⟩,h6⟩,h7⟩:=h;exact b90 rfl (g82 (a50 (b40 h1) (ihc x h5)) (F21 h4) (a50 (b40 h2) (iha x h6)) (a50 (b40 h3) (ihb x h7)))
 |ch o o' a b c iha ihb ihc =>
  intro lm G X E N sc x es h;obtain⟨⟨⟨l,op,op',r,s,p⟩,rfl⟩,-,h⟩:=a40 h;simp only[Â,beq_iff_eq] at h;obtain⟨⟨⟨⟨⟨⟨⟨⟨rfl,rfl⟩,h1⟩,h2⟩,h3⟩,h4⟩,h5⟩,h6⟩,h7⟩:=h;exact b90 rfl (r52 x h1 (a50 (b40 h2) (iha x h5)) (a50 (b40 h3) (ihb x h6)) (a50 (b40 h4) (ihc x h7)))
 |bf f as ih =>
  intro lm G X E N sc x es h;obtain⟨⟨q,rfl⟩,-,h⟩:=a40 h;simp only[Â,beq_iff_eq] at h;obtain⟨⟨⟨⟨h1,h2⟩,h3⟩,h4⟩,h5⟩:=h;exact b90 rfl (r62 x h1 h2 h3 h4 (ih x h5))
 |isi t a ih =>
  intro lm G X E N sc x es h;obtain⟨⟨⟨n,q,e,ty,p⟩,rfl⟩,-,h⟩:=a40 h;simp only[Â,beq_iff_eq] at h;obtain⟨⟨⟨⟨⟨h1,h2⟩,h3⟩,h4⟩,h5⟩,h6⟩:=h;have g:=a50 (b40 h4) (ih x h5);refine b90 rfl ?_;have one:∀ t:Ty,t≠.seq->(opt (shN ty) λq=>q.1.1 == À5 (tyN t)&&glob sc (À5 (tyN t)))=true->b00 X G E (.isi t a) (.Call (.Name n q) [e,ty] [] p):=λt hs h6=>by
   obtain⟨⟨⟨a,_⟩,rfl⟩,-,h6⟩:=a40 h6;simp only[Â,beq_iff_eq] at h6;obtain⟨rfl,k1⟩:=h6;exact S51 x hs k1 h1 h2 h3 g
  cases t with
  |seq =>
   obtain⟨⟨⟨a,_,b,_,_,_⟩,rfl⟩,-,h6⟩:=a40 h6;simp only[Â,beq_iff_eq] at h6;obtain⟨⟨⟨rfl,rfl⟩,k1⟩,k2⟩:=h6;exact S61 x k1 k2 h1 h2 h3 g
  |_=>exact one _ (λh=>by cases h) h6
 |idx a i iha ihi =>
  intro lm G X E N sc x es h;obtain⟨⟨q,rfl⟩,-,h⟩:=a40 h;simp only[Â] at h;obtain⟨⟨⟨⟨h1,h2⟩,h3⟩,h4⟩,h5⟩:=h;exact b90 rfl (h02 h1 (a50 (b40 h2) (iha x h4)) (a50 (b40 h3) (ihi x h5)))
 |sl a lo hi iha ihl ihh =>
  intro lm G X E N sc x es h;obtain⟨⟨q,rfl⟩,-,h⟩:=a40 h;simp only[Â] at h;obtain⟨⟨⟨⟨⟨h1,h2⟩,h3⟩,h4⟩,h5⟩,h6⟩:=h;exact b90 rfl (r72 (a50 (b40 h1) (iha x h4)) h2 h3 (ihl x h5) (ihh x h6))
 |call f as ih =>
  intro lm G X E N sc x es h;obtain⟨⟨⟨n,q,e,l,p⟩,rfl⟩,-,h⟩:=a40 h;simp only[Â] at h;obtain⟨⟨⟨h1,h2⟩,h3⟩,h4⟩:=h;obtain⟨pr,hf,h1'⟩:=a40 h1;simp only[Â,beq_iff_eq] at h1';obtain⟨rfl,h7⟩:=h1';exact b90 rfl (s_call x hf h7 h2 h3 (ih x h4))
 |comp own capt p it src cond el ihs ihc ihe =>
  intro lm G X E N sc x es h;obtain⟨⟨q,rfl⟩,-,h⟩:=a40 h;exact b90 rfl ((I70 ihs ihc ihe x h).good x.calm)
 |lrng b as ih =>
  intro lm G X E N sc x es h;obtain⟨⟨⟨n,p,m,q,a,r,t⟩,rfl⟩,-,h⟩:=a40 h;simp only[Â,beq_iff_eq] at h;obtain⟨⟨⟨⟨⟨⟨h1,h2⟩,h3⟩,h4⟩,h5⟩,h7⟩,h6⟩:=h;subst h1;subst h2;cases a with
  |nil=>simp at h7|cons a l=>exact b90 rfl (S91 x h3 h4 h5 (ih x h6))
 |zget i k =>
  intro lm G X E N sc x es h;obtain⟨⟨⟨n,p,j,c,q,r⟩,rfl⟩,-,h⟩:=a40 h;simp only[Â,beq_iff_eq] at h;obtain⟨⟨h1,h2⟩,h3⟩:=h;have h3:j=(k:Int):=h3;subst h3;exact b90 rfl (S71 x h1 h2)
 |rgt capt a b sm iha ihb =>
  intro lm G X E N sc x es h;obtain⟨⟨⟨n,p,body,lsc,lpos,be,pos⟩,rfl⟩,-,h⟩:=a40 h;simp only[Â,beq_iff_eq] at h;obtain⟨⟨⟨⟨⟨⟨⟨⟨⟨⟨h1,h2⟩,h3⟩,h4⟩,h5⟩,h6⟩,h7⟩,h8⟩,h9⟩,h10⟩,h11⟩:=h;have h2:n="_law_right":=h2;subst h2;obtain⟨⟨nm,ps⟩,hf,hps⟩:=a40 h9;simp only[Â,beq_iff_eq] at hps;have e:nm="_law_same":=hps.1;subst e;exact b90 rfl (h62 x h1 h3 h4 h5 (b40 h6) hf hps.2 h8 (a50 (b40 h7) (ihb x h11)) λk X E xl=>iha xl h10)
theorem sound(G:Gs)(t:Ex)(x:XI lm X G E N sc)(h:mt lm G.fns G.nums t sc N es=true):Good X G E t es:=T31 t x h
end
section
variable {lm:Bool}{X:Cx}{G:Gs}{E:XK}{N:List Str}{sc:à}
structure T41(G:Gs)(N:List Str)(sc:Scope)(capt:List Nat)(a:Ex)(lsc:Scope)(body:Expr):Prop where
 hc:(a80 N capt).length=capt.length
 hs:I40 lsc sc (a80 N capt)=true
 hL:isL a=false
 ih:∀ (k:Nat) {X:Cx}{E:XK},XI false X (lowG G k) E ((a80 N capt).map (·.1)) lsc->Good X (lowG G k) E a [body]
def X00(X:Cx)(G:Gs)(N:List Str)(sc:à)(q:Str)(H:Hp)(t:LT)(p:List Nat × Ex):Prop:=d31 X q H t/\t.N=(a80 N p.1).map (·.1)/\T41 G N sc p.1 p.2 t.lsc t.body
theorem h81(h:o30 F ρ ((capt,a)::r) z=some (cs,z1)):∃ ss c zm cs',W30 ρ capt=some ss/\ev (W20 F) a (ss.map some) z=some (.er c zm)/\c < 12/\o30 F ρ r zm=some (cs',z1)/\cs=c::cs':=by
 unfold o30 at h;split at h
 ·cases h
 ·rename_i ss hss;split at h
  ·rename_i c zm he;split at h
   ·rename_i hc;obtain⟨⟨cs',z'⟩,h1,h2⟩:=Í.mp h;cases h2;exact⟨ss,c,zm,cs',hss,he,hc,h1,rfl⟩
   ·cases h
  ·cases h
theorem h82{α:Type}{l:List α}{a:α}:(l++[a]).length=l.length + 1:=by rw[ÿ];rfl
theorem À1.get{α β:Type}{R:α->β->Prop}:∀ {xs:List α}{ys:List β},À1 R xs ys->∀ {i:Nat}{x:α}{y:β},xs[i]?=some x->ys[i]?=some y->R x y
 |_,_,.nil,i,x,y,h,_=>by simp at h|_,_,.cons r t,0,x,y,h1,h2=>by simp at h1 h2;subst h1;subst h2;exact r|_,_,.cons r t,i + 1,x,y,h1,h2=>À1.get t (by simpa using h1) (by simpa using h2)
def tLL(X:Cx)(G:Gs)(N:List Str)(sc:à)(q:Str)(i:Nat)(ls:List (List Nat × Ex)):TE:=λσ H Q=>∃ zA ρ z cs z1 L ts,r00 X.K zA H ρ σ/\c50 zA z H/\o30 G.F ρ ls z=some (cs,z1)/\σ[i]?=some (some (.ref L))/\H L=some (.lst (ts.map λt=>.ref t.f))/\zA≠some L/\À1 (X00 X G N sc q H) ts ls /\
 ∀ v H',Ext zA H H'->c50 zA z1 H'->RvS X.K zA H H' (.fr (cs.map x01)) v->Q v H'
theorem h91(x:XI lm X G E N sc){c P:Æ}{q:Str}{k:Nat}{fR:Æ}{fdR:ø}(L:r10 X G sc c P q k fR fdR){i:Nat}{n y:Str}{ls:List (List Nat × Ex)}{csc:à}{p p2 p3 p4 pos ps:Pos}(hi:N[i]?=some y)(ny:b30 y=true)(nn:b30 n=true)(cc:y21 csc sc N [n] [])(hg:glob csc "_law_refused"=true)(hls:ls.length<=1000) :
  PE X (.ListComp (.Call (.Name "_law_refused" p) [.Name n p2] [] pos) [⟨.Name n p3,.Name y p4,[],0⟩] csc ps) (tLL X G N sc q i ls):=by
 unfold b30 at ny nn;simp only[Â,î] at ny nn;obtain⟨k1,k2,k3⟩:=c90 hg;refine PE.imp (W00 (wi:=M01 X.K (J61 i)) (qual:=q) (k:=k) x.calm (h51 x cc) (A90 (e20 (i:=i) (by rw[x.hN];exact hi) (x.vis y (Ü hi)) ny.1 ny.2)) L.fn (L.rm x.room) (λcl C s H fp=>(E10 x cc cl C s H fp).glb _ k1) L.m L.kp L.bd (λcl C s H fp=>K20 (x:=n) (by simp[c60]) rfl ((E20 x cc cl C s H fp).lc n (by simp)) ((E20 x cc cl C s H fp).fn n (by simp))) (λcl C s H fp=>(E10 x cc cl C s H fp).vis n (by simp)) nn.1 nn.2 k2 (λ_=>rfl)) λσ H Q qq=>?_
 obtain⟨zA,ρ,z,cs,z1,Ld,ts,rel,st,run,eL,hL,zL,pr,po⟩:=qq;refine⟨_,eL,Ld,rfl,⟨_,.of hL⟩,trivial,?_⟩;have nz:∀ {a:Æ}{p:á->Prop},H a=some (.ext p)->zA≠some a:=λ{a p} h e=>by
  subst e;have:=st.zat;cases z with
  |none=>exact this.elim
  |some pr =>
   have h':H a=some (.lst [.int pr.1,.bl pr.2]):=this;rw[h] at h';cases h'
 have len:=pr.length;refine⟨λj m ys H'=>∃ zj ds cs',m=(ls.drop j).length/\Ext zA H H'/\c50 zA zj H'/\o30 G.F ρ (ls.drop j) zj=some (cs',z1)/\cs=ds++cs'/\HdA X.K (hz zA H') (ds.map x01) ys/\ds.length=j,⟨_,z,[],cs,rfl,.refl,st,run,rfl,.nil,rfl⟩,?_⟩;rintro j m ys H' ⟨zj,ds,cs',rfl,xx,stj,rj,rfl,hd,rfl⟩;have hL':=xx.at hL zL;cases hdr:ls.drop ds.length with
 |nil =>
  rw[hdr] at rj;cases rj;have hle:ls.length<=ds.length:=List.drop_eq_nil_iff.mp hdr;refine .inl ⟨⟨_,.of hL',by rw[É,len];exact hle⟩,λp hp=>?_⟩
  rw[Ä0] at po;exact po _ _ (xx.trans (Ext.of (a10.new _ hp))) (stj.same (a10.new _ hp)) ((k90 stj hd hp).from xx)
 |cons pa r =>
  obtain⟨capt,a⟩:=pa;rw[hdr] at rj;obtain⟨ss,ce,zm,cs2,hss,he,hc12,rj2,rfl⟩:=h81 rj;have hlt:ds.length < ls.length:=by
   rcases Nat.lt_or_ge ds.length ls.length with h | h
   ·exact h
   ·rw[List.drop_eq_nil_of_le h] at hdr;cases hdr
  have hls':ls[ds.length]?=some (capt,a):=by
   have:=List.getElem?_drop (xs:=ls) (i:=ds.length) (j:=0);rw[hdr] at this;exact this.symm
  have hdr2:ls.drop (ds.length + 1)=r:=by
   have:=Ë7 hlt;rw[hdr] at this;exact(List.cons.inj this).2.symm
  have hlt':ds.length < ts.length:=by rw[len];exact hlt
  obtain⟨lt,tN,lf⟩:=À1.get pr (ù hlt') hls';generalize et:ts[ds.length]=t at lt tN lf;have ht:(ts.map λt=>V.ref t.f)[ds.length]?=some (.ref t.f):=by rw[Ù,ù hlt',et];rfl
  refine .inr ⟨⟨_,_,.of hL',ht⟩,?_,λzs H2=>∃ m',m' < ((capt,a)::r).length/\∃ zj ds2 cs',m'=(ls.drop (ds.length + 1)).length/\Ext zA H H2/\c50 zA zj H2/\o30 G.F ρ (ls.drop (ds.length + 1)) zj=some (cs',z1)/\ds++ce::cs2=ds2++cs'/\HdA X.K (hz zA H2) (ds2.map x01) zs/\ds2.length=ds.length + 1,λ_ _ h=>h,λy H2 hy=>?_⟩
  ·have:=hd.length;rw[É] at this;exact Ñ (show ys.length < 1000 by omega) (-0)
  obtain⟨rfl,hy⟩:=hy;cases (ð ((hy _ (.of hL')).symm.trans ht));obtain⟨vs,ra,hvl,hvs⟩:=w60 rel hss lf.hc;have la:r41 H2 q t:=⟨xx.at lt.fn (nz lt.fn),xx.at lt.rc (nz lt.rc)⟩;have hsc:=lf.hs;unfold I40 at hsc;simp only[Â,î,beq_iff_eq,Ã7,decide_eq_true_eq] at hsc;obtain⟨⟨⟨⟨⟨⟨s1,s2⟩,s3⟩,s4⟩,s5⟩,s6⟩,s7⟩:=hsc;have hfree:∀ y∈(a80 N capt).map (·.1),t.lsc.names.lookup y=some .free:=λy hy=>by
   obtain⟨pr,h1,rfl⟩:=Þ.mp hy;exact s6 pr h1
  show teL X q k _ σ H [some (.ref t.f)] H2 _;refine⟨t,vs,.ref (G.cls ce),λH3=>Ext zA H2 H3/\c50 zA zm H3,lt,⟨by rw[tN,É];exact hvl,λi y v h1 h2=>by rw[tN] at h1;rw[x.hN];exact hvs i y v h1 h2⟩,rfl,la,λA outer s H3 hr sm=>?_,λs2 th=>?_⟩
  ·have XL:XI false (t10 X.prog X.w X.K X.mg X.base t.N q t.lsc t.f (.ref t.c') t.cl A outer s H3 λc _ H'=>c=.ref (G.cls ce)/\Ext zA H2 H'/\c50 zA zm H') (lowG G k) (λc _ H'=>c=.ref (G.cls ce)/\Ext zA H2 H'/\c50 zA zm H') ((a80 N capt).map (·.1)) t.lsc :=
    { gok:=L.low,num:=x.num,blt:=x.blt,hN:=tN,nd:=s7,vis:=λy hy=>.inr (.inr (hfree y hy)),glb:=λy h=>h,cel:=λy h=>h,calm:=rfl,room:=hr,pas:=c91,lam:=λh=>nomatch h }
   refine⟨_,(a50 lf.hL (lf.ih k XL)).pe,?_⟩;exact⟨zA,ss.map some,zj,_,t80 (RvA.mono ra (xx.trans (Ext.of sm))),stj.same sm,he,λea H' x3 stt hn=>⟨rfl,(Ext.of sm).trans x3,stt⟩⟩
  ·refine⟨t.f,G.cls ce,ce,_,rfl,th,L.cls ce hc12,λl H3 H4 hRR sm hl=>?_⟩;obtain⟨x3,st3⟩:=hRR;have x4:Ext zA H2 (upd H4 l (.lst [.int ce])):=(x3.trans (Ext.of sm)).trans (Ext.of (a10.new _ hl));have st4:=st3.same sm;refine⟨r.length,Nat.lt_succ_self _,zm,ds++[ce],cs2,by rw[hdr2],xx.trans x4,st4.same (a10.new _ hl),by rw[hdr2];exact rj2,by rw[È5];rfl,?_,h82⟩
   rw[Ã1];exact(hd.same x4.same).append (.cons (k90 st4 (HdA.cons Hd.int HdA.nil) hl).pl .nil)
end
open Classical in
def hw(ow:Nat->Option Æ)(H:Hp):Hp:=λb=>if ∃ i,ow i=some b then none else H b
section
variable {K:À}{ow:Nat->Option Æ}{H H':Hp}
theorem i60:a10 (hw ow H) H:=λb o e=>by
 unfold hw at e;split at e
 ·cases e
 ·exact e
theorem h50(h:H b=some o)(n:∀ i,ow i≠some b):hw ow H b=some o:=by
 unfold hw;rw[if_neg (λ⟨i,e⟩=>n i e)];exact h
theorem w70(h:hw ow H b=some o):H b=some o/\∀ i,ow i≠some b:=by
 refine⟨i60 b o h,λi e=>?_⟩;unfold hw at h;rw[if_pos ⟨i,e⟩] at h;cases h
theorem c00(e:a10 H H'):a10 (hw ow H) (hw ow H'):=λb o h=>by
 obtain⟨h1,h2⟩:=w70 h;exact h50 (e b o h1) h2
theorem r20:hw (λ_=>none) H=H:=by
 funext b
 unfold hw;rw[if_neg (λ⟨i,e⟩=>by cases e)]
theorem i01(h:SqT K H a xs)(hl:∀ i b,ow i=some b->∃ ys,H b=some (.lst ys)):SqT K (hw ow H) a xs:=by
 rcases h with (h | ⟨o,h⟩) | h
 ·refine .inl (.inl (h50 h λi e=>?_));obtain⟨ys,q⟩:=hl i a e;rw[h] at q;cases q
 ·refine .inl (.inr ⟨o,h50 h λi e=>?_⟩);obtain⟨ys,q⟩:=hl i a e;rw[h] at q;cases q
 ·exact .inr h
mutual
theorem w80(hl:∀ i b,ow i=some b->∃ ys,H b=some (.lst ys)):∀ {d:D}{v:V},bare d=true->Hd K H d v->Hd K (hw ow H) d v
 |.non,_,_,h=>by rw[h.Z71];exact Hd.non|.bl _,_,_,h=>by rw[h.bl_];exact Hd.bl|.int _,_,_,h=>by rw[h.i50];exact Hd.int|.str _,_,_,h=>by rw[h.d72];exact Hd.str
 |.tup l,_,b,h=>by
  obtain⟨a,xs,rfl,h1,h2⟩:=h.w10;exact Hd.tup (i01 h1 hl) (t90 hl (by simpa [bare] using b) h2)
 |.lst _,_,b,_=>by cases b
 |.dct,_,b,_=>by cases b
theorem t90(hl:∀ i b,ow i=some b->∃ ys,H b=some (.lst ys)):∀ {ds:List D}{vs:List V},g20 ds=true->HdA K H ds vs->HdA K (hw ow H) ds vs
 |[],_,_,h=>by rw[h.e70];exact .nil
 |d::ds,_,b,h=>by
  obtain⟨x,r,rfl,h1,h2⟩:=h.c30;simp only[g20,Â] at b;exact .cons (w80 hl b.1 h1) (t90 hl b.2 h2)
end
end
def RvW(K:À)(zA:Option Æ)(ow:Nat->Option Æ)(H:Hp)(i:Nat):S->V->Prop
 |.d x,v=>ow i=none/\Hd K (hw ow (hz zA H)) x v|.fr xs,v=>∃ a ys,ow i=some a/\v=.ref a/\H a=some (.lst ys)/\HdA K (hw ow (hz zA H)) xs ys|.z,v=>ow i=none/\∃ a,zA=some a/\v=.ref a
structure RW(K:PySem.W.Frag)(H0:Hp)(zE zA:Option Addr)(ow:Nat->Option Addr)(H:Hp)(ρ:Env)(σ:L2.St):Prop where
 len:ρ.length=σ.length
 inj:∀ i j a,ow i=some a->ow j=some a->i=j
 zne:∀ i a,ow i=some a->zA≠some a
 own:∀ i a,ow i=some a->∃ xs,ρ[i]?=some (some (.fr xs))
 wor:∀ i s,ρ[i]?=some (some s)->∃ v,σ[i]?=some (some v)/\RvW K zA ow H i s v
 ext:Ext zE H0 H
 zok:zA=zE∨(zE=none/\∀ a,zA=some a->H0 a=none)
 new:∀ i a,ow i=some a->H0 a=none
section
variable {K:À}{H0 H H':Hp}{zE zA:Option Æ}{ow:Nat->Option Æ}{ρ:Env}{σ:L2.St}
theorem RW.lst(r:RW K H0 zE zA ow H ρ σ):∀ i a,ow i=some a->∃ ys,H a=some (.lst ys):=λi a e=>by
 obtain⟨xs,h⟩:=r.own i a e;obtain⟨v,h1,a',ys,h2,h3,h4,h5⟩:=r.wor i _ h;rw[e] at h2;cases h2;exact⟨ys,h4⟩
theorem RW.y31(r:RW K H0 zE zA ow H ρ σ):∀ i a,ow i=some a->∃ ys,hz zA H a=some (.lst ys):=λi a e=>by
 obtain⟨ys,h⟩:=r.lst i a e;exact⟨ys,d30 h (r.zne i a e)⟩
theorem RvW.pl{i:Nat}{s:S}{v:V}(h:RvW K zA ow H i s v)(hz':∀ a,ow i=some a->zA≠some a):RvP K zA H s v:=by
 cases s with
 |d x=>exact h.2.same i60|z=>exact h.2
 |fr xs =>
  obtain⟨a,ys,h1,rfl,h3,h4⟩:=h;exact Hd.lst (d30 h3 (hz' a h1)) (h4.same i60)
theorem RW.y00(r:RW K H0 zE zA ow H ρ σ):r00 K zA H ρ σ:=λi s e=>by
 obtain⟨v,h1,h2⟩:=r.wor i s e;exact⟨v,h1,h2.pl λa q=>r.zne i a q⟩
theorem RvW.mono{i:Nat}{s:S}{v:V}(h:RvW K zA ow H i s v)(hz':∀ a,ow i=some a->zA≠some a)(x:Ext zA H H'):RvW K zA ow H' i s v:=by
 cases s with
 |d y=>exact⟨h.1,h.2.same (c00 x)⟩|z=>exact h
 |fr xs =>
  obtain⟨a,ys,h1,rfl,h3,h4⟩:=h;exact⟨a,ys,h1,rfl,x.at h3 (hz' a h1),h4.same (c00 x)⟩
theorem y41(zA:Option Æ)(H:Hp):a10 (hz zA H) (hz none H):=λ_ _ h=>d30 (l50 h).1 (λq=>nomatch q) (l80 h)
theorem i11(e:Ext zE H0 H)(zok:zA=zE∨(zE=none/\∀ a,zA=some a->H0 a=none))(x:Ext zA H H'):Ext zE H0 H':=by
 rcases zok with rfl | ⟨rfl,hn⟩
 ·exact e.trans x
 ·refine⟨λb o h=>?_,λb ps h=>let ⟨qs,q⟩:=e.tbl b ps h;x.tbl b qs q⟩;have h1:=e.same b o h;refine d30 (x.at (l50 h1).1 (λq=>?_) (l80 h1)) (λq=>nomatch q) (l80 h1);have h0:=(l50 h).1;rw[hn b q] at h0;cases h0
theorem RW.mono(r:RW K H0 zE zA ow H ρ σ)(x:Ext zA H H'):RW K H0 zE zA ow H' ρ σ :=
 ⟨r.len,r.inj,r.zne,r.own,λi s e=>let ⟨v,h1,h2⟩:=r.wor i s e;⟨v,h1,h2.mono (λa q=>r.zne i a q) x⟩,i11 r.ext r.zok x,r.zok,r.new⟩
theorem RW.young(r:RW K H0 zE zA ow H ρ σ)(h:H a=none)(n:zA≠some a):H0 a=none/\zE≠some a:=by
 have hE:zE≠some a:=λq=>by
  rcases r.zok with rfl | ⟨rfl,_⟩
  ·exact n q
  ·cases q
 exact⟨r.ext.free h hE,hE⟩
theorem RW.out(r:RW K H0 zE zA ow H ρ σ){s:S}{v:V}(hs:s≠.z)(x:Ext zA H H')(h:RvS K zA H H' s v):RvS K zE H0 H' s v:=by
 have sm:a10 (hz zA H') (hz zE H'):=by
  rcases r.zok with rfl | ⟨rfl,_⟩
  ·exact a10.refl _
  ·exact y41 _ _
 cases s with
 |d y=>exact Hd.same sm h|z=>exact absurd rfl hs
 |fr xs =>
  obtain⟨a,ys,rfl,h1,h2,h3,h4⟩:=h;obtain⟨k1,k2⟩:=r.young h1 h2;exact⟨a,ys,rfl,k1,k2,h3,h4.same (v40 λb o _ q=>sm b o q)⟩
theorem RW.r82(r:RW K H0 zE zA ow H ρ σ){i:Nat}{s:S}(hs:s≠.z)(e:ρ[i]?=some (some s)):∃ v,σ[i]?=some (some v)/\RvS K zE H0 H s v:=by
 obtain⟨v,h1,h2⟩:=r.wor i s e;have sm:a10 (hz zA H) (hz zE H):=by
  rcases r.zok with rfl | ⟨rfl,_⟩
  ·exact a10.refl _
  ·exact y41 _ _
 refine⟨v,h1,?_⟩;cases s with
 |d y=>exact Hd.same (a10.trans i60 sm) h2.2|z=>exact absurd rfl hs
 |fr xs =>
  obtain⟨a,ys,k1,rfl,k3,k4⟩:=h2;have n:=r.zne i a k1;have hE:zE≠some a:=λq=>by
   rcases r.zok with rfl | ⟨rfl,_⟩
   ·exact n q
   ·cases q
  refine⟨a,ys,rfl,r.new i a k1,hE,k3,k4.same λb o q=>?_⟩;obtain⟨q1,q2⟩:=w70 q;exact C50 (sm b o q1) λz=>q2 i (by rw[z];exact k1)
theorem RW.L30(r:RW K H0 zE zA ow H ρ σ):RW K H0 zE zA (λ_=>none) H (L30 ρ) σ:=by
 refine⟨by unfold Q.L30;rw[É];exact r.len,λi j a h=>(by cases h),λi a h=>(by cases h),λi a h=>(by cases h),λi s e=>?_,r.ext,r.zok,λi a h=>(by cases h)⟩
 unfold Q.L30 at e;rw[Ù] at e;obtain⟨o,e1,e2⟩:=Í.mp e;cases o with
 |none=>cases e2
 |some s0 =>
  cases e2;obtain⟨v,h1,h2⟩:=r.y00 i s0 e1;refine⟨v,h1,?_⟩;cases s0 with
  |d y=>exact⟨rfl,by rw[r20];exact h2⟩|fr xs=>exact⟨rfl,by rw[r20];exact h2⟩|z=>exact⟨rfl,h2⟩
def ow0(ow:Nat->Option Æ)(i:Nat):Nat->Option Addr:=λj=>if j=i then none else ow j
def ow1(ow:Nat->Option Æ)(i:Nat)(a:Æ):Nat->Option Addr:=λj=>if j=i then some a else ow j
theorem RvW.move{ow':Nat->Option Æ}{j:Nat}{s:S}{v:V}(h:RvW K zA ow H j s v)(e:ow' j=ow j)(sm:a10 (hw ow (hz zA H)) (hw ow' (hz zA H')))(hk:∀ a,ow j=some a->H' a=H a):RvW K zA ow' H' j s v:=by
 cases s with
 |d y=>exact⟨by rw[e];exact h.1,h.2.same sm⟩|z=>exact⟨by rw[e];exact h.1,h.2⟩
 |fr xs =>
  obtain⟨a,ys,h1,rfl,h3,h4⟩:=h;exact⟨a,ys,by rw[e];exact h1,rfl,by rw[hk a h1];exact h3,h4.same sm⟩
theorem getElem?_set'{α:Type}{l:List α}{i j:Nat}{x y:α}(h:(l.set i x)[j]?=some y):(j=i/\y=x/\i < l.length)∨(j≠i/\l[j]?=some y):=by
 by_cases hj:j=i
 ·subst hj;have hlt:j < l.length:=by
   have:=(Ú.mp h).1;simpa using this
  rw[ß hlt] at h;cases h;exact .inl ⟨rfl,rfl,hlt⟩
 ·rw[Ö (À3 hj)] at h;exact .inr ⟨hj,h⟩
theorem RW.m82(r:RW K H0 zE zA ow H ρ σ){i:Nat}(h:Hd K (hw ow (hz zA H)) x v):RW K H0 zE zA (ow0 ow i) H (ρ.set i (some (.d x))) (σ.set i (some v)):=by
 have sub:∀ j a,ow0 ow i j=some a->j≠i/\ow j=some a:=λj a e=>by
  unfold ow0 at e;split at e
  ·cases e
  ·rename_i n;exact⟨n,e⟩
 have sm:a10 (hw ow (hz zA H)) (hw (ow0 ow i) (hz zA H)):=λb o e=>by
  obtain⟨e1,e2⟩:=w70 e;exact h50 e1 λj q=>e2 j (sub j b q).2
 refine⟨by rw[À6,À6];exact r.len,λj k a h1 h2=>r.inj j k a (sub j a h1).2 (sub k a h2).2,λj a h1=>r.zne j a (sub j a h1).2,λj a h1=>?_,λj s e=>?_,r.ext,r.zok,λj a h1=>r.new j a (sub j a h1).2⟩
 ·obtain⟨n,h2⟩:=sub j a h1;obtain⟨xs,h3⟩:=r.own j a h2;exact⟨xs,by rw[Ö (À3 n)];exact h3⟩
 ·rcases getElem?_set' e with ⟨rfl,e1,hlt⟩ | ⟨n,e1⟩
  ·cases e1;exact⟨v,ß (by rw[← r.len];exact hlt),by unfold ow0;exact if_pos rfl,h.same sm⟩
  ·obtain⟨w,h1,h2⟩:=r.wor j s e1;exact⟨w,by rw[Ö (À3 n)];exact h1,h2.move (by unfold ow0;exact if_neg n) sm λ_ _=>rfl⟩
theorem RW.r92(r:RW K H0 zE zA ow H ρ σ){i:Nat}{t:S}{v:V}(h:RvW K zA (ow0 ow i) H i t v):RW K H0 zE zA (ow0 ow i) H (ρ.set i (some t)) (σ.set i (some v)):=by
 have sub:∀ j a,ow0 ow i j=some a->j≠i/\ow j=some a:=λj a e=>by
  unfold ow0 at e;split at e
  ·cases e
  ·rename_i n;exact⟨n,e⟩
 have sm:a10 (hw ow (hz zA H)) (hw (ow0 ow i) (hz zA H)):=λb o e=>by
  obtain⟨e1,e2⟩:=w70 e;exact h50 e1 λj q=>e2 j (sub j b q).2
 refine⟨by rw[À6,À6];exact r.len,λj k a h1 h2=>r.inj j k a (sub j a h1).2 (sub k a h2).2,λj a h1=>r.zne j a (sub j a h1).2,λj a h1=>?_,λj s e=>?_,r.ext,r.zok,λj a h1=>r.new j a (sub j a h1).2⟩
 ·obtain⟨n,h2⟩:=sub j a h1;obtain⟨xs,h3⟩:=r.own j a h2;exact⟨xs,by rw[Ö (À3 n)];exact h3⟩
 ·rcases getElem?_set' e with ⟨rfl,e1,hlt⟩ | ⟨n,e1⟩
  ·cases e1;exact⟨v,ß (by rw[← r.len];exact hlt),h⟩
  ·obtain⟨w,h1,h2⟩:=r.wor j s e1;exact⟨w,by rw[Ö (À3 n)];exact h1,h2.move (by unfold ow0;exact if_neg n) sm λ_ _=>rfl⟩
theorem RW.s02(r:RW K H0 zE zA ow H ρ σ){i:Nat}(x:Ext zA H H')(hn:H a=none)(za:zA≠some a)(hl:H' a=some (.lst ys))(h:HdA K (hw (ow1 ow i a) (hz zA H')) xs ys)(hi:i < ρ.length) :
  RW K H0 zE zA (ow1 ow i a) H' (ρ.set i (some (.fr xs))) (σ.set i (some (.ref a))):=by
 have r':=r.mono x;have old:∀ j b,ow j=some b->b≠a:=λj b e q=>by
  obtain⟨zs,h1⟩:=r.lst j b e;rw[q,hn] at h1;cases h1
 have sub:∀ j b,ow1 ow i a j=some b->(j=i/\b=a)∨(j≠i/\ow j=some b):=λj b e=>by
  unfold ow1 at e;split at e
  ·rename_i n;cases e;exact .inl ⟨n,rfl⟩
  ·rename_i n;exact .inr ⟨n,e⟩
 have sm:a10 (hw ow (hz zA H)) (hw (ow1 ow i a) (hz zA H')):=λb o e=>by
  obtain⟨e1,e2⟩:=w70 e;have e3:=(l50 e1).1;have hb:b≠a:=λq=>by rw[q,hn] at e3;cases e3
  refine h50 (x b o e1) λj q=>?_;rcases sub j b q with ⟨_,q⟩ | ⟨_,q⟩
  ·exact hb q
  ·exact e2 j q
 refine⟨by rw[À6,À6];exact r.len,λj k b h1 h2=>?_,λj b h1=>?_,λj b h1=>?_,λj s e=>?_,r'.ext,r.zok,λj b h1=>?_⟩
 ·rcases sub j b h1 with ⟨q1,q2⟩ | ⟨q1,q2⟩
  ·rcases sub k b h2 with ⟨p1,p2⟩ | ⟨p1,p2⟩
   ·rw[q1,p1]
   ·exact absurd q2 (old k b p2)
  ·rcases sub k b h2 with ⟨p1,p2⟩ | ⟨p1,p2⟩
   ·exact absurd p2 (old j b q2)
   ·exact r.inj j k b q2 p2
 ·rcases sub j b h1 with ⟨_,q2⟩ | ⟨_,q2⟩
  ·rw[q2];exact za
  ·exact r.zne j b q2
 ·rcases sub j b h1 with ⟨q1,q2⟩ | ⟨q1,q2⟩
  ·rw[q1];exact⟨xs,ß hi⟩
  ·obtain⟨zs,h3⟩:=r.own j b q2;exact⟨zs,by rw[Ö (À3 q1)];exact h3⟩
 ·rcases getElem?_set' e with ⟨rfl,e1,hlt⟩ | ⟨n,e1⟩
  ·cases e1;exact⟨.ref a,ß (by rw[← r.len];exact hlt),a,ys,by unfold ow1;exact if_pos rfl,rfl,hl,h⟩
  ·obtain⟨w,h1,h2⟩:=r.wor j s e1;refine⟨w,by rw[Ö (À3 n)];exact h1,h2.move (by unfold ow1;exact if_neg n) sm λb q=>?_⟩
   obtain⟨zs,k⟩:=r.lst j b q;rw[k];exact x.at k (r.zne j b q)
 ·rcases sub j b h1 with ⟨_,q2⟩ | ⟨_,q2⟩
  ·rw[q2];exact(r.young hn za).1
  ·exact r.new j b q2
theorem RW.upd(r:RW K H0 zE zA ow H ρ σ){i:Nat}(e:ow i=some a)(h:HdA K (hw ow (hz zA H)) xs ys):RW K H0 zE zA ow (upd H a (.lst ys)) (ρ.set i (some (.fr xs))) σ:=by
 have za:=r.zne i a e;have sm:a10 (hw ow (hz zA H)) (hw ow (hz zA (L2.upd H a (.lst ys)))):=λb o q=>by
  obtain⟨e1,e2⟩:=w70 q;obtain⟨e3,e4⟩:=l50 e1;have hb:b≠a:=λz=>e2 i (by rw[z];exact e)
  exact h50 (d30 (by rw[a20 hb];exact e3) e4 (l80 e1)) e2
 obtain⟨xs0,h0⟩:=r.own i a e;have hi:i < ρ.length:=(Ú.mp h0).1;obtain⟨v0,s0,a0,ys0,q1,q2,q3,q4⟩:=r.wor i _ h0;rw[e] at q1;cases q1;refine⟨by rw[À6];exact r.len,r.inj,r.zne,λj b h1=>?_,λj s q=>?_,⟨λb o q=>?_,λb ps q=>?_⟩,r.zok,r.new⟩
 ·by_cases hj:j=i
  ·subst hj;exact⟨xs,ß hi⟩
  ·obtain⟨zs,h3⟩:=r.own j b h1;exact⟨zs,by rw[Ö (À3 hj)];exact h3⟩
 ·rcases getElem?_set' q with ⟨rfl,e1,hlt⟩ | ⟨n,e1⟩
  ·cases e1;exact⟨v0,s0,a,ys,e,q2,a90,h.same sm⟩
  ·obtain⟨w,h1,h2⟩:=r.wor j s e1;refine⟨w,h1,h2.move rfl sm λb q=>?_⟩;have hb:b≠a:=λz=>n (r.inj j i b q (by rw[z];exact e))
   exact a20 hb
 ·obtain⟨e1,e2⟩:=l50 (r.ext b o q);have hb:b≠a:=λz=>by
   have:=(l50 q).1;rw[z,r.new i a e] at this;cases this
  exact d30 (by rw[a20 hb];exact e1) e2 (l80 q)
 ·obtain⟨qs,e1⟩:=r.ext.tbl b ps q;have hb:b≠a:=λz=>by rw[z,q3] at e1;cases e1
  exact⟨qs,by rw[a20 hb];exact e1⟩
end
end Q
namespace Q
open PySem L2 PySem.Spec PyProof.Rows
variable [TB:Tb]
def Z91:Option Æ->Z->Z
 |none,_=>none|some _,z=>z
def i70(K:À)(G:Gs)(E:XK)(H0:Hp)(zE:Option Æ)(B:Hp)(D:Ends):R O->Prop
 |.ok (.nx ρ) z=>∀ zA ow σ H,RW K H0 zE zA ow H ρ σ->c50 zA z H->a10 B (hw ow (hz zA H))->D.nx σ H|.ok (.rt s) z=>∀ v H,s≠.z->Ext zE H0 H->c50 zE (Z91 zE z) H->RvS K zE H0 H s v->D.rt v H|.er c z=>∀ e H,Ext zE H0 H->c50 zE (Z91 zE z) H->H e=none->E (.ref (G.cls c)) (some e) H
def tX(K:À)(G:Gs)(E:XK)(H0:Hp)(zE:Option Æ)(x:Sm):TS:=λD σ H=>∃ zA ow ρ z r,RW K H0 zE zA ow H ρ σ/\c50 zA z H/\ex G.F zE.isNone x ρ z=some r/\i70 K G E H0 zE (hw ow (hz zA H)) D r
section
variable {K:À}{G:Gs}{E:XK}{H0 H H':Hp}{zE zA:Option Æ}{ow:Nat->Option Æ}{ρ:Env}{σ:L2.St}{Dn:Ends}{z:Z}
theorem K21(zok:zA=zE∨(zE=none/\∀ a,zA=some a->H0 a=none))(st:c50 zA z H):c50 zE (Z91 zE z) H:=by
 cases zE with
 |none=>exact⟨trivial,st.tab⟩
 |some a =>
  rcases zok with rfl | ⟨h,_⟩
  ·exact st
  ·cases h
theorem i70.er_(po:i70 K G E H0 zE B Dn (.er c z))(r:RW K H0 zE zA ow H ρ σ):EPost G zA E c z H:=λe H' x st n=>po e H' (i11 r.ext r.zok x) (K21 r.zok st) n
theorem i70.ers(po:i70 K G E H0 zE B Dn rr)(r:RW K H0 zE zA ow H ρ σ):∀ c z1,rr=.er c z1->EPost G zA E c z1 H:=λc z1 e=>by subst e;exact po.er_ r
theorem i70.mono(po:i70 K G E H0 zE B Dn rr)(h:a10 B B'):i70 K G E H0 zE B' Dn rr:=by
 match rr,po with
 |.ok (.nx _) _,po=>exact λzA ow σ H r st sm=>po zA ow σ H r st (a10.trans h sm)|.ok (.rt _) _,po=>exact po|.er _ _,po=>exact po
theorem k20(ow:Nat->Option Æ)(i:Nat):a10 (hw ow H) (hw (ow0 ow i) H):=λb o e=>by
 obtain⟨e1,e2⟩:=w70 e;refine h50 e1 λj q=>?_;unfold ow0 at q;split at q
 ·cases q
 ·exact e2 j q
theorem w90(ow:Nat->Option Æ):a10 (hw ow H) (hw (λ_=>none) H):=λb o e=>h50 (w70 e).1 λj q=>nomatch q
theorem t41(x:Ext zA H H')(hn:H a=none)(i:Nat):a10 (hw ow (hz zA H)) (hw (ow1 ow i a) (hz zA H')):=λb o e=>by
 obtain⟨e1,e2⟩:=w70 e;have e3:=(l50 e1).1;have hb:b≠a:=λq=>by rw[q,hn] at e3;cases e3
 refine h50 (x b o e1) λj q=>?_;unfold ow1 at q;split at q
 ·cases q;exact hb rfl
 ·exact e2 j q
theorem E30(e:ow i=some a):a10 (hw ow (hz zA H)) (hw ow (hz zA (upd H a o))):=λb u q=>by
 obtain⟨e1,e2⟩:=w70 q;obtain⟨e3,e4⟩:=l50 e1;have hb:b≠a:=λw=>e2 i (by rw[w];exact e)
 exact h50 (d30 (by rw[a20 hb];exact e3) e4 (l80 e1)) e2
mutual
theorem t51:∀ {p:Pat}{d:D}{ρ ρ':Env},e60 p d ρ=some ρ'->∀ {ow:Nat->Option Æ}{σ:L2.St}{v:V}{R:L2.St->Hp->Prop},RW K H0 zE zA ow H ρ σ->Hd K (hw ow (hz zA H)) d v ->
  (∀ ow' σ',RW K H0 zE zA ow' H ρ' σ'->a10 (hw ow (hz zA H)) (hw ow' (hz zA H))->R σ' H)->gP K p v σ H R
 |.v i,d,ρ,ρ',e,ow,σ,v,R,r,hd,k=>by
  unfold e60 at e;cases e;unfold gP;exact k _ _ (r.m82 hd) (k20 ow i)
 |.tup ps,d,ρ,ρ',e,ow,σ,v,R,r,hd,k=>by
  unfold e60 at e;cases d with
  |tup l =>
   obtain⟨a,xs,rfl,h1,h2⟩:=hd.w10;unfold gP;exact⟨a,xs,rfl,(a30 zA H).sqT (a10.sqT i60 h1),by rw[h2.length];exact w50 e,i21 e r h2 k⟩
  |_=>cases e
 |.nil,_,_,_,e,_,_,_,_,_,_,_=>by unfold e60 at e;cases e
 |.cons _ _,_,_,_,e,_,_,_,_,_,_,_=>by unfold e60 at e;cases e
theorem i21:∀ {r:Pat}{l:List D}{ρ ρ':Env},bindL r l ρ=some ρ'->∀ {ow:Nat->Option Æ}{σ:L2.St}{vs:List V}{R:L2.St->Hp->Prop},RW K H0 zE zA ow H ρ σ->HdA K (hw ow (hz zA H)) l vs ->
  (∀ ow' σ',RW K H0 zE zA ow' H ρ' σ'->a10 (hw ow (hz zA H)) (hw ow' (hz zA H))->R σ' H)->gL K r vs σ H R
 |.nil,l,ρ,ρ',e,ow,σ,vs,R,r,hd,k=>by
  unfold bindL at e;cases l with
  |nil =>
   cases e;unfold gL;exact⟨hd.e70,k ow σ r (a10.refl _)⟩
  |cons x l=>cases e
 |.cons p q,l,ρ,ρ',e,ow,σ,vs,R,r,hd,k=>by
  unfold bindL at e;cases l with
  |nil=>cases e
  |cons x l =>
   obtain⟨ρ1,e1,e2⟩:=Ë.mp e;obtain⟨v,ws,rfl,h1,h2⟩:=hd.c30;unfold gL;exact⟨v,ws,rfl,t51 e1 r h1 λow' σ' r' sm=>i21 e2 r' (h2.same sm) λow2 σ2 r2 sm2=>k ow2 σ2 r2 (a10.trans sm sm2)⟩
 |.v _,_,_,_,e,_,_,_,_,_,_,_=>by unfold bindL at e;cases e
 |.tup _,_,_,_,e,_,_,_,_,_,_,_=>by unfold bindL at e;cases e
end
theorem i31(r:RW K H0 zE zA ow H ρ σ)(s:S):∃ ow',RW K H0 zE zA ow' H (j50 s ρ) σ/\a10 (hw ow (hz zA H)) (hw ow' (hz zA H))/\(l40 s=true∨∀ i,ow' i=none):=by
 unfold j50;rw[P70];cases hb:l40 s with
 |true=>exact⟨ow,r,a10.refl _,.inl rfl⟩|false=>exact⟨_,r.L30,w90 ow,.inr λ_=>rfl⟩
theorem t61{p:Pat}{s:S}{v:V}{ρ':Env}{R:L2.St->Hp->Prop}(r:RW K H0 zE zA ow H ρ σ)(x:Ext zA H H')(rv:RvS K zA H H' s v)(e:H80 p s (j50 s ρ)=some ρ')
  (k:∀ ow' σ',RW K H0 zE zA ow' H' ρ' σ'->a10 (hw ow (hz zA H)) (hw ow' (hz zA H'))->R σ' H'):gP K p v σ H' R:=by
 obtain⟨owk,r1,s1,b1⟩:=i31 r s;have r2:=r1.mono x;have s2:a10 (hw ow (hz zA H)) (hw owk (hz zA H')):=a10.trans s1 (c00 x);cases s with
 |d y =>
  have e':e60 p y (j50 (.d y) ρ)=some ρ':=by cases p <;> exact e
  refine t51 e' r2 ?_ λow' σ' r3 s3=>k ow' σ' r3 (a10.trans s2 s3);rcases b1 with b1 | b1
  ·exact w80 r2.y31 b1 rv
  ·have:owk=λ_=>none:=funext b1;subst this;rw[r20];exact rv
 |z =>
  cases p with
  |v i =>
   simp only[H80] at e;split at e
   ·cases e;unfold gP;exact k _ _ (r2.r92 (t:=.z) ⟨if_pos rfl,rv⟩) (a10.trans s2 (k20 owk i))
   ·cases e
  |_=>cases e
 |fr xs =>
  cases p with
  |v i =>
   simp only[H80] at e;split at e
   ·rename_i hi;cases e;unfold gP;obtain⟨a,ys,rfl,h1,h2,h3,h4⟩:=rv;refine k _ _ (r1.s02 x h1 h2 h3 ?_ hi) (a10.trans s1 (t41 x h1 i));rcases b1 with b1 | b1
    ·refine t90 (λj b q=>?_) b1 (h4.same (e00 a _));unfold ow1 at q;split at q
     ·cases q;exact⟨ys,d30 h3 h2⟩
     ·exact r2.y31 j b q
    ·refine h4.same λb o q=>?_;have hb:b≠a:=λw=>by subst w;unfold hide at q;rw[if_pos rfl] at q;cases q
     refine h50 (e00 a _ b o q) λj w=>?_;unfold ow1 at w;split at w
     ·cases w;exact hb rfl
     ·rw[b1 j] at w;cases w
   ·cases e
  |_=>cases e
end
end Q
namespace Q
open PySem L2 PySem.Spec PyProof.Rows
variable [TB:Tb]
theorem F91(h:j70 v=false):Â0 [tg] v env=pure none:=by
 cases tg <;> first | rfl | (cases v <;> first | (cases h;done) | rfl)
theorem G01(h:vs.all (Ó0 8)=true):Â0 [.Tuple ts k p] (.Tuple vs k' p') env=pure none:=by
 unfold Â0;simp only[h,if_true];split
 ·rfl
 ·split
  ·rfl
  ·split
   ·rfl
   ·rfl
def i41(look:Str->Option Ç9):Ê->Bool
 |.Name id _=>look id != some .local|_=>true
theorem G11(h:ts.any (i41 env.kindOf)=true):Â0 [.Tuple ts k p] (.Tuple vs k' p') env=pure none:=by
 have hl:∀ (l:Nat) (ts:List Ê),ts.any (i41 env.kindOf)=true->(ts.filterMap fun
   |.Name id pos=>if env.kindOf id == some .local&&pos.line == l then some id else none
   |_=>none).length < ts.length:=by
  intro l ts
  induction ts with
  |nil=>intro h;cases h
  |cons e r ih =>
   intro h;have le:=List.length_filterMap_le (fun
    |.Name id pos=>if env.kindOf id == some .local&&pos.line == l then some id else none
    |_=>none:Ê->Option Str) r
   rw[List.any_cons,Ã9] at h;rw[þ];split
   ·rw[Ò];omega
   ·rename_i b hb;rcases h with h | h
    ·exfalso;cases e with
     |Name id pos =>
      have h':(env.kindOf id != some .local)=true:=h;simp only[bne_iff_ne,ne_eq] at h';simp[h'] at hb
     |_=>cases hb
    ·have:=ih h;rw[Ò,Ò];omega
 unfold Â0;dsimp only;split
 ·rfl
 ·split
  ·rfl
  ·have:=hl ((ts.head?.map (·.pos.line)).getD 0) ts h;rw[if_pos];simp only[Ã9,bne_iff_ne,ne_eq];exact .inl (â this)
theorem T51{x y:Str}{a b:Ê}{px py pt pt2:Pos}{k k2:Nat}{env:Å0}(hb:env.blockKind=.function)(hx:env.kindOf x=some .local)(hy:env.kindOf y=some .local)(hxy:(x == y)=false)(hl:(py.line == px.line)=true)
  (ha:noStar a=true) (hb':noStar b=true) (hf:[a,b].all (Ó0 8)=false) (hc:[a,b].all (constantsAlone 8)=false) :
  Â0 [.Tuple [.Name x px,.Name y py] k pt] (.Tuple [a,b] k2 pt2) env=pure (some [x,y]):=by
 have hbk:(env.blockKind != .function)=false:=by rw[hb];rfl
 have e1:(x == x)=true:=beq_self_eq_true x;have hyx:(y == x)=false:=by
  cases h:y == x with
  |false=>rfl|true=>rw[beq_iff_eq] at h;subst h;rw[e1] at hxy;cases hxy
 have hl2:(Ê.Name x px).pos.line=px.line:=rfl;have hl3:(Ê.Name y py).pos.line=py.line:=rfl;have hl':py.line=px.line:=by simpa using hl
 unfold Â0;simp only[List.filterMap,List.head?,Æ9,Option.getD,hx,hy,hf,hc,hbk,hl2,hl'];simp[List.eraseDups,List.eraseDupsBy,List.eraseDupsBy.loop,hyx,hxy];intro h;rcases h with h | h
 ·cases a <;> first | (cases h;done) | (cases ha;done)
 ·cases b <;> first | (cases h;done) | (cases hb';done)
def I80:Ê->Bool
 |.ListComp ..=>false|.SetComp ..=>false|.DictComp ..=>false|_=>true
theorem k30(h:I80 v=true)(t:Option Ê):É4 v t n env=pure false:=by
 cases v <;> first | rfl | (cases h;done)
theorem x00(h:(match tg with | .Name ..=>true | _=>false)=false):É4 v (some tg) n env=pure false:=by
 cases v <;> first | rfl | (cases tg <;> first | rfl | (cases h;done))
theorem t71{el:Ê}{gs:List Comprehension}{sc:à}{p px:Pos}{t:Str}{n:Nat}{env:Å0}:∃ b,É4 (.ListComp el gs sc p) (some (.Name t px)) n env=pure b:=⟨_,rfl⟩
structure XS(lm:Bool)(X:Cx)(G:Gs)(E:XK)(N:List Str)(sc:Scope)(cn:List Str):Prop extends XI lm X G E N sc where
 sco:X.env.scope=sc
 fnk:sc.kind=.function
 own:PassesOwn (model X.prog X.w) X.A X.env X.xe
 can:C90 X E
 fnx:∀ x,X.fn x=true
 cls:∀ c x,cn[c]?=some x->X.mg x=some (.ref (G.cls c))/\PySem.W.excIn X.K (G.cls c) [.type "ValueError",.type "Exception",.type "BaseException",.type "object"] "ValueError.__new__"=true
def x10(sc:à)(x:Str):Bool:=sc.names.lookup x == some .local || sc.names.lookup x == some .cell
section
variable {lm:Bool}{X:Cx}{G:Gs}{E:XK}{N:List Str}{sc:à}{cn:List Str}{H0:Hp}{zE:Option Æ}
theorem XS.loc(x:XS lm X G E N sc cn):s91 X N (x10 sc):=by
 refine⟨x.hN,x.nd,λy h=>?_,λy _=>.inl (x.fnx y),x.calm⟩;unfold x10 at h;rw[Ã9,beq_iff_eq,beq_iff_eq] at h;rw[x.sco];exact h
theorem XS.bk(x:XS lm X G E N sc cn):X.env.blockKind=.function:=by
 unfold Env.blockKind;rw[x.sco,x.fnk];rfl
theorem PS.imp{st:À0}{t t':TS}(h:PS X st t)(i:∀ D σ H,t' D σ H->t D σ H):PS X st t':=λpins s σ H D I q=>h pins s σ H D I (i _ _ _ q)
theorem PSs.imp{st:List À0}{t t':TS}(h:PSs X st t)(i:∀ D σ H,t' D σ H->t D σ H):PSs X st t':=λpins s σ H D I q=>h pins s σ H D I (i _ _ _ q)
theorem h92:PSs X [] (tX X.K G E H0 zE .nil):=PSs.imp u40 λD σ H q=>by
 obtain⟨zA,ow,ρ,z,r,rw,st,e,po⟩:=q;cases e;exact po zA ow σ H rw st (a10.refl _)
theorem i02{s r:Sm}{st:À0}{rest:List À0}(h1:PS X st (tX X.K G E H0 zE s))(h2:PSs X rest (tX X.K G E H0 zE r)):PSs X (st::rest) (tX X.K G E H0 zE (.seq s r)):=PSs.imp (d50 h1 h2) λD σ H q=>by
 obtain⟨zA,ow,ρ,z,rr,rw,st,e,po⟩:=q;have e0:M.bind (ex G.F zE.isNone s ρ) (λo=>match o with | .nx ρ=>ex G.F zE.isNone r ρ | .rt s=>M.ret (.rt s)) z=some rr:=e
 rcases M.bind_some e0 with ⟨o,z1,e1,e2⟩ | ⟨c,z1,e1,e2⟩
 ·refine⟨zA,ow,ρ,z,_,rw,st,e1,?_⟩;cases o with
  |nx ρ1=>exact λzA' ow' σ' H' rw' st' sm=>⟨zA',ow',ρ1,z1,rr,rw',st',e2,po.mono sm⟩|rt s=>cases e2;exact po
 ·subst e2;exact⟨zA,ow,ρ,z,_,rw,st,e1,po⟩
theorem y51{p:Pat}{e:Ex}{D:Ends}{σ:L2.St}{H:Hp}(q:tX X.K G E H0 zE (.set p e) D σ H):L71 (tI X.K G E e) (gP X.K p) D σ H:=by
 obtain⟨zA,ow,ρ,z,rr,rw,st,ee,po⟩:=q;refine g30 rw.y00 st ee (po.ers rw) λl z1 e1=>?_;obtain⟨s,hs,e2⟩:=M.a00 e1;refine⟨s,s50 hs,λv H1 x1 st1 rv=>?_⟩;obtain⟨ρ',hb,e3⟩:=M.a00 e2;cases e3;exact t61 rw x1 rv hb λow' σ' r' sm=>po zA ow' σ' H1 r' st1 sm
theorem s12{K:À}{i:Nat}:gP K (.v i)=A80 i:=by unfold gP;rfl
theorem i22(x:XS lm X G E N sc cn){i:Nat}{e:Ex}{y:Str}{v:Ê}{px pos:Pos}(hi:N[i]?=some y)(hl:x10 sc y=true)(g:b00 X G E e v)
  (hc:∀ elt gs csc q,v=.ListComp elt gs csc q->∃ tg iter ifs,gs=[⟨tg,iter,ifs,0⟩]/\z20 X G E e elt tg iter ifs csc) (hno:∀ a b c d,v≠.SetComp a b c d)
  (hnd:∀ a b c d f,v≠.DictComp a b c d f) :
  PS X (.Assign [.Name y px] v pos) (tX X.K G E H0 zE (.set (.v i) e)):=by
 have L:=x.loc;refine PS.imp (t:=L71 (tI X.K G E e) (A80 i)) ?_ λD σ H q=>by rw[← s12 (K:=X.K)];exact y51 q
 have h1:X.N.Nodup:=by rw[x.hN];exact x.nd
 have h2:X.N[i]?=some y:=by rw[x.hN];exact hi
 by_cases hv:∃ elt gs csc q,v=.ListComp elt gs csc q
 ·obtain⟨elt,gs,csc,q,rfl⟩:=hv;obtain⟨b,hb⟩:=t71 (el:=elt) (gs:=gs) (sc:=csc) (p:=q) (px:=px) (t:=y) (n:=pos.line) (env:=X.env);cases b with
  |false=>exact n50 h1 h2 (L.lc y hl) g.pe hb (L.fn y hl)
  |true =>
   obtain⟨tg,iter,ifs,rfl,own,capt,wi,gg,tt,te,k1,k2,k3,k4,k5,k6,k7⟩:=hc elt gs csc q rfl;refine PS.imp (B51 h1 h2 (L.lc y hl) hb x.calm k1 k2 k3 k4 k5 k6 (L.fn y hl)) λD σ H q=>k7 _ _ _ q
 ·exact n50 h1 h2 (L.lc y hl) g.pe (k30 (by cases v <;> first | rfl | exact absurd rfl (hno _ _ _ _) | exact absurd rfl (hnd _ _ _ _ _) | exact absurd ⟨_,_,_,_,rfl⟩ hv) _) (L.fn y hl)
theorem i51(x:XS lm X G E N sc cn)(hp:h70 N (x10 sc) p tg=true)(g:b00 X G E e v)(ht:j70 tg=true)(hv:Â0 [tg] v X.env=pure none) :
  PS X (.Assign [tg] v pos) (tX X.K G E H0 zE (.set p e)):=by
 refine PS.imp (Y50 g.pe (f91 x.loc hp) ?_ hv ?_) λD σ H q=>y51 q
 ·exact x00 (by cases tg <;> first | rfl | (cases ht;done))
 ·cases tg <;> first | rfl | (cases ht;done)
theorem i32(x:XS lm X G E N sc cn){i j:Nat}{ea eb:Ex}{a b:Ê}{y w:Str}{px py pt pt2 pos:Pos}{k k2:Nat}(hi:N[i]?=some y)(hj:N[j]?=some w)(hyw:(y == w)=false)(hy:sc.names.lookup y=some .local)(hw':sc.names.lookup w=some .local)
  (g:Good X G E (.cons ea (.cons eb .nil)) [a,b]) (hs:Â0 [.Tuple [.Name y px,.Name w py] k pt] (.Tuple [a,b] k2 pt2) X.env=pure (some [y,w])) :
  PS X (.Assign [.Tuple [.Name y px,.Name w py] k pt] (.Tuple [a,b] k2 pt2) pos) (tX X.K G E H0 zE (.set (.tup (.cons (.v i) (.cons (.v j) .nil))) (.tup (.cons ea (.cons eb .nil))))):=by
 have hij:i≠j:=λh=>by
  subst h;rw[hi] at hj;cases hj;rw[beq_self_eq_true] at hyw;cases hyw
 refine PS.imp (L81 x.calm (by rw[x.hN];exact x.nd) (by rw[x.hN];exact hi) (by rw[x.hN];exact hj) hij (by rw[x.sco];exact hy) (by rw[x.sco];exact hw') (g.args rfl).1 hs rfl) λD σ H q=>?_
 obtain⟨zA,ow,ρ,z,rr,rw,st,ee,po⟩:=q;have e0:M.bind (M.bind (ev G.F (.cons ea (.cons eb .nil)) ρ) λl=>M.bind (M.of (plA l)) λds=>if ds.length<=most then M.ret [S.d (.tup ds)] else M.no) (λl=>M.bind (M.of (one l)) λs=>M.bind (M.of (H80 (.tup (.cons (.v i) (.cons (.v j) .nil))) s (j50 s ρ))) λρ=>M.ret (O.nx ρ)) z=some rr:=ee;rcases M.bind_some e0 with ⟨l0,z0,e1,e2⟩ | ⟨c,z1,e1,e2⟩
 ·rcases M.bind_some e1 with ⟨l,z1,e3,e4⟩ | ⟨c,z1,e3,e4⟩
  ·obtain⟨ds,hds,e5⟩:=M.a00 e4;split at e5
   ·cases e5;obtain⟨s,hs',e6⟩:=M.a00 e2;cases hs';obtain⟨ρ',hb,e7⟩:=M.a00 e6;cases e7;refine⟨zA,ρ,z,_,rw.y00,st,e3,λvs H1 x1 st1 rvs=>?_⟩;have hd:=D60 rvs hds;obtain⟨owk,r1,s1,b1⟩:=i31 rw (.d (.tup ds));have hb':bindL (.cons (.v i) (.cons (.v j) .nil)) ds (j50 (.d (.tup ds)) ρ)=some ρ':=by
     have:e60 (.tup (.cons (.v i) (.cons (.v j) .nil))) (.tup ds) (j50 (.d (.tup ds)) ρ)=some ρ':=hb;unfold e60 at this;exact this
    have r2:=r1.mono x1;have hd2:HdA X.K (hw owk (hz zA H1)) ds vs:=by
     rcases b1 with b1 | b1
     ·exact t90 r2.y31 (by simpa [l40,bare] using b1) hd
     ·have:owk=λ_=>none:=funext b1;subst this;rw[r20];exact hd
    have:=i21 hb' (R:=D.nx) r2 hd2 λow' σ' r' sm=>po zA ow' σ' H1 r' st1 (a10.trans s1 (a10.trans (c00 x1) sm));unfold gL at this;obtain⟨v,vr,rfl,this⟩:=this;unfold gP gL at this;obtain⟨u,ur,rfl,this⟩:=this;unfold gP gL at this;obtain⟨rfl,this⟩:=this;exact⟨v,u,rfl,this⟩
   ·cases e5
  ·cases e4
 ·subst e2;rcases M.bind_some e1 with ⟨l,z2,e3,e4⟩ | ⟨c,z2,e3,e4⟩
  ·obtain⟨ds,hds,e5⟩:=M.a00 e4;split at e5 <;> cases e5
  ·cases e4;exact⟨zA,ρ,z,_,rw.y00,st,e3,po.er_ rw⟩
theorem y61{s t:S}(h:noS s=some t):s=t/\t≠.z:=by
 cases s with
 |z=>cases h
 |d _=>cases h;exact⟨rfl,λh=>nomatch h⟩
 |fr _=>cases h;exact⟨rfl,λh=>nomatch h⟩
theorem T61(x:XS lm X G E N sc cn){i:Nat}{n:Str}{p pos:Pos}(h1:N[i]?=some n)(h2:b30 n=true):PS X (.Return (some (.Name n p)) pos) (tX X.K G E H0 zE (.ret (.var i))):=by
 unfold b30 at h2;simp only[Â,î] at h2;refine PS.imp (y50 (e20 (i:=i) (by rw[x.hN];exact h1) (x.vis n (Ü h1)) h2.1 h2.2)) λD σ H q=>?_
 obtain⟨zA,ow,ρ,z,rr,rw,st,ee,po⟩:=q;have e0:(match ρ[i]? with | some (some s)=>M.bind (M.of (noS s)) λs=>M.ret (O.rt s) | _=>M.no) z=some rr:=ee
 cases hs:ρ[i]? with
 |none=>rw[hs] at e0;cases e0
 |some o =>
  cases o with
  |none=>rw[hs] at e0;cases e0
  |some s =>
   rw[hs] at e0;obtain⟨t,ht,e1⟩:=M.a00 e0;cases e1;obtain⟨rfl,nz⟩:=y61 ht;obtain⟨v,k1,k2⟩:=rw.r82 nz hs;exact⟨v,k1,po v H nz rw.ext (K21 rw.zok st) k2⟩
theorem i42(hv:∀ i,e≠.var i)(g:b00 X G E e v):PS X (.Return (some v) pos) (tX X.K G E H0 zE (.ret e)):=by
 refine PS.imp (y50 g.pe) λD σ H q=>?_;obtain⟨zA,ow,ρ,z,rr,rw,st,ee,po⟩:=q;have e0:M.bind (ev G.F e ρ) (λl=>M.bind (M.of ((one l).bind noS)) λs=>M.ret (O.rt s)) z=some rr:=by
  cases e <;> first | exact ee | exact absurd rfl (hv _)
 refine g30 rw.y00 st e0 (po.ers rw) λl z1 e1=>?_;obtain⟨t,ht,e2⟩:=M.a00 e1;cases e2;obtain⟨s,hs,hn⟩:=Ë.mp ht;obtain⟨rfl,nz⟩:=y61 hn;exact⟨s,s50 hs,λv H1 x1 st1 rv=>po v H1 nz (i11 rw.ext rw.zok x1) (K21 rw.zok st1) (rw.out nz x1 rv)⟩
theorem s22(g:b00 X G E c ce)(hn:∀ t a b p,ce≠.IfExp t a b p)(ha:PSs X a (tX X.K G E H0 zE t))(hb:PSs X b (tX X.K G E H0 zE u)) :
  PS X (.If ce a b pos) (tX X.K G E H0 zE (.iff c t u)):=by
 refine PS.imp (Y40 (g.pt hn) ha hb) λD σ H q=>?_;obtain⟨zA,ow,ρ,z,rr,rw,st,ee,po⟩:=q;refine I20 rw.y00 st ee (po.ers rw) λb z1 e1 H1 x1 st1=>?_;have r1:=rw.mono x1;have sm:a10 (hw ow (hz zA H)) (hw ow (hz zA H1)):=c00 x1;cases b with
 |true=>exact⟨zA,ow,ρ,z1,rr,r1,st1,e1,po.mono sm⟩|false=>exact⟨zA,ow,ρ,z1,rr,r1,st1,e1,po.mono sm⟩
theorem i52(g:b00 X G E e v)(h:I80 v=true):PS X (.Expr v pos) (tX X.K G E H0 zE (.exp e)):=by
 refine PS.imp (A70 g.pe (k30 h none)) λD σ H q=>?_;obtain⟨zA,ow,ρ,z,rr,rw,st,ee,po⟩:=q;have e0:M.bind (ev G.F e ρ) (λl=>M.bind (M.of (one l)) λ_=>M.ret (O.nx ρ)) z=some rr:=ee;refine g30 rw.y00 st e0 (po.ers rw) λl z1 e1=>?_;obtain⟨s,hs,e2⟩:=M.a00 e1;cases e2;exact⟨s,s50 hs,λv H1 x1 st1 rv=>po zA ow σ H1 (rw.mono x1) st1 (c00 x1)⟩
theorem x_raise(x:XS lm X G E N sc cn){c:Nat}{n:Str}{y:Str}{k:Nat}{p1 p2 p3 p4:Pos}(hc:cn[c]?=some n)(hg:glob sc n=true):PS X (.Raise (some (.Call (.Name n p1) [.Constant (.str y) k p2] [] p3)) none p4) (tX X.K G E H0 zE (.rais c)):=by
 obtain⟨k1,k2,_⟩:=c90 hg;obtain⟨m1,m2⟩:=x.cls c n hc;refine PS.imp (q71 x.can x.calm (x.glb n k1) m1 m2 (c40 v21 h80) k2 rfl rfl) λD σ H q=>?_;obtain⟨zA,ow,ρ,z,rr,rw,st,ee,po⟩:=q;cases ee;exact⟨by show 1<=sizeLine;decide,λe hn=>po e H rw.ext (K21 rw.zok st) hn⟩
end
section
variable {K:À}{H0 H H':Hp}{zE zA:Option Æ}{ow:Nat->Option Æ}{ρ:Env}{σ:L2.St}
theorem f70(e:ow0 ow i j=some a):j≠i/\ow j=some a:=by
 unfold ow0 at e;split at e
 ·cases e
 ·rename_i n;exact⟨n,e⟩
theorem u00:ow0 ow i i=none:=if_pos rfl
theorem i61(h:j≠i):ow0 ow i j=ow j:=if_neg h
theorem t81{ρ:Env}{j:Nat}{s:S}(h:(H70 ρ)[j]?=some (some s)):ρ[j]?=some (some s)/\s≠.z:=by
 unfold H70 at h;rw[Ù] at h;obtain⟨o,e1,e2⟩:=Í.mp h;cases o with
 |none=>cases e2
 |some t =>
  cases t with
  |z=>cases e2
  |d x=>cases e2;exact⟨e1,λh=>nomatch h⟩
  |fr x=>cases e2;exact⟨e1,λh=>nomatch h⟩
theorem G21{j:Nat}(h:ρ[j]?=some (some (.fr xs))):(H70 ρ)[j]?=some (some (.fr xs)):=by
 unfold H70;rw[Ù,h];rfl
theorem RW.s32(r:RW K H0 none zA ow H ρ σ){i:Nat}(x:Ext zA H H')(hn:H a=none)(za:zA≠some a)(hl:H' a=some (.lst ys)) :
  RW K H0 none (some a) (ow0 ow i) H' ((H70 ρ).set i (some .z)) (σ.set i (some (.ref a)))/\a10 (hw ow (hz zA H)) (hw (ow0 ow i) (hz (some a) H')):=by
 have r':=r.mono x;have old:∀ j b,ow j=some b->b≠a:=λj b e q=>by
  obtain⟨zs,h1⟩:=r.lst j b e;rw[q,hn] at h1;cases h1
 have sm:a10 (hw ow (hz zA H)) (hw (ow0 ow i) (hz (some a) H')):=λb o e=>by
  obtain⟨e1,e2⟩:=w70 e;have hb:b≠a:=λq=>by
   have e3:H b=some o:=(l50 e1).1;rw[q,hn] at e3;cases e3
  exact h50 (d30 (l50 (x b o e1)).1 (λq=>by cases q;exact hb rfl) (l80 e1)) λj q=>e2 j (f70 q).2
 have dl:(H70 ρ).length=ρ.length:=by unfold H70;rw[É]
 refine⟨⟨by rw[À6,À6,dl];exact r.len,λj k b h1 h2=>r.inj j k b (f70 h1).2 (f70 h2).2,λj b h1 q=>?_,λj b h1=>?_,λj s e=>?_,r'.ext,.inr ⟨rfl,λb q=>?_⟩,λj b h1=>r.new j b (f70 h1).2⟩,sm⟩
 ·cases q;exact old j _ (f70 h1).2 rfl
 ·obtain⟨n,h2⟩:=f70 h1;obtain⟨xs,h3⟩:=r.own j b h2;exact⟨xs,by rw[Ö (À3 n)];exact G21 h3⟩
 ·rcases getElem?_set' e with ⟨rfl,e1,hlt⟩ | ⟨n,e1⟩
  ·cases e1;exact⟨.ref a,ß (by rw[← r.len,← dl];exact hlt),u00,a,rfl,rfl⟩
  ·obtain⟨e1,nz⟩:=t81 e1;obtain⟨w,h1,h2⟩:=r.wor j s e1;refine⟨w,by rw[Ö (À3 n)];exact h1,?_⟩
   cases s with
   |d y=>exact⟨by rw[i61 n];exact h2.1,h2.2.same sm⟩|z=>exact absurd rfl nz
   |fr xs =>
    obtain⟨b,zs,k1,rfl,k3,k4⟩:=h2;exact⟨b,zs,by rw[i61 n];exact k1,rfl,x.at k3 (r.zne j b k1),k4.same sm⟩
 ·cases q;exact(r.young hn za).1
theorem RW.plain(r:RW K H0 zE zA ow H ρ σ)(i:Nat):RW K H0 zE zA (ow0 ow i) H (ρ.set i ((ρ[i]?.getD none).map plS)) σ:=by
 have sm:=k20 (H:=hz zA H) ow i;refine⟨by rw[À6];exact r.len,λj k b h1 h2=>r.inj j k b (f70 h1).2 (f70 h2).2,λj b h1=>r.zne j b (f70 h1).2,λj b h1=>?_,λj s e=>?_,r.ext,r.zok,λj b h1=>r.new j b (f70 h1).2⟩
 ·obtain⟨n,h2⟩:=f70 h1;obtain⟨xs,h3⟩:=r.own j b h2;exact⟨xs,by rw[Ö (À3 n)];exact h3⟩
 ·rcases getElem?_set' e with ⟨rfl,e1,hlt⟩ | ⟨n,e1⟩
  ·cases hs:ρ[j]? with
   |none=>rw[hs] at e1;cases e1
   |some o =>
    rw[hs] at e1;cases o with
    |none=>cases e1
    |some s0 =>
     cases e1;obtain⟨w,h1,h2⟩:=r.wor j s0 hs;refine⟨w,h1,?_⟩;cases s0 with
     |d y=>exact⟨u00,h2.2.same sm⟩|z=>exact⟨u00,h2.2⟩
     |fr xs =>
      obtain⟨b,zs,k1,rfl,k3,k4⟩:=h2;refine⟨u00,Hd.lst (h50 (d30 k3 (r.zne j b k1)) λk q=>?_) (k4.same sm)⟩;obtain⟨q1,q2⟩:=f70 q;exact q1 (r.inj k j b q2 k1)
  ·obtain⟨w,h1,h2⟩:=r.wor j s e1;exact⟨w,h1,h2.move (i61 n) sm λ_ _=>rfl⟩
end
theorem HdA.eraseIdx{K:À}{H:Hp}:∀ {ds:List D}{vs:List V} (n:Nat),HdA K H ds vs->HdA K H (ds.eraseIdx n) (vs.eraseIdx n)
 |[],_,n,h=>by rw[h.e70];exact .nil
 |d::ds,_,0,h=>by
  obtain⟨x,r,rfl,h1,h2⟩:=h.c30;exact h2
 |d::ds,_,n + 1,h=>by
  obtain⟨x,r,rfl,h1,h2⟩:=h.c30;exact .cons h1 (HdA.eraseIdx n h2)
section
variable {lm:Bool}{X:Cx}{G:Gs}{E:XK}{N:List Str}{sc:à}{cn:List Str}{H0:Hp}{zE:Option Æ}
theorem i71{α β:Type}{R:α->β->Prop}{a:α}{vs:List β}(h:À1 R [a] vs):∃ v,vs=[v]/\R a v:=by
 cases h with
 |cons h1 h2=>cases h2;exact⟨_,rfl,h1⟩
theorem c50.a20(st:c50 zA z H)(n:zA≠some a)(h:H a=some (.lst xs)):c50 zA z (upd H a o):=by
 refine⟨?_,λp hp=>Tab.upd (st.tab p hp) h⟩;have st:=st.zat;cases zA with
 |none=>cases z <;> exact st
 |some b =>
  cases z with
  |none=>exact st
  |some p =>
   have hb:b≠a:=λq=>n (by rw[q])
   exact(L2.a20 hb).trans st
theorem R30(h:ownAt ρ i=some xs):ρ[i]?=some (some (.fr xs)):=by
 unfold ownAt at h;split at h
 ·rename_i h1;cases h;exact h1
 ·cases h
theorem X10{K:À}{zA:Option Æ}{H0 H:Hp}{s:S}{v:V}{x:D}(h:RvS K zA H0 H s v)(e:plD s=some x):Hd K (hz zA H) x v:=h.pl.d_ e
theorem i62(x:XS lm X G E N sc cn){i:Nat}{n:Str}{e:Ex}{v:Ê}{p apos cpos pos:Pos}(h1:N[i]?=some n)(h2:b30 n=true)(ns:noStar v=true)(g:b00 X G E e v)(hl:(apos.endLine == cpos.line)=true) :
  PS X (.Expr (.Call (.Attribute (.Name n p) "append" apos) [v] [] cpos) pos) (tX X.K G E H0 zE (.app i e)):=by
 unfold b30 at h2;simp only[Â,î] at h2;have ga:Good X G E (.cons e .nil) [v]:=⟨v,[],rfl,ns,g,rfl,rfl⟩;have hs:=c80 ns [] X.env;refine PS.imp (A70 (o51 Æ8 Ê8 Ê7 u70 (e20 (i:=i) (by rw[x.hN];exact h1) (x.vis n (Ü h1)) h2.1 h2.2) (ga.args rfl).1 rfl (by rw[hs];rfl) hl hs rfl) (k30 rfl none)) λD σ H q=>?_
 obtain⟨zA,ow,ρ,z,rr,rw,st,ee,po⟩:=q;obtain⟨xs,hx,e1⟩:=M.a00 ee;have ho:=R30 hx;obtain⟨w,k1,a,ys,k2,rfl,k3,k4⟩:=rw.wor i _ ho;refine⟨_,k1,.inl ⟨rfl,ys,SqL.of k3⟩,?_⟩;have e2:M.bind (ev G.F (.cons e .nil) ρ) (λm=>M.bind (M.of (pl m)) λx=>if bare x=true/\xs.length < most then M.ret (O.nx (ρ.set i (some (.fr (xs++[x]))))) else M.no) z=some rr∨∃ c z1,ev G.F e ρ z=some (.er c z1)/\rr=.er c z1:=by
  rcases M.bind_some e1 with ⟨l,z1,e3,e4⟩ | ⟨c,z1,e3,e4⟩
  ·obtain⟨y,hy,e5⟩:=M.a00 e4;obtain⟨s,rfl,hs⟩:=d90 hy;refine .inl ?_;show M.bind (M.bind (ev G.F e ρ) λx=>M.bind (M.of (one x)) λs=>M.bind (ev G.F .nil ρ) λy=>M.ret (s::y)) _ z=some rr;have b:∀ {α β:Type}{m:M α}{f:α->M β}{z:Z}{a:α}{z1:Z},m z=some (.ok a z1)->M.bind m f z=f a z1:=λh=>by unfold M.bind;rw[h]
   rw[b (a:=[s]) (z1:=z1) (by rw[b e3];rfl)]
   show M.bind (M.of (pl _)) _ _=_;rw[hy];exact e5
  ·exact .inr ⟨c,z1,e3,e4⟩
 rcases e2 with e2 | ⟨c,z1,e3,rfl⟩
 ·refine W70 rw.y00 st e2 (po.ers rw) λl z1 e3 vs H1 x1 st1 rvs=>?_;obtain⟨y,hy,e5⟩:=M.a00 e3;obtain⟨s,rfl,hs⟩:=d90 hy;split at e5
  ·rename_i hb;cases e5;obtain⟨u,rfl,ru⟩:=i71 rvs;have r1:=rw.mono x1;have k3':=x1.at k3 (rw.zne i a k2);have k4':HdA X.K (hw ow (hz zA H1)) xs ys:=k4.same (c00 x1);have hd:=w80 r1.y31 hb.1 (X10 ru hs);refine⟨a,ys,u,rfl,rfl,k3',Ñ (by rw[k4.length];exact hb.2) (e10 (È _)),?_⟩
   refine po zA ow σ _ (r1.upd k2 (k4'.append (.cons hd .nil))) ?_ (a10.trans (c00 x1) (E30 k2));exact st1.a20 (rw.zne i a k2) k3'
  ·cases e5
 ·refine⟨zA,ρ,z,.er c z1,rw.y00,st,?_,po.er_ rw⟩;show M.bind (ev G.F e ρ) _ z=_;simp only[M.bind,e3]
theorem i72(x:XS lm X G E N sc cn){i:Nat}{n:Str}{e ix:Ex}{v w:Ê}{p tp pos:Pos}(h1:N[i]?=some n)(h2:b30 n=true)(g:b00 X G E e v)(gi:b00 X G E ix w)(hw':w30 w=true) :
  PS X (.Assign [.Subscript (.Name n p) w tp] v pos) (tX X.K G E H0 zE (.sti i ix e)):=by
 unfold b30 at h2;simp only[Â,î] at h2;refine PS.imp (Y50 g.pe (v51 (e20 (i:=i) (by rw[x.hN];exact h1) (x.vis n (Ü h1)) h2.1 h2.2) gi.pe set_list (by intro u;cases w <;> first | rfl | (cases hw';done))) (show É4 v (some (.Subscript (.Name n p) w tp)) pos.line X.env=pure false from x00 rfl) (by cases v <;> rfl)) λD σ H q=>?_
 obtain⟨zA,ow,ρ,z,rr,rw,st,ee,po⟩:=q;refine g30 rw.y00 st ee (po.ers rw) λl z1 e1=>?_;obtain⟨y,hy,e2⟩:=M.a00 e1;obtain⟨s,rfl,hs⟩:=d90 hy;refine⟨s,rfl,λu H1 x1 st1 rv=>?_⟩;obtain⟨xs,hx,e3⟩:=M.a00 e2;have ho:=R30 hx;have r1:=rw.mono x1;obtain⟨w',k1,a,ys,k2,rfl,k3,k4⟩:=r1.wor i _ ho;refine⟨_,k1,?_⟩;refine g30 r1.y00 st1 e3 (po.ers r1) λl2 z2 e4=>?_;obtain⟨j,hj,e5⟩:=M.a00 e4;obtain⟨dj,hj1,hj2⟩:=Ë.mp hj;obtain⟨s2,rfl,hs2⟩:=d90 hj1;refine⟨s2,rfl,λu2 H2 x2 st2 rv2=>?_⟩;obtain⟨xs2,hx2,e6⟩:=M.a00 e5;split at e6
 ·rename_i hb;cases e6;have hdj:u2=.int j:=by
   have:=X10 rv2 hs2;cases dj <;> first | (cases hj2;exact this.i50) | (cases hj2;done)
  unfold H90 at hx2;obtain⟨m,hm1,rfl⟩:=Í.mp hx2;have r2:=r1.mono x2;have k4':HdA X.K (hw ow (hz zA H2)) xs ys:=k4.same (c00 x2);have hd:=w80 r2.y31 hb ((X10 rv hs).same x2);refine⟨a,ys,j,m,rfl,hdj,x2.at k3 (rw.zne i a k2),by rw[k4.length];exact hm1,?_⟩
  refine po zA ow σ _ (r2.upd k2 (k4'.set m hd)) (st2.a20 (rw.zne i a k2) (x2.at k3 (rw.zne i a k2))) (a10.trans (c00 (x1.trans x2)) (E30 k2))
 ·cases e6
theorem T71(x:XS lm X G E N sc cn){i f:Nat}{as:Ex}{y:Str}{v:Ê}{px pos:Pos}(hi:N[i]?=some y)(hl:x10 sc y=true)(g:b00 X G E (.call f as) v)(hv:I80 v=true) :
  PS X (.Assign [.Name y px] v pos) (tX X.K G E H0 zE (.newz i f as)):=by
 have L:=x.loc;refine PS.imp (n50 (i:=i) (by rw[x.hN];exact x.nd) (by rw[x.hN];exact hi) (L.lc y hl) g.pe (k30 hv _) (L.fn y hl)) λD σ H q=>?_
 obtain⟨zA,ow,ρ,z,rr,rw,st,ee,po⟩:=q;refine g30 rw.y00 st ee (po.ers rw) λl z1 e1=>?_;have e2:e31 zE.isNone ρ i l=some rr:=e1;unfold e31 at e2;split at e2
 ·split at e2
  ·rename_i m b hz';cases e2;have zn:zE=none:=by
    cases zE with
    |none=>rfl|some _=>cases hz'
   subst zn;refine⟨_,rfl,λu H1 x1 st1 rv=>?_⟩;obtain⟨a,ys,rfl,k1,k2,k3,k4⟩:=rv;obtain⟨v1,v2,rfl,h3,h4⟩:=k4.two;cases h3.i50;cases h4.bl_;obtain⟨r1,sm⟩:=rw.s32 (i:=i) x1 k1 k2 k3;exact po (some a) _ _ H1 r1 ⟨k3,st1.tab⟩ sm
  ·cases e2
 ·cases e2
theorem T81(x:XS lm X G E N sc cn){i:Nat}{n:Str}{e:Ex}{v:Ê}{c:Nat}{p q tp pos:Pos}(h1:N[i]?=some n)(h2:b30 n=true)(g:b00 X G E e v) :
  PS X (.Assign [.Subscript (.Name n p) (.Constant (.int 0) c q) tp] v pos) (tX X.K G E H0 zE (.zset i e)):=by
 unfold b30 at h2;simp only[Â,î] at h2;refine PS.imp (Y50 g.pe (v51 (e20 (i:=i) (by rw[x.hN];exact h1) (x.vis n (Ü h1)) h2.1 h2.2) F50 set_list (by intro u;rfl)) (show É4 v (some (.Subscript (.Name n p) (.Constant (.int 0) c q) tp)) pos.line X.env=pure false from x00 rfl) (by cases v <;> rfl)) λD σ H q=>?_
 obtain⟨zA,ow,ρ,z,rr,rw,st,ee,po⟩:=q;refine g30 rw.y00 st ee (po.ers rw) λl z1 e1=>?_;obtain⟨y,hy,e2⟩:=M.a00 e1;obtain⟨dy,hy1,hy2⟩:=Ë.mp hy;obtain⟨s,rfl,hs⟩:=d90 hy1;refine⟨s,rfl,λu H1 x1 st1 rv=>?_⟩;have e3:e41 ρ y ρ[i]? z1=some rr:=e2;unfold e41 at e3;split at e3
 ·rename_i p' hsl;cases e3;have r1:=rw.mono x1;obtain⟨w,k1,k2,a,rfl,rfl⟩:=r1.wor i .z hsl;have hu:u=.int y:=by
   have:=X10 rv hs;cases dy <;> first | (cases hy2;exact this.i50) | (cases hy2;done)
  subst hu;have st':H1 a=some (.lst [.int p'.1,.bl p'.2]):=st1.zat;refine⟨_,k1,a,[.int p'.1,.bl p'.2],0,0,rfl,rfl,st',rfl,?_⟩;have x2:Ext (some a) H1 (upd H1 a (.lst [.int y,.bl p'.2])):=by
   refine⟨λb o h=>?_,λb ps h=>⟨ps,by rw[a20 (λz=>by rw[z,st'] at h;cases h)];exact h⟩⟩
   obtain⟨h3,h4⟩:=l50 h;exact d30 (by rw[a20 (λz=>h4 (by rw[z]))];exact h3) h4 (l80 h)
  exact po (some a) ow σ _ (r1.mono x2) ⟨a90,λp hp=>Tab.upd (st1.tab p hp) st'⟩ (a10.trans (c00 x1.same) (c00 x2.same))
 ·cases e3
theorem i82(x:XS lm X G E N sc cn)(g:b00 X G E c ce)(hn:∀ t a b p,ce≠.IfExp t a b p)(hb:PSs X body (tX X.K G E H0 zE b)):PS X (.While ce body [] pos) (tX X.K G E H0 zE (.whl c b)):=by
 refine PS.imp (n61 x.own (g.pt hn) hb) λD σ H q=>?_;obtain⟨zA,ow,ρ,z,rr,rw,st,ee,po⟩:=q;refine⟨λm σ H=>∃ zA ow ρ z r,RW X.K H0 zE zA ow H ρ σ/\c50 zA z H/\x11 (ev G.F c) (ex G.F zE.isNone b) m ρ z=some r/\i70 X.K G E H0 zE (hw ow (hz zA H)) D r,⟨J91,zA,ow,ρ,z,rr,rw,st,ee,po⟩,?_⟩;rintro m σ H ⟨zA,ow,ρ,z,rr,rw,st,ee,po⟩;cases m with
 |zero=>cases ee
 |succ m =>
  refine I20 rw.y00 st ee (po.ers rw) λk z1 e1 H1 x1 st1=>?_;have r1:=rw.mono x1;have sm:a10 (hw ow (hz zA H)) (hw ow (hz zA H1)):=c00 x1;cases k with
  |false =>
   cases e1;exact po zA ow σ H1 r1 st1 sm
  |true =>
   rw[if_pos rfl];have e2:M.bind (ex G.F zE.isNone b ρ) (λo=>match o with | .nx ρ=>x11 (ev G.F c) (ex G.F zE.isNone b) m ρ | .rt s=>M.ret (.rt s)) z1=some rr:=e1
   refine⟨λσ' H'=>∃ zA ow ρ z r,RW X.K H0 zE zA ow H' ρ σ'/\c50 zA z H'/\x11 (ev G.F c) (ex G.F zE.isNone b) m ρ z=some r/\i70 X.K G E H0 zE (hw ow (hz zA H')) D r,λσ' H' h=>⟨m,Nat.lt_succ_self m,h⟩,?_⟩;rcases M.bind_some e2 with ⟨o,z2,e3,e4⟩ | ⟨k,z2,e3,e4⟩
   ·refine⟨zA,ow,ρ,z1,_,r1,st1,e3,?_⟩;cases o with
    |nx ρ1=>exact λzA' ow' σ' H' rw' st' sm'=>⟨zA',ow',ρ1,z2,rr,rw',st',e4,po.mono (a10.trans sm sm')⟩|rt s=>cases e4;exact po
   ·subst e4;exact⟨zA,ow,ρ,z1,_,r1,st1,e3,po⟩
theorem G31{i j:Nat}{e:Ex}{D:Ends}{σ:L2.St}{H:Hp}{zA:Option Æ}{ow:Nat->Option Æ}{ρ:Env}{z:Z}{rr:R O}(rw:RW X.K H0 zE zA ow H ρ σ)(st:c50 zA z H)(ee:P11 G.F i j e ρ z=some rr)(po:i70 X.K G E H0 zE (hw ow (hz zA H)) D rr) :
  L41 (tBM X.K "list" Z90 (J61 i) (M71 (tBM X.K "list" w11 (J61 j) (tA X.K G E (.cons e .nil))) l72)) D σ H:=by
 obtain⟨xs,hx,e1⟩:=M.a00 ee;obtain⟨ys,hy,e1⟩:=M.a00 e1;have ho:=R30 hx;have hp:=R30 hy;obtain⟨w,k1,a,us,k2,rfl,k3,k4⟩:=rw.wor i _ ho;obtain⟨w',m1,b,ws,m2,rfl,m3,m4⟩:=rw.wor j _ hp;refine⟨_,k1,.inl ⟨rfl,us,SqL.of k3⟩,⟨_,m1,.inl ⟨rfl,ws,SqL.of m3⟩,?_⟩⟩;rcases M.bind_some e1 with ⟨l,z1,e3,e4⟩ | ⟨c,z1,e3,e4⟩
 ·obtain⟨k,hk,e5⟩:=M.a00 e4;obtain⟨dk,hk1,hk2⟩:=Ë.mp hk;obtain⟨s,rfl,hs⟩:=d90 hk1;obtain⟨o,hv,e6⟩:=M.a00 e5;cases e6;refine⟨zA,ρ,z,.ok [s] z1,rw.y00,st,?_,λvs H1 x1 st1 rvs=>?_⟩
  ·show M.bind (ev G.F e ρ) _ z=_;simp only[M.bind,e3,M.of,one,M.ret,ev]
  obtain⟨u,rfl,ru⟩:=i71 rvs;have hu:u=.int k:=by
   have:=X10 ru hs;cases dk <;> first | (cases hk2;exact this.i50) | (cases hk2;done)
  subst hu;unfold e21 at hv;split at hv
  ·rename_i hb;have hkk:=v90.mp hb.2.2.1;obtain⟨y,hy1,hv⟩:=Ë.mp hv;split at hv
   ·rename_i hby;cases hv;have r1:=rw.mono x1;have m4':HdA X.K (hw ow (hz zA H1)) ys ws:=m4.same (c00 x1);have k4':HdA X.K (hw ow (hz zA H1)) xs us:=k4.same (c00 x1);obtain⟨yv,g1,g2⟩:=m4'.get hy1;have hlt:k.toNat < ws.length:=(Ú.mp g1).1;have hab:a≠b:=λq=>hb.1 (rw.inj i j a k2 (by rw[q];exact m2))
    refine⟨b,ws,k,k.toNat,yv,rfl,rfl,x1.at m3 (rw.zne j b m2),by omega,by omega,?_,g1,?_⟩
    ·have h0:(0:Int)<=k:=hb.2.1;exact Õ7 h0 ∅
    ·have r2:=r1.upd m2 (m4'.eraseIdx k.toNat);have sm2:=E30 (H:=H1) (zA:=zA) (o:=.lst (ws.eraseIdx k.toNat)) m2;refine⟨a,us,yv,rfl,rfl,?_,?_,?_⟩
     ·rw[a20 hab];exact x1.at k3 (rw.zne i a k2)
     ·exact Ñ (by rw[k4.length];exact hb.2.2.2) (e10 (È _))
     ·exact po zA ow σ _ (r2.upd k2 ((k4'.same sm2).append (.cons (g2.same sm2) .nil))) ((st1.a20 (rw.zne j b m2) (x1.at m3 (rw.zne j b m2))).a20 (rw.zne i a k2) (by rw[a20 hab];exact x1.at k3 (rw.zne i a k2))) (a10.trans (c00 x1) (a10.trans sm2 (E30 k2)))
   ·cases hv
  ·cases hv
 ·subst e4;refine⟨zA,ρ,z,.er c z1,rw.y00,st,?_,po.er_ rw⟩;show M.bind (ev G.F e ρ) _ z=_;simp only[M.bind,e3]
theorem T91(x:XS lm X G E N sc cn){i j:Nat}{n m:Str}{e:Ex}{v:Ê}{p p' apos cpos apos' cpos' pos:Pos}(h1:N[i]?=some n)(h2:b30 n=true)(h3:N[j]?=some m)(h4:b30 m=true)(ns:noStar v=true)(g:b00 X G E e v)(hl:(apos.endLine == cpos.line)=true)(hl':(apos'.endLine == cpos'.line)=true) :
  PS X (.Expr (.Call (.Attribute (.Name n p) "append" apos) [.Call (.Attribute (.Name m p') "pop" apos') [v] [] cpos'] [] cpos) pos) (tX X.K G E H0 zE (.apop i j e)):=by
 unfold b30 at h2 h4;simp only[Â,î] at h2 h4;have ga:Good X G E (.cons e .nil) [v]:=⟨v,[],rfl,ns,g,rfl,rfl⟩;have hs:=c80 ns [] X.env;refine PS.imp (A70 (o51 Æ8 Ê8 Ê7 u70 (e20 (i:=i) (by rw[x.hN];exact h1) (x.vis n (Ü h1)) h2.1 h2.2)
  (c40 (o51 Æ8 PySem.F.slot_list_pop PySem.F.type_list_pop o71 (e20 (i:=j) (by rw[x.hN];exact h3) (x.vis m (Ü h3)) h4.1 h4.2) (ga.args rfl).1 rfl (by rw[hs];rfl) hl' hs rfl) h80) rfl rfl hl rfl rfl) (k30 rfl none)) λD σ H q=>?_
 obtain⟨zA,ow,ρ,z,rr,rw,st,ee,po⟩:=q;exact G31 rw st ee po
end
section
variable {K:À}{H0 H H':Hp}{zE zA:Option Æ}{ow:Nat->Option Æ}{ρ:Env}{σ:L2.St}
theorem RW.s42(r:RW K H0 zE zA ow H ρ σ):RW K H0 zE zA (ow0 ow i) H (ρ.set i none) (σ.set i (some v)):=by
 have sub:∀ j a,ow0 ow i j=some a->j≠i/\ow j=some a:=λj a e=>by
  unfold ow0 at e;split at e
  ·cases e
  ·rename_i n;exact⟨n,e⟩
 refine⟨by rw[À6,À6];exact r.len,λj k a h1 h2=>r.inj j k a (sub j a h1).2 (sub k a h2).2,λj a h1=>r.zne j a (sub j a h1).2,λj a h1=>?_,λj s e=>?_,r.ext,r.zok,λj a h1=>r.new j a (sub j a h1).2⟩
 ·obtain⟨n,h2⟩:=sub j a h1;obtain⟨xs,h3⟩:=r.own j a h2;exact⟨xs,by rw[Ö (À3 n)];exact h3⟩
 ·rcases getElem?_set' e with ⟨rfl,e1,hlt⟩ | ⟨n,e1⟩
  ·cases e1
  ·obtain⟨w,h1,h2⟩:=r.wor j s e1;exact⟨w,by rw[Ö (À3 n)];exact h1,h2.move (by unfold ow0;exact if_neg n) (k20 _ _) λ_ _=>rfl⟩
end
section
variable {lm:Bool}{X:Cx}{G:Gs}{E:XK}{N:List Str}{sc:à}{cn:List Str}{H0:Hp}{zE:Option Æ}{c P:Æ}{q:Str}{k:Nat}{fR:Æ}{fdR:ø}
def LB(X:Cx)(G:Gs)(N:List Str)(sc:à)(H0:Hp)(zE:Option Æ)(q:Str)(i:Nat)(done:List (List Nat × Ex))(Rn:Env->Z->Prop)(B:Hp)(σ:L2.St)(H:Hp):Prop:=∃ zA ow ρ z Ld ts Hb,RW X.K H0 zE zA ow Hb ρ σ/\Hb Ld=none/\Ext zA Hb H/\a10 B (hw ow (hz zA Hb))/\c50 zA z H/\σ[i]?=some (some (.ref Ld))/\H Ld=some (.lst (ts.map λt=>.ref t.f))/\zA≠some Ld/\À1 (X00 X G N sc q H) ts done/\Rn ρ z
def LC(X:Cx)(G:Gs)(N:List Str)(sc:à)(H0:Hp)(zE:Option Æ)(q:Str)(i:Nat)(all:List (List Nat × Ex))(Rn:Env->Z->Prop)(B:Hp)(σ:L2.St)(H:Hp):Prop:=∃ zA ow ρ z Ld ts,RW X.K H0 zE zA ow H ρ σ/\a10 B (hw ow (hz zA H))/\c50 zA z H/\σ[i]?=some (some (.ref Ld))/\H Ld=some (.lst (ts.map λt=>.ref t.f))/\zA≠some Ld/\À1 (X00 X G N sc q H) ts all/\Rn ρ z
theorem LB.lc(h:LB X G N sc H0 zE q i all Rn B σ H):LC X G N sc H0 zE q i all Rn B σ H:=by
 obtain⟨zA,ow,ρ,z,Ld,ts,Hb,rw,nb,xb,sb,st,eL,hL,zL,pr,run⟩:=h;exact⟨zA,ow,ρ,z,Ld,ts,rw.mono xb,a10.trans sb (c00 xb.same),st,eL,hL,zL,pr,run⟩
theorem R40(h:d31 X q H t)(hL:H Ld=some (.lst ys)):d31 X q (upd H Ld o) t :=
 ⟨h.form,by rw[a20 (λz=>by have:=h.fn;rw[z,hL] at this;cases this)];exact h.fn,by rw[a20 (λz=>by have:=h.rc;rw[z,hL] at this;cases this)];exact h.rc,h.cl1,h.cl2⟩
theorem G41(x:Ext zA Hb H)(n:Hb Ld=none):Ext zA Hb (upd H Ld o):=by
 refine⟨λb u e=>?_,λb ps e=>?_⟩
 ·obtain⟨e1,e2⟩:=l50 e;have ne:b≠Ld:=a60 e1 n;refine d30 ?_ e2 (l80 e);rw[a20 ne];exact(l50 (x.same b u e)).1
 ·obtain⟨qs,h⟩:=x.tbl b ps e;exact⟨qs,by rw[a20 (a60 e n)];exact h⟩
theorem U01(L:r10 X G sc c P q k fR fdR)(hs:I40 lsc sc (a80 N capt)=true):LTf X lsc ((a80 N capt).map (·.1)):=by
 unfold I40 at hs;simp only[Â,î,beq_iff_eq,Ã7,decide_eq_true_eq] at hs;obtain⟨⟨⟨⟨⟨⟨s1,s2⟩,s3⟩,s4⟩,s5⟩,s6⟩,s7⟩:=hs;refine⟨λy hy hf=>?_,λy hy=>by simpa using s4 y hy,λy hy=>?_,s1,s2,s3⟩
 ·have:=s5 y hy;rw[hf] at this;unfold Env.kindOf;rw[L.sco];simpa using this
 ·obtain⟨pr,h1,rfl⟩:=Þ.mp hy;exact s6 pr h1
theorem i81(h:d31 X q H t)(x:Ext zA H H')(nz:∀ {a:Æ}{p:á->Prop},H a=some (.ext p)->zA≠some a):d31 X q H' t:=⟨h.form,x.at h.fn (nz h.fn),x.at h.rc (nz h.rc),h.cl1,h.cl2⟩
theorem y71(st:c50 zA z H)(h:H a=some (.ext p)):zA≠some a:=λe=>by
 subst e;have:=st.zat;cases z with
 |none=>exact this.elim
 |some pr =>
  have h':H a=some (.lst [.int pr.1,.bl pr.2]):=this;rw[h] at h';cases h'
theorem R50(L:r10 X G sc c P q k fR fdR)(f:T41 G N sc capt a lsc body):PE X (.Lambda noArgs body lsc lpos) (λσ H Q=>∃ zA z,c50 zA z H/\∀ t H2,t.lsc=lsc->t.body=body->X00 X G N sc q H2 t (capt,a)->Ext zA H H2->c50 zA z H2->H t.f=none->Q (.ref t.f) H2):=by
 have fm:=U01 (N:=N) L f.hs;refine PE.imp (w81 (lpos:=lpos) L.code L.hd L.qual rfl L.bm fm.hfr) λσ H Q qq=>?_;obtain⟨zA,z,st,po⟩:=qq;have tab:=st.tab _ L.tb;refine⟨tab,λcl fa c' pm ctv H2 h1 h2 t2 kb nf e1 e2=>?_⟩;exact po ⟨fa,c',cl,pm,ctv,lsc,body,(a80 N capt).map (·.1)⟩ H2 rfl rfl ⟨⟨fm,e1,e2,h1,h2⟩,rfl,f⟩ (R10 kb tab t2) (h31 kb tab t2 L.uq st) nf
theorem R60{α β:Type}{R:α->β->Prop}{x:α}{y:β}(r:R x y):∀ {xs:List α}{ys:List β},À1 R xs ys->À1 R (xs++[x]) (ys++[y])
 |_,_,.nil=>.cons r .nil|_,_,.cons h t=>.cons h (R60 r t)
theorem y81(st:c50 zA z H)(x:Ext zA H H')(h:À1 (X00 X G N sc q H) ts ls):À1 (X00 X G N sc q H') ts ls:=À1.v01 h λ_ _ ⟨a,b,d⟩=>⟨i81 a x λh=>y71 st h,b,d⟩
theorem U11(x:XS lm X G E N sc cn)(L:r10 X G sc c P q k fR fdR){i:Nat}{y:Str}{capt:List Nat}{a:Ex}{lsc:à}{body:Ê}{lpos lp p pos:Pos}(hi:N[i]?=some y)(hy:x10 sc y=true)(f:T41 G N sc capt a lsc body){Rn:Env->Z->R O->Prop} :
  PS X (.Assign [.Name y p] (.List [.Lambda noArgs body lsc lpos] lp) pos) (λD σ H=>∃ zA ow ρ z rr,RW X.K H0 zE zA ow H ρ σ/\c50 zA z H/\i < ρ.length/\Rn (ρ.set i none) z rr/\∀ σ' H',LB X G N sc H0 zE q i [(capt,a)] (λρ z=>Rn ρ z rr) (hw ow (hz zA H)) σ' H'->D.nx σ' H'):=by
 have Lc:=x.loc;refine PS.imp (n50 (by rw[x.hN];exact x.nd) (by rw[x.hN];exact hi) (Lc.lc y hy) (O80 (c40 (R50 L f) h80)) rfl (Lc.fn y hy)) λD σ H qq=>?_
 obtain⟨zA,ow,ρ,z,rr,rw,st,il,run,po⟩:=qq;refine⟨zA,z,st,λt H2 _ _ lt xx st2 nf=>⟨by show 1<=sizeLine;decide,λp hp=>?_⟩⟩
 have hil:i < σ.length:=by rw[← rw.len];exact il
 exact po _ _ ⟨zA,_,_,z,p,[t],H2,(rw.mono xx).s42 (v:=.ref p),hp,Ext.of (a10.new _ hp),a10.trans (c00 xx) (k20 _ _),st2.same (a10.new _ hp),ß hil,a90,st2.Q10 hp,.cons ⟨i81 lt.1 (Ext.of (a10.new _ hp)) λh=>y71 st2 h,lt.2⟩ .nil,run⟩
theorem U21(x:XS lm X G E N sc cn)(L:r10 X G sc c P q k fR fdR){i:Nat}{y:Str}{capt:List Nat}{a:Ex}{lsc:à}{body:Ê}{lpos p apos cpos pos:Pos}(hi:N[i]?=some y)(h2:b30 y=true)(hl:(apos.endLine == cpos.line)=true)(f:T41 G N sc capt a lsc body){done:List (List Nat × Ex)}{Rn:Env->Z->R O->Prop}(hd:done.length < 1000) :
  PS X (.Expr (.Call (.Attribute (.Name y p) "append" apos) [.Lambda noArgs body lsc lpos] [] cpos) pos) (λD σ H=>∃ B rr,LB X G N sc H0 zE q i done (λρ z=>Rn ρ z rr) B σ H/\∀ σ' H',LB X G N sc H0 zE q i (done++[(capt,a)]) (λρ z=>Rn ρ z rr) B σ' H'->D.nx σ' H'):=by
 unfold b30 at h2;simp only[Â,î] at h2;refine PS.imp (A70 (o51 Æ8 Ê8 Ê7 u70 (e20 (i:=i) (by rw[x.hN];exact hi) (x.vis y (Ü hi)) h2.1 h2.2) (c40 (R50 L f) h80) rfl rfl hl rfl rfl) (k30 rfl none)) λD σ H qq=>?_
 obtain⟨B,rr,⟨zA,ow,ρ,z,Ld,ts,Hb,rw,nb,xb,sb,st,eL,hL,zL,pr,run⟩,po⟩:=qq;refine⟨_,eL,.inl ⟨rfl,_,SqL.of hL⟩,zA,z,st,λt H2 _ _ lt xx st2 nf=>?_⟩;have hL2:=xx.at hL zL;refine⟨Ld,_,_,rfl,rfl,hL2,?_,?_⟩
 ·rw[É,pr.length];exact Ñ hd (-0)
 ·refine po _ _ ⟨zA,ow,ρ,z,Ld,ts++[t],Hb,rw,nb,G41 (xb.trans xx) nb,sb,st2.a20 zL hL2,eL,?_,zL,R60 ⟨R40 lt.1 hL2,lt.2⟩ (À1.v01 (y81 st xx pr) λ_ _ ⟨u,v⟩=>⟨R40 u hL2,v⟩),run⟩;rw[Ã1];exact a90
def tLC(X:Cx)(G:Gs)(E:XK)(N:List Str)(sc:à)(H0:Hp)(zE:Option Æ)(q:Str)(i:Nat)(all:List (List Nat × Ex))(Rn:Env->Z->R O->Prop):TS:=λD σ H=>∃ B rr,LC X G N sc H0 zE q i all (λρ z=>Rn ρ z rr) B σ H/\i70 X.K G E H0 zE B D rr
abbrev i92(F:FT)(tp:Bool)(all:List (List Nat × Ex))(e:Ex)(t r:Sm)(ρ:Env)(z:Z)(rr:R O):Prop:=D10 F all e (ex F tp t) (ex F tp r) ρ z=some rr
theorem y91(L:r10 X G sc c P q k fR fdR){i:Nat}{all:List (List Nat × Ex)}{e:Ex}{t r:Sm}{σ:L2.St}{H:Hp}{D:Ends}{B:Hp}{rr:R O}{Q:Bool->Hp->Prop}(lb:LC X G N sc H0 zE q i all (λρ z=>i92 G.F zE.isNone all e t r ρ z rr) B σ H)(po:i70 X.K G E H0 zE B D rr)
  (hQ:∀ b zA ow ρ z H3,RW X.K H0 zE zA ow H3 ρ σ->c50 zA z H3->M.bind (if b=true then ex G.F zE.isNone t ρ else M.ret (.nx ρ)) (λo=>match o with
   |.nx ρ=>ex G.F zE.isNone r ρ
   |.rt s=>M.ret (.rt s)) z=some rr->i70 X.K G E H0 zE (hw ow (hz zA H3)) D rr->Q b H3) :
  A61 (tOp (rD2 X.K λa b=>(q40 .ne a b).map λc=>.d (.bl c)) (tLL X G N sc q i all) (tI X.K G E e)) σ H Q:=by
 obtain⟨zA,ow,ρ,z,Ld,ts,rw,sb,st,eL,hL,zL,pr,run⟩:=lb;unfold i92 D10 at run;split at run
 ·cases run
 ·rename_i cs z1 hlv;refine⟨zA,ρ,z,cs,z1,Ld,ts,rw.y00,st,hlv,eL,hL,zL,pr,λv H1 x1 st1 rv=>?_⟩;have rw1:=rw.mono x1;refine g30 rw1.y00 st1 run ((po.mono (a10.trans sb (c00 x1.same))).ers rw1) λl z2 e1=>?_;obtain⟨d,hd,e2⟩:=M.a00 e1;obtain⟨s,rfl,hs'⟩:=d90 hd;refine⟨s,rfl,λw H2 x2 st2 rv2=>?_⟩;obtain⟨b,hb,e3⟩:=M.a00 e2;refine⟨zA,z2,.lst (cs.map x01),d,.d (.bl b),st2,(show RvP X.K zA H1 (.fr (cs.map x01)) v from rv.pl).mono x2,X10 rv2 hs',by show Æ9 _ (q40 .ne _ d)=_;rw[hb];rfl,λv' H3 sm rv3=>⟨b,Hd.bl_ (show Hd X.K (hz zA H3) (.bl b) v' from rv3),?_⟩⟩
  have x3:=x1.trans (x2.trans (Ext.of sm));exact hQ b zA ow ρ z2 H3 (rw.mono x3) (st2.same sm) e3 (po.mono (a10.trans sb (c00 x3.same)))
theorem i91{D:Ends}{σ:L2.St}{t r:Sm}{rr:R O}{b:Bool}{zA:Option Æ}{ow:Nat->Option Æ}{ρ:Env}{z:Z}{H:Hp}(rw:RW X.K H0 zE zA ow H ρ σ)(st:c50 zA z H)(e:M.bind (if b=true then ex G.F zE.isNone t ρ else M.ret (.nx ρ)) (λo=>match o with
   |.nx ρ=>ex G.F zE.isNone r ρ
   |.rt s=>M.ret (.rt s)) z=some rr) (po:i70 X.K G E H0 zE (hw ow (hz zA H)) D rr):if b=true then tX X.K G E H0 zE t { D with nx:=tX X.K G E H0 zE r D } σ H else tX X.K G E H0 zE r D σ H:=by
 cases b with
 |true =>
  show tX X.K G E H0 zE t _ σ H;rcases M.bind_some e with ⟨o,z4,e4,e5⟩ | ⟨c,z4,e4,e5⟩
  ·refine⟨zA,ow,ρ,z,_,rw,st,e4,?_⟩;cases o with
   |nx ρ1=>exact λzA' ow' σ' H' rw' st' sm'=>⟨zA',ow',ρ1,z4,rr,rw',st',e5,po.mono sm'⟩|rt s=>cases e5;exact po
  ·subst e5;exact⟨zA,ow,ρ,z,_,rw,st,e4,po⟩
 |false=>exact⟨zA,ow,ρ,z,rr,rw,st,e,po⟩
theorem j02(x:XS lm X G E N sc cn)(L:r10 X G sc c P q k fR fdR){i:Nat}{n y:Str}{csc:à}{p p2 p3 p4 pos ps cp ip:Pos}{rhs:Ê}{body rest:List À0}{all:List (List Nat × Ex)}{e:Ex}{t r:Sm}(hi:N[i]?=some y)(ny:b30 y=true)(nn:b30 n=true)(cc:y21 csc sc N [n] [])(hg:glob csc "_law_refused"=true)(hls:all.length<=1000)(hs:o40 rhs=true)(ge:b00 X G E e rhs)(ht:PSs X body (tX X.K G E H0 zE t))(hr:PSs X rest (tX X.K G E H0 zE r)) :
  PSs X (.If (.Compare (.ListComp (.Call (.Name "_law_refused" p) [.Name n p2] [] pos) [⟨.Name n p3,.Name y p4,[],0⟩] csc ps) [.NotEq] [rhs] cp) body [] ip::rest) (tLC X G E N sc H0 zE q i all (i92 G.F zE.isNone all e t r)):=by
 refine PSs.imp (d50 (Y40 (B10 (n01 x.room.units .ne) (h91 x.toXI L hi ny nn cc hg hls) ge.pe (w40 hs _)) ht u40) hr) λD σ H qq=>?_;obtain⟨B,rr,lb,po⟩:=qq;exact y91 L lb po λb zA ow ρ z H3 rw st e po=>i91 rw st e po
def m92(F:FT)(tp:Bool)(all:List (List Nat × Ex))(j:Nat)(e:Ex)(t r:Sm)(ρ:Env)(z:Z)(rr:R O):Prop:=∃ b,ρ[j]?=some (some (.d (.bl b)))/\(if b=true then D10 F all e (ex F tp t) (ex F tp r) ρ else ex F tp r ρ) z=some rr
theorem U31(x:XS lm X G E N sc cn)(L:r10 X G sc c P q k fR fdR){i j:Nat}{n y w:Str}{csc:à}{p p2 p3 p4 pos ps cp ip pw bp:Pos}{rhs:Ê}{body rest:List À0}{all:List (List Nat × Ex)}{e:Ex}{t r:Sm}(hi:N[i]?=some y)(hj:N[j]?=some w)(nw:b30 w=true)(ny:b30 y=true)(nn:b30 n=true)(cc:y21 csc sc N [n] [])(hg:glob csc "_law_refused"=true)(hls:all.length<=1000)(hs:o40 rhs=true)(ge:b00 X G E e rhs)(ht:PSs X body (tX X.K G E H0 zE t))(hr:PSs X rest (tX X.K G E H0 zE r)) :
  PSs X (.If (.BoolOp .And [.Name w pw,.Compare (.ListComp (.Call (.Name "_law_refused" p) [.Name n p2] [] pos) [⟨.Name n p3,.Name y p4,[],0⟩] csc ps) [.NotEq] [rhs] cp] bp) body [] ip::rest) (tLC X G E N sc H0 zE q i all (m92 G.F zE.isNone all j e t r)):=by
 unfold b30 at nw;simp only[Â,î] at nw;refine PSs.imp (d50 (Y40 (v31 (O40 (e20 (i:=j) (by rw[x.hN];exact hj) (x.vis w (Ü hj)) nw.1 nw.2)) (Y30 (B10 (n01 x.room.units .ne) (h91 x.toXI L hi ny nn cc hg hls) ge.pe (w40 hs _)))).pt ht u40) hr) λD σ H qq=>?_
 obtain⟨B,rr,⟨zA,ow,ρ,z,Ld,ts,rw,sb,st,eL,hL,zL,pr,b,eb,run⟩,po⟩:=qq;obtain⟨v,e1,e2⟩:=rw.y00 j _ eb;refine⟨v,e1,b,Hd.bl_ (show Hd X.K (hz zA H) (.bl b) v from e2),?_⟩;cases b with
 |true =>
  show(if true=true then _ else _);rw[if_pos rfl] at run ⊢;exact y91 L ⟨zA,ow,ρ,z,Ld,ts,rw,sb,st,eL,hL,zL,pr,run⟩ po λb zA ow ρ z H3 rw st e po=>i91 rw st e po
 |false =>
  show(if false=true then _ else _);rw[if_neg Ï] at run ⊢;exact⟨zA,ow,ρ,z,rr,rw,st,run,po.mono sb⟩
theorem U41(x:XS lm X G E N sc cn){i j:Nat}{w:Str}{v:Ê}{px pos:Pos}{a:Ex}{all:List (List Nat × Ex)}{e:Ex}{t r:Sm}(hj:N[j]?=some w)(hij:i≠j)(hl:x10 sc w=true)(ga:b00 X G E a v)(hv:∀ o,É4 v o pos.line X.env=pure false){rest:List À0}(hr:PSs X rest (tLC X G E N sc H0 zE q i all (m92 G.F zE.isNone all j e t r))) :
  PSs X (.Assign [.Name w px] v pos::rest) (tLC X G E N sc H0 zE q i all λρ z rr=>e11 G.F all (some (j,a)) e (ex G.F zE.isNone t) (ex G.F zE.isNone r) ρ z=some rr):=by
 have Lc:=x.loc;refine PSs.imp (d50 (n50 (by rw[x.hN];exact x.nd) (by rw[x.hN];exact hj) (Lc.lc w hl) ga.pe (hv _) (Lc.fn w hl)) hr) λD σ H qq=>?_
 obtain⟨B,rr,⟨zA,ow,ρ,z,Ld,ts,rw,sb,st,eL,hL,zL,pr,run⟩,po⟩:=qq;have run:(if j < ρ.length then M.bind (ev G.F a ρ) (λl=>M.bind (M.of ((pl l).bind asB)) λb=>if b then D10 G.F all e (ex G.F zE.isNone t) (ex G.F zE.isNone r) (ρ.set j (some (.d (.bl b)))) else ex G.F zE.isNone r (ρ.set j (some (.d (.bl b))))) else M.no) z=some rr:=run;by_cases jl:j < ρ.length
 rotate_left
 ·rw[if_neg jl] at run;cases run
 rw[if_pos jl] at run;refine g30 rw.y00 st run ((po.mono sb).ers rw) λl z1 e1=>?_;obtain⟨b,p1,e2⟩:=M.a00 e1;obtain⟨d,p2,p3⟩:=Ë.mp p1;obtain⟨s1,rfl,q1⟩:=d90 p2;refine⟨s1,rfl,λu H1 x1 st1 rv=>?_⟩;have hd:=rv.pl.d_ q1;cases d with
 |bl c' =>
  cases p3;have hu:=hd.bl_;subst hu;have rw1:=(rw.mono x1).m82 (i:=j) (x:=.bl b) (v:=.bl b) (by constructor)
  refine⟨B,rr,⟨zA,_,_,z1,Ld,ts,rw1,a10.trans sb (a10.trans (c00 x1.same) (k20 _ _)),st1,by rw[Ö (À3 hij)];exact eL,x1.at hL zL,zL,y81 st x1 pr,b,?_,?_⟩,po⟩
  ·exact ß jl
  ·cases b <;> exact e2
 |_=>cases p3
def U51:(ss:List À0)->Option {u:Str × Pos × Ê × à × Pos × Pos × Pos × List À0 // ss=.Assign [.Name u.1 u.2.1] (.List [.Lambda ⟨[],[],none,[],[],none,[]⟩ u.2.2.1 u.2.2.2.1 u.2.2.2.2.1] u.2.2.2.2.2.1) u.2.2.2.2.2.2.1::u.2.2.2.2.2.2.2}
 |.Assign [.Name y p] (.List [.Lambda ⟨[],[],none,[],[],none,[]⟩ b l lp] q) pos::rest=>some ⟨(y,p,b,l,lp,q,pos,rest),rfl⟩|_=>none
def U61:(ss:List À0)->Option {u:Str × Pos × Str × Pos × Ê × à × Pos × Pos × Pos × List À0 // ss=.Expr (.Call (.Attribute (.Name u.1 u.2.1) u.2.2.1 u.2.2.2.1) [.Lambda ⟨[],[],none,[],[],none,[]⟩ u.2.2.2.2.1 u.2.2.2.2.2.1 u.2.2.2.2.2.2.1] [] u.2.2.2.2.2.2.2.1) u.2.2.2.2.2.2.2.2.1::u.2.2.2.2.2.2.2.2.2}
 |.Expr (.Call (.Attribute (.Name y p) at' ap) [.Lambda ⟨[],[],none,[],[],none,[]⟩ b l lp] [] cp) pos::rest=>some ⟨(y,p,at',ap,b,l,lp,cp,pos,rest),rfl⟩|_=>none
structure LIf where
 g:Str
 p:Pos
 n:Str
 p2:Pos
 pos:Pos
 n3:Str
 p3:Pos
 y:Str
 p4:Pos
 csc:Scope
 ps:Pos
 rhs:Expr
 cp:Pos
 body:List Stmt
 ip:Pos
 rest:List Stmt
def j12:(ss:List À0)->Option {u:LIf // ss=.If (.Compare (.ListComp (.Call (.Name u.g u.p) [.Name u.n u.p2] [] u.pos) [⟨.Name u.n3 u.p3,.Name u.y u.p4,[],0⟩] u.csc u.ps) [.NotEq] [u.rhs] u.cp) u.body [] u.ip::u.rest}
 |.If (.Compare (.ListComp (.Call (.Name g p) [.Name n p2] [] pos) [⟨.Name n3 p3,.Name y p4,[],0⟩] csc ps) [.NotEq] [rhs] cp) body [] ip::rest=>some ⟨⟨g,p,n,p2,pos,n3,p3,y,p4,csc,ps,rhs,cp,body,ip,rest⟩,rfl⟩|_=>none
def U71:(ss:List À0)->Option {u:(Str × Pos × Pos) × LIf // ss=.If (.BoolOp .And [.Name u.1.1 u.1.2.1,.Compare (.ListComp (.Call (.Name u.2.g u.2.p) [.Name u.2.n u.2.p2] [] u.2.pos) [⟨.Name u.2.n3 u.2.p3,.Name u.2.y u.2.p4,[],0⟩] u.2.csc u.2.ps) [.NotEq] [u.2.rhs] u.2.cp] u.1.2.2) u.2.body [] u.2.ip::u.2.rest}
 |.If (.BoolOp .And [.Name w pw,.Compare (.ListComp (.Call (.Name g p) [.Name n p2] [] pos) [⟨.Name n3 p3,.Name y p4,[],0⟩] csc ps) [.NotEq] [rhs] cp] bp) body [] ip::rest=>some ⟨((w,pw,bp),⟨g,p,n,p2,pos,n3,p3,y,p4,csc,ps,rhs,cp,body,ip,rest⟩),rfl⟩|_=>none
def U81:(ss:List À0)->Option {u:Str × Pos × Ê × Pos × List À0 // ss=.Assign [.Name u.1 u.2.1] u.2.2.1 u.2.2.2.1::u.2.2.2.2}
 |.Assign [.Name w p] v pos::rest=>some ⟨(w,p,v,pos,rest),rfl⟩|_=>none
def a02(fns:List (Str × List Str))(nums:List (Str × Int))(sc:à)(N:List Str)(u:List Nat × Ex)(lsc:à)(body:Ê):Bool:=(a80 N u.1).length == u.1.length&&I40 lsc sc (a80 N u.1)&&!isL u.2&&mt false fns nums u.2 lsc ((a80 N u.1).map (·.1)) [body]
theorem j01(h:a02 G.fns G.nums sc N u lsc body=true):T41 G N sc u.1 u.2 lsc body:=by
 unfold a02 at h;simp only[Â,beq_iff_eq] at h;obtain⟨⟨⟨h1,h2⟩,h3⟩,h4⟩:=h;exact⟨h1,h2,b40 h3,λk {X E} xl=>sound (lowG G k) u.2 xl h4⟩
def t91(fns:List (Str × List Str))(nums:List (Str × Int))(sc:à)(N:List Str)(i:Nat):List (List Nat × Ex)->List À0->Option (List À0)
 |[],ss=>some ss
 |u::r,ss=>match U61 ss with
  |none=>none|some v=>if v.1.2.2.1 == ("append":Str)&&N[i]? == some v.1.1&&b30 v.1.1&&v.1.2.2.2.1.endLine == v.1.2.2.2.2.2.2.2.1.line&&a02 fns nums sc N u v.1.2.2.2.2.2.1 v.1.2.2.2.2.1 then t91 fns nums sc N i r v.1.2.2.2.2.2.2.2.2.2 else none
def tLB(X:Cx)(G:Gs)(E:XK)(N:List Str)(sc:à)(H0:Hp)(zE:Option Æ)(q:Str)(i:Nat)(done:List (List Nat × Ex))(Rn:Env->Z->R O->Prop):TS:=λD σ H=>∃ B rr,LB X G N sc H0 zE q i done (λρ z=>Rn ρ z rr) B σ H/\i70 X.K G E H0 zE B D rr
theorem U91(x:XS lm X G E N sc cn)(L:r10 X G sc c P q k fR fdR){i:Nat}{Rn:Env->Z->R O->Prop}{rest:List À0}:∀ (us done:List (List Nat × Ex)) (ss:List À0),t91 G.fns G.nums sc N i us ss=some rest->done.length + us.length<=1000->PSs X rest (tLB X G E N sc H0 zE q i (done++us) Rn)->PSs X ss (tLB X G E N sc H0 zE q i done Rn)
 |[],done,ss,h,_,hr=>by
  cases h;rw[Ä0] at hr;exact hr
 |u::us,done,ss,h,hl,hr=>by
  unfold t91 at h;split at h
  ·cases h
  ·rename_i v hv;split at h
   ·rename_i hb;simp only[Â,beq_iff_eq] at hb;obtain⟨⟨⟨⟨b1,b2⟩,b3⟩,b4⟩,b5⟩:=hb;obtain⟨v,e⟩:=v
    replace b1:v.2.2.1="append":=b1
    rw[e,b1];rw[Ò] at hl;have ih:=U91 x L us (done++[u]) v.2.2.2.2.2.2.2.2.2 h (by rw[ÿ];show done.length + 1 + us.length<=1000;omega) (by rw[È5];exact hr)
    refine PSs.imp (d50 (U21 (done:=done) (H0:=H0) (zE:=zE) (Rn:=Rn) x L b2 b3 (by rw[beq_iff_eq];exact b4) (j01 b5) ∅) ih) λD σ H qq=>?_
    obtain⟨B,rr,lb,po⟩:=qq;exact⟨B,rr,lb,λσ' H' lb'=>⟨B,rr,lb',po⟩⟩
   ·cases h
def a12(lm:Bool)(fns:List (Str × List Str))(nums:List (Str × Int))(sc:à)(N:List Str)(i:Nat)(e:Ex)(w:LIf):Bool:=w.g == ("_law_refused":Str)&&N[i]? == some w.y&&b30 w.n&&w.n == w.n3&&I30 w.csc sc N [w.n] []&&glob w.csc "_law_refused"&&o40 w.rhs&&!isL e&&mt lm fns nums e sc N [w.rhs]
def n02:Ê->Bool
 |.ListComp ..=>false|.SetComp ..=>false|.DictComp ..=>false|_=>true
def G51(lm:Bool)(fns:List (Str × List Str))(nums:List (Str × Int))(sc:à)(N:List Str)(i:Nat)(g:Option (Nat × Ex))(e:Ex)(ss:List À0):Option LIf:=match g with
 |none=>match j12 ss with
  |none=>none|some w=>if a12 lm fns nums sc N i e w.1 then some w.1 else none
 |some (j,a)=>match U81 ss with
  |none=>none
  |some v=>match U71 v.1.2.2.2.2 with
   |none=>none|some w=>if a12 lm fns nums sc N i e w.1.2&&i != j&&N[j]? == some v.1.1&&v.1.1 == w.1.1.1&&x10 sc v.1.1&&b30 v.1.1&&n02 v.1.2.2.1&&!isL a&&mt lm fns nums a sc N [v.1.2.2.1] then some w.1.2 else none
theorem G61(x:XS lm X G E N sc cn)(L:r10 X G sc c P q k fR fdR){i:Nat}{y:Str}(hi:N[i]?=some y)(ny:b30 y=true){all:List (List Nat × Ex)}{g:Option (Nat × Ex)}{e:Ex}{t r:Sm}{ss:List À0}{w:LIf}(hls:all.length<=1000)(h:G51 lm G.fns G.nums sc N i g e ss=some w)(ht:PSs X w.body (tX X.K G E H0 zE t))(hr:PSs X w.rest (tX X.K G E H0 zE r)):PSs X ss (tLC X G E N sc H0 zE q i all λρ z rr=>e11 G.F all g e (ex G.F zE.isNone t) (ex G.F zE.isNone r) ρ z=some rr):=by
 unfold G51 at h;split at h
 ·split at h
  ·cases h
  ·rename_i w' hw';split at h
   ·rename_i hc;cases h;unfold a12 at hc;simp only[Â,beq_iff_eq] at hc;obtain⟨⟨⟨⟨⟨⟨⟨⟨c1,c2⟩,c3⟩,c4⟩,c5⟩,c6⟩,c7⟩,c8⟩,c9⟩:=hc;obtain⟨w,ew⟩:=w'
    replace c1:w.g="_law_refused":=c1
    replace c4:w.n3=w.n:=Eq.symm c4
    replace c2:w.y=y:=by rw[hi] at c2;exact(ð c2).symm
    rw[ew,c1,c2,c4];exact j02 (H0:=H0) (zE:=zE) (all:=all) x L hi ny c3 (F81 c5) c6 hls c7 (a50 (b40 c8) (sound G e x.toXI c9)) ht hr
   ·cases h
 ·rename_i j a;split at h
  ·cases h
  ·rename_i v hv;split at h
   ·cases h
   ·rename_i w' hw';split at h
    ·rename_i hc;cases h;simp only[Â,beq_iff_eq,bne_iff_ne] at hc;obtain⟨⟨⟨⟨⟨⟨⟨⟨hc,d1⟩,d2⟩,d3⟩,d4⟩,d5⟩,d6⟩,d7⟩,d8⟩:=hc;unfold a12 at hc;simp only[Â,beq_iff_eq] at hc;obtain⟨⟨⟨⟨⟨⟨⟨⟨c1,c2⟩,c3⟩,c4⟩,c5⟩,c6⟩,c7⟩,c8⟩,c9⟩:=hc;obtain⟨v,ev'⟩:=v;obtain⟨w,ew⟩:=w'
     replace c1:w.2.g="_law_refused":=c1
     replace c4:w.2.n3=w.2.n:=Eq.symm c4
     replace c2:w.2.y=y:=by rw[hi] at c2;exact(ð c2).symm
     replace d3:w.1.1=v.1:=Eq.symm d3
     replace ew:v.2.2.2.2=_:=ew
     rw[ev',ew,c1,c2,c4,d3];refine U41 (H0:=H0) (zE:=zE) x d2 d1 d4 (a50 (b40 d7) (sound G a x.toXI d8)) (λo=>k30 (by
      replace d6:n02 v.2.2.1=true:=d6
      generalize v.2.2.1=vv at d6 ⊢;cases vv <;> first | rfl | cases d6) o) ?_
     exact U31 (H0:=H0) (zE:=zE) (all:=all) x L hi d2 d5 ny c3 (F81 c5) c6 hls c7 (a50 (b40 c8) (sound G e x.toXI c9)) ht hr
    ·cases h
def j11(lm:Bool)(fns:List (Str × List Str))(nums:List (Str × Int))(sc:à)(N:List Str)(i:Nat)(ls:List (List Nat × Ex))(g:Option (Nat × Ex))(e:Ex)(ss:List À0):Option LIf:=match ls with
 |[]=>none
 |u::us=>match U51 ss with
  |none=>none
  |some v=>if lm&&N[i]? == some v.1.1&&x10 sc v.1.1&&b30 v.1.1&&decide (us.length < 900)&&a02 fns nums sc N u v.1.2.2.2.1 v.1.2.2.1 then match t91 fns nums sc N i us v.1.2.2.2.2.2.2.2 with
   |none=>none|some rest=>G51 lm fns nums sc N i g e rest
   else none
theorem V01(x:XS lm X G E N sc cn){i:Nat}{ls:List (List Nat × Ex)}{g:Option (Nat × Ex)}{e:Ex}{t r:Sm}{ss:List À0}{w:LIf}(h:j11 lm G.fns G.nums sc N i ls g e ss=some w)(ht:PSs X w.body (tX X.K G E H0 zE t))(hr:PSs X w.rest (tX X.K G E H0 zE r)):PSs X ss (tX X.K G E H0 zE (.lams i ls g e t r)):=by
 unfold j11 at h;split at h
 ·cases h
 ·rename_i u us;split at h
  ·cases h
  ·rename_i v hv;split at h
   ·rename_i hb;simp only[Â,beq_iff_eq,decide_eq_true_eq] at hb;obtain⟨⟨⟨⟨⟨b1,b2⟩,b3⟩,b4⟩,b5⟩,b6⟩:=hb;split at h
    ·cases h
    ·rename_i rest hrest;obtain⟨c,P,q,k,fR,fdR,L⟩:=x.lam b1;obtain⟨v,ev'⟩:=v
     replace b2:N[i]?=some v.1:=b2
     rw[ev'];have last:=G61 (H0:=H0) (zE:=zE) (all:=u::us) x L b2 b4 (by rw[Ò];omega) h ht hr
     have mid:=U91 (H0:=H0) (zE:=zE) x L us [u] v.2.2.2.2.2.2.2 hrest (by rw[Ö8];omega) (PSs.imp last λD σ H ⟨B,rr,lb,po⟩=>⟨B,rr,lb.lc,po⟩)
     refine PSs.imp (d50 (U11 (H0:=H0) (zE:=zE) (Rn:=λρ z rr=>e11 G.F (u::us) g e (ex G.F zE.isNone t) (ex G.F zE.isNone r) ρ z=some rr) x L b2 b3 (j01 b6)) mid) λD σ H qq=>?_;obtain⟨zA,ow,ρ,z,rr,rw,st,ee,po⟩:=qq;have e0:(if i < ρ.length then e11 G.F (u::us) g e (ex G.F zE.isNone t) (ex G.F zE.isNone r) (ρ.set i none) else M.no) z=some rr:=ee;split at e0
     ·rename_i il;exact⟨zA,ow,ρ,z,rr,rw,st,il,e0,λσ' H' lb=>⟨_,rr,lb,po⟩⟩
     ·cases e0
   ·cases h
end
section
variable {lm:Bool}{X:Cx}{G:Gs}{E:XK}{N:List Str}{sc:à}{cn:List Str}{H0:Hp}{zE:Option Æ}
def j22(K:À)(i:Nat):TI:=λσ H R=>∃ a,σ[i]?=some (some (.ref a))/\((∃ ys,SqT K H a ys)/\R (Itt K a) H∨(∃ ys,SqL K H a ys)/\R (Itl K a) H)
theorem V11(x:XI lm X G E N sc){tg:Ê}{i:Nat}{n:Str}{pos:Pos}(h1:N[i]?=some n)(h2:b30 n=true):PI X tg (.Name n pos) (j22 X.K i):=by
 unfold b30 at h2;simp only[Â,î] at h2;have hv:PE X (.Name n pos) (J61 i):=e20 (i:=i) (by rw[x.hN];exact h1) (x.vis n (Ü h1)) h2.1 h2.2
 intro pins s σ H R I q;obtain⟨a,k,q | q⟩:=q
 ·exact v61 hv pins s σ H R I ⟨_,k,a,rfl,q.1,q.2⟩
 ·exact A90 hv pins s σ H R I ⟨_,k,a,rfl,q.1,q.2⟩
def fBody(F:FT)(tp:Bool)(p:Pat)(b:Sm):D->Env->M O:=λx ρ=>M.bind (M.of (e60 p x ρ)) λρ=>ex F tp b ρ
theorem x20:∀ {l:List D}{d:D},g20 l=true->d∈l->bare d=true
 |x::r,d,h,hd=>by
  simp only[g20,Â] at h;rcases ý.mp hd with rfl | hd
  ·exact h.1
  ·exact x20 h.2 hd
theorem R70{p:Pat}{b:Sm}{J:L2.It}{xs:List D}{B:Hp}{D:Ends}{σ:L2.St}{H:Hp}{zA:Option Æ}{ow:Nat->Option Æ}{ρ:Env}{z:Z}{rr:R O}(IT:ItB X.K J xs B)
  (rw:RW X.K H0 zE zA ow H ρ σ) (st:c50 zA z H) (sm:a10 B (hw ow (hz zA H))) (ee:K00 (fBody G.F zE.isNone p b) xs ρ z=some rr) (po:i70 X.K G E H0 zE (hw ow (hz zA H)) D rr) :
  ∃ W:Nat->Nat->L2.St->Hp->Prop,(∃ m,W 0 m σ H)/\∀ i m σ H,W i m σ H ->
   (J.stop i H/\D.nx σ H)∨(J.go i H/\∃ Nn:L2.St->Hp->Prop,(∀ σ' H',Nn σ' H'->∃ m',m' < m/\W (i + 1) m' σ' H')/\∀ x H',J.yld i H x H'->gP X.K p x σ H' λσ2 H2=>tX X.K G E H0 zE b { D with nx:=Nn,ct:=Nn,bk:=D.nx } σ2 H2):=by
 refine⟨λi m σ H=>m=xs.length - i/\i<=xs.length/\∃ zA ow ρ z r,RW X.K H0 zE zA ow H ρ σ/\c50 zA z H/\a10 B (hw ow (hz zA H))/\K00 (fBody G.F zE.isNone p b) (xs.drop i) ρ z=some r/\i70 X.K G E H0 zE (hw ow (hz zA H)) D r,
  ⟨xs.length,by simp,Æ3 _,zA,ow,ρ,z,rr,rw,st,sm,by simpa using ee,po⟩,?_⟩
 rintro i m σ H ⟨rfl,hi,zA,ow,ρ,z,rr,rw,st,sm,ee,po⟩;have sH:a10 B H:=a10.trans sm (a10.trans i60 (a30 zA H));by_cases hlt:i < xs.length
 ·refine .inr ⟨IT.go i H sH hlt,λσ' H'=>∃ zA ow ρ z r,RW X.K H0 zE zA ow H' ρ σ'/\c50 zA z H'/\a10 B (hw ow (hz zA H'))/\K00 (fBody G.F zE.isNone p b) (xs.drop (i + 1)) ρ z=some r/\i70 X.K G E H0 zE (hw ow (hz zA H')) D r,
   λσ' H' h=>⟨xs.length - (i + 1),by omega,rfl,hlt,h⟩,λx H' y=>?_⟩
  have hd0:xs[i]?=some xs[i]:=ù hlt;obtain⟨s1,hd⟩:=IT.yld i H x H' zA z _ (a10.trans sm i60) st y hd0;rw[Ë7 hlt] at ee;have e0:M.bind (fBody G.F zE.isNone p b xs[i] ρ) (λo=>match o with | .nx ρ=>K00 (fBody G.F zE.isNone p b) (xs.drop (i + 1)) ρ | .rt s=>M.ret (.rt s)) z=some rr:=ee
  have r1:=rw.mono (Ext.of s1);have st1:=st.same s1;have sm1:a10 (hw ow (hz zA H)) (hw ow (hz zA H')):=c00 (h30 s1);have hd1:=hd (hw ow (hz zA H')) (a10.trans sm sm1) λ_ _ q=>i01 q r1.y31;have fin:∀ {ρ1:Env}{o:O}{z1:Z},e60 p xs[i] ρ=some ρ1->ex G.F zE.isNone b ρ1 z=some (.ok o z1)->(match o with | .nx ρ=>K00 (fBody G.F zE.isNone p b) (xs.drop (i + 1)) ρ | .rt s=>M.ret (.rt s)) z1=some rr->gP X.K p x σ H' λσ2 H2=>tX X.K G E H0 zE b { D with nx:=λσ' H'=>∃ zA ow ρ z r,RW X.K H0 zE zA ow H' ρ σ'/\c50 zA z H'/\a10 B (hw ow (hz zA H'))/\K00 (fBody G.F zE.isNone p b) (xs.drop (i + 1)) ρ z=some r/\i70 X.K G E H0 zE (hw ow (hz zA H')) D r,ct:=λσ' H'=>∃ zA ow ρ z r,RW X.K H0 zE zA ow H' ρ σ'/\c50 zA z H'/\a10 B (hw ow (hz zA H'))/\K00 (fBody G.F zE.isNone p b) (xs.drop (i + 1)) ρ z=some r/\i70 X.K G E H0 zE (hw ow (hz zA H')) D r,bk:=D.nx } σ2 H2:=λ{ρ1 o z1} hbp e1 e2=>by
   refine t51 hbp r1 hd1 λow' σ' r2 sm2=>⟨zA,ow',ρ1,z,_,r2,st1,e1,?_⟩;cases o with
   |nx ρ2=>exact λzA3 ow3 σ3 H3 r3 st3 sm3=>⟨zA3,ow3,ρ2,z1,rr,r3,st3,a10.trans sm (a10.trans sm1 (a10.trans sm2 sm3)),e2,po.mono (a10.trans sm1 (a10.trans sm2 sm3))⟩|rt s=>cases e2;exact po
  rcases M.bind_some e0 with ⟨o,z1,e1,e2⟩ | ⟨c,z1,e1,e2⟩
  ·obtain⟨ρ1,hbp,e3⟩:=M.a00 e1;exact fin hbp e3 e2
  ·subst e2;obtain⟨ρ1,hbp,e3⟩:=M.a00 e1;exact t51 hbp r1 hd1 λow' σ' r2 sm2=>⟨zA,ow',ρ1,z,_,r2,st1,e3,po⟩
 ·have e:i=xs.length:=by omega
  subst e;rw[drop_length] at ee;cases ee;exact .inl ⟨IT.stop H sH,po zA ow σ H rw st (a10.refl _)⟩
theorem V21(x:XS lm X G E N sc cn){p:Pat}{i:Nat}{n:Str}{b:Sm}{tg:Ê}{body:List À0}{np pos:Pos}(hp:h70 N (x10 sc) p tg=true)(h1:N[i]?=some n)(h2:b30 n=true)(hb:PSs X body (tX X.K G E H0 zE b)) :
  PS X (.For tg (.Name n np) body [] pos) (tX X.K G E H0 zE (.fr p .seq (.cons (.var i) .nil) b)):=by
 refine PS.imp (v71 x.own x.calm (V11 x.toXI h1 h2) (f91 x.loc hp) hb (λ_=>rfl)) λD σ H q=>?_;obtain⟨zA,ow,ρ,z,rr,rw,st,ee,po⟩:=q;have e0:M.bind (M.bind (match ρ[i]? with | some (some s)=>M.ret [plS s] | _=>M.no) λx=>M.bind (M.of (one x)) λs=>M.bind (ev G.F .nil ρ) λy=>M.ret (s::y)) (λl=>M.bind (M.of ((plA l).bind (itD .seq))) λxs=>K00 (fBody G.F zE.isNone p b) xs (D41 .seq (.cons (.var i) .nil) l ρ)) z=some rr:=ee
 cases hs:ρ[i]? with
 |none=>rw[hs] at e0;cases e0
 |some o =>
  cases o with
  |none=>rw[hs] at e0;cases e0
  |some s =>
   rw[hs] at e0;have e1:M.bind (M.of ((plA [plS s]).bind (itD .seq))) (λxs=>K00 (fBody G.F zE.isNone p b) xs ((ρ.set i ((ρ[i]?.getD none).map plS)).map (y30 (W40 [plS s])))) z=some rr:=e0;obtain⟨xs,hx,e2⟩:=M.a00 e1;have r1:=rw.plain i;have sm:=k20 (H:=hz zA H) ow i;have hi:i < ρ.length:=(Ú.mp hs).1;have hsl:(ρ.set i ((ρ[i]?.getD none).map plS))[i]?=some (some (plS s)):=by rw[ß hi,hs];rfl
   obtain⟨w,k1,k2⟩:=r1.wor i _ hsl;obtain⟨ds,h3,h4⟩:=Ë.mp hx;obtain⟨d,rfl,h5⟩:=g51 h3;have hd:Hd X.K (hw (ow0 ow i) (hz zA H)) d w:=by
    cases s with
    |d y=>cases h5;exact k2.2
    |fr ys=>cases h5;exact k2.2
    |_=>cases h5
   obtain⟨ow',r2,sm2⟩:∃ ow',RW X.K H0 zE zA ow' H ((ρ.set i ((ρ[i]?.getD none).map plS)).map (y30 (W40 [plS s]))) σ/\a10 (hw (ow0 ow i) (hz zA H)) (hw ow' (hz zA H)):=by
    rw[P70];cases W40 [plS s] with
    |true=>exact⟨_,r1,a10.refl _⟩|false=>exact⟨_,r1.L30,w90 _⟩
   cases d with
   |tup l =>
    cases h4;obtain⟨a,ys,rfl,m1,m2⟩:=hd.w10;exact⟨a,k1,.inl ⟨⟨ys,(a30 zA H).sqT (a10.sqT i60 m1)⟩,R70 (g21 m1 m2) r2 st sm2 e2 (po.mono (a10.trans sm sm2))⟩⟩
   |lst l =>
    cases h4;obtain⟨a,ys,rfl,m1,m2⟩:=hd.P90;exact⟨a,k1,.inr ⟨⟨ys,((m1.same i60).same (a30 zA H)).sq⟩,R70 (Q70 m1 m2) r2 st sm2 e2 (po.mono (a10.trans sm sm2))⟩⟩
   |_=>cases h4
theorem j32(x:XS lm X G E N sc cn){p:Pat}{it:It}{src:Ex}{b:Sm}{tg iter:Ê}{body:List À0}{pos:Pos}(hp:h70 N (x10 sc) p tg=true)(hi:PI X tg iter (tIt X.K G E it src))(hns:o40 iter=true)(hv:D31 it src=none)(hb:PSs X body (tX X.K G E H0 zE b)) :
  PS X (.For tg iter body [] pos) (tX X.K G E H0 zE (.fr p it src b)):=by
 refine PS.imp (v71 x.own x.calm hi (f91 x.loc hp) hb (h61 hns X.env)) λD σ H q=>?_;obtain⟨zA,ow,ρ,z,rr,rw,st,ee,po⟩:=q;have e0:M.bind (ev G.F src ρ) (λl=>M.bind (M.of ((plA l).bind (itD it))) λxs=>K00 (fBody G.F zE.isNone p b) xs ((P80 it src l ρ).map (y30 (W40 l)))) z=some rr:=ee;rcases M.bind_some e0 with ⟨l,z1,e1,e2⟩ | ⟨c,z1,e1,e2⟩
 ·obtain⟨xs,hx,e3⟩:=M.a00 e2;refine⟨zA,ρ,z,_,rw.y00,st,e1,xs,hx,λJ H1 x1 st1 IT=>?_⟩;have r1:=rw.mono x1;have frz:K00 (fBody G.F zE.isNone p b) xs (L30 ρ) z1=some rr->_:=λe3=>R70 (G:=G) (E:=E) (D:=D) (IT (λ_=>True) (hz zA H1) (a10.refl _) (λ_ _ q=>q) (λ_ _ _ q=>q) (λds hds d hd=>by cases d <;> first | trivial | exact λ_ _=>trivial) λ_ _ q _=>q) r1.L30 st1 (by rw[r20];exact a10.refl _) e3 (po.mono (a10.trans (c00 x1) (w90 ow)))
  rw[P70] at e3;have he:P80 it src l ρ=match W50 l with | true=>L30 ρ | false=>ρ:=by
   unfold P80;rw[hv] <;> cases W50 l <;> rfl
  have tt:L30 (L30 ρ)=L30 ρ:=by
   unfold L30;rw[À4];refine Ë5 λo _=>?_
   match o with
   |none=>rfl|some (.d _)=>rfl|some (.fr _)=>rfl|some .z=>rfl
  cases hl:W50 l with
  |true =>
   rw[hl] at he;rw[he] at e3;dsimp only at e3;rw[tt,ite_self] at e3;exact frz e3
  |false =>
   rw[hl] at he;rw[he] at e3;dsimp only at e3;split at e3
   ·rename_i hbb;refine R70 (IT (λy=>bare y=true) (hw ow (hz zA H1)) i60 (λa ys q=>i01 q r1.y31) (λd v hd q=>w80 r1.y31 hd q) (λds hds d hd=>?_) λa ys q hor=>?_) r1 st1 (a10.refl _) e3 (po.mono (c00 x1))
    ·have h:=hbb;unfold W40 at h;rw[hds] at h;have:=æ.mp h d hd;cases d with
     |tup m=>exact λy hy=>x20 this hy|lst m=>exact λy hy=>x20 this hy|_=>trivial
    ·rcases hor with ⟨hn,hm1⟩ | hm
     ·refine m90.of (h50 (d30 hm1 (st.Q10 hn)) λj w=>?_);obtain⟨zs,k⟩:=rw.lst j a w;rw[hn] at k;cases k
     ·rw[hl] at hm;cases hm
   ·exact frz e3
 ·subst e2;exact⟨zA,ρ,z,_,rw.y00,st,e1,po.er_ rw⟩
end
def isQ:Sm->Bool
 |.nil=>true|.seq _ _=>true|.lams ..=>true|_=>false
def G71:Ê->Bool
 |.IfExp ..=>false|_=>true
def s52:Ê->Bool
 |.SetComp ..=>false|.DictComp ..=>false|_=>true
def mtI(lm:Bool)(fns:List (Str × List Str))(nums:List (Str × Int))(it:It)(src:Ex)(sc:à)(N:List Str)(tg iter:Ê):Bool:=match it with
 |.seq=>mt lm fns nums src sc N [iter]|.rng1=>opt (K01 iter) λr=>r.1.1 == ("range":Str)&&glob sc r.1.1&&mt lm fns nums src sc N [r.1.2.2.1]|.rng2=>opt (K11 iter) λr=>r.1.1 == ("range":Str)&&glob sc r.1.1&&mt lm fns nums src sc N [r.1.2.2.1,r.1.2.2.2.1]|.zip=>opt (K11 iter) λr=>r.1.1 == ("zip":Str)&&glob sc r.1.1&&j70 tg&&mt lm fns nums src sc N [r.1.2.2.1,r.1.2.2.2.1]|.enum=>opt (K01 iter) λr=>r.1.1 == ("enumerate":Str)&&glob sc r.1.1&&j70 tg&&mt lm fns nums src sc N [r.1.2.2.1]
def s62:(p:Pat)->Option {q:Nat × Nat // p=.tup (.cons (.v q.1) (.cons (.v q.2) .nil))}
 |.tup (.cons (.v i) (.cons (.v j) .nil))=>some ⟨(i,j),rfl⟩|_=>none
def s72:(e:Ex)->Option {q:Ex × Ex // e=.tup (.cons q.1 (.cons q.2 .nil))}
 |.tup (.cons a (.cons b .nil))=>some ⟨(a,b),rfl⟩|_=>none
def s82:(e:Ê)->Option {q:Ê × Ê × Nat × Pos // e=.Tuple [q.1,q.2.1] q.2.2.1 q.2.2.2}
 |.Tuple [a,b] k p=>some ⟨(a,b,k,p),rfl⟩|_=>none
def s92(sc:à)(p:Pat)(e:Ex)(tg v:Ê):Bool:=opt (s62 p) λ_=>opt (s72 e) λ_=>opt (m72 tg) λt=>opt (s82 v) λu =>
  !(t.1.1 == t.1.2.2.1)&&sc.names.lookup t.1.1 == some .local&&sc.names.lookup t.1.2.2.1 == some .local&&t.1.2.2.2.1.line == t.1.2.1.line&&noStar u.1.1&&noStar u.1.2.1&&!([u.1.1,u.1.2.1].all (Ó0 8))&&!([u.1.1,u.1.2.1].all (constantsAlone 8))
def isNm:Ê->Bool
 |.Name ..=>true|_=>false
def dkB(_:à)(_ _:Ê):Bool:=false
def setB(sc:à)(p:Pat)(e:Ex)(tg v:Ê):Bool :=
 if isNm tg then(s52 v || dkB sc tg v) else if j70 tg then(if j70 v then(match v with | .Tuple vs _ _=>vs.all (Ó0 8) | _=>false) || (match tg with | .Tuple ts _ _=>ts.any (i41 λy=>sc.names.lookup y) | _=>false) || s92 sc p e tg v else true) else false
def u01:(e:List À0)->Option {q:Ê × Ê × Pos // e=[.Assign [q.1] q.2.1 q.2.2]}
 |[.Assign [tg] v p]=>some ⟨(tg,v,p),rfl⟩|_=>none
def j42:(e:List À0)->Option {q:Option Ê × Pos // e=[.Return q.1 q.2]}
 |[.Return v p]=>some ⟨(v,p),rfl⟩|_=>none
def t02:(e:List À0)->Option {q:Ê × List À0 × List À0 × Pos // e=[.If q.1 q.2.1 q.2.2.1 q.2.2.2]}
 |[.If c a b p]=>some ⟨(c,a,b,p),rfl⟩|_=>none
def j52:(e:List À0)->Option {q:Ê × Ê × List À0 × Pos // e=[.For q.1 q.2.1 q.2.2.1 [] q.2.2.2]}
 |[.For tg iter body [] p]=>some ⟨(tg,iter,body,p),rfl⟩|_=>none
def j62:(e:List À0)->Option {q:Ê × List À0 × Pos // e=[.While q.1 q.2.1 [] q.2.2]}
 |[.While c body [] p]=>some ⟨(c,body,p),rfl⟩|_=>none
def V31:(e:List À0)->Option {q:Ê × Pos // e=[.Raise (some q.1) none q.2]}
 |[.Raise (some x) none p]=>some ⟨(x,p),rfl⟩|_=>none
def G81:(e:List À0)->Option {q:Ê × Pos // e=[.Expr q.1 q.2]}
 |[.Expr v p]=>some ⟨(v,p),rfl⟩|_=>none
def j72:(e:Ê)->Option {q:Str × Pos × Str × Nat × Pos × Pos // e=.Call (.Name q.1 q.2.1) [.Constant (.str q.2.2.1) q.2.2.2.1 q.2.2.2.2.1] [] q.2.2.2.2.2}
 |.Call (.Name n p1) [.Constant (.str y) k p2] [] p3=>some ⟨(n,p1,y,k,p2,p3),rfl⟩|_=>none
def G91:(e:Ê)->Option {q:Str × Pos × Str × Pos × Ê × Pos // e=.Call (.Attribute (.Name q.1 q.2.1) q.2.2.1 q.2.2.2.1) [q.2.2.2.2.1] [] q.2.2.2.2.2}
 |.Call (.Attribute (.Name n p) a ap) [v] [] cp=>some ⟨(n,p,a,ap,v,cp),rfl⟩|_=>none
def t12:(e:Ê)->Option {q:Str × Pos × Nat × Pos × Pos // e=.Subscript (.Name q.1 q.2.1) (.Constant (.int 0) q.2.2.1 q.2.2.2.1) q.2.2.2.2}
 |.Subscript (.Name n p) (.Constant (.int 0) c q1) tp=>some ⟨(n,p,c,q1,tp),rfl⟩|_=>none
def j82:(e:Ê)->Option {q:Str × Pos × Ê × Pos // e=.Subscript (.Name q.1 q.2.1) q.2.2.1 q.2.2.2}
 |.Subscript (.Name n p) w tp=>some ⟨(n,p,w,tp),rfl⟩|_=>none
def t22:(e:Ê)->Option {q:Str × Pos // e=.Name q.1 q.2}
 |.Name n p=>some ⟨(n,p),rfl⟩|_=>none
def u11:Ex->Bool
 |.con .non=>true|_=>false
def mtS(lm:Bool)(fns:List (Str × List Str))(nums:List (Str × Int))(cn:List Str)(sc:à)(N:List Str):Sm->List À0->Bool
 |.nil,ss=>ss.isEmpty|.seq s r,ss=>opt ss.head? λst=>!isQ s&&isQ r&&mtS lm fns nums cn sc N s [st]&&mtS lm fns nums cn sc N r ss.tail
 |.lams i ls g e t r,ss=>match j11 lm fns nums sc N i ls g e ss with
  |some w=>isQ t&&isQ r&&mtS lm fns nums cn sc N t w.body&&mtS lm fns nums cn sc N r w.rest|none=>false
 |.set p e,ss=>opt (u01 ss) λq=>!isL e&&h70 N (x10 sc) p q.1.1&&mt lm fns nums e sc N [q.1.2.1]&&setB sc p e q.1.1 q.1.2.1
 |.ret e,ss=>opt (j42 ss) λq=>match q.1.1 with
  |some v=>!isL e&&mt lm fns nums e sc N [v]|none=>u11 e
 |.iff c t u,ss=>opt (t02 ss) λq=>!isL c&&G71 q.1.1&&isQ t&&isQ u&&mt lm fns nums c sc N [q.1.1]&&mtS lm fns nums cn sc N t q.1.2.1&&mtS lm fns nums cn sc N u q.1.2.2.1|.fr p it src b,ss=>opt (j52 ss) λq=>h70 N (x10 sc) p q.1.1&&isL src&&o40 q.1.2.1&&isQ b&&mtI lm fns nums it src sc N q.1.1 q.1.2.1&&mtS lm fns nums cn sc N b q.1.2.2.1|.whl c b,ss=>opt (j62 ss) λq=>!isL c&&G71 q.1.1&&isQ b&&mt lm fns nums c sc N [q.1.1]&&mtS lm fns nums cn sc N b q.1.2.1|.rais c,ss=>opt (V31 ss) λq=>opt (j72 q.1.1) λr=>cn[c]? == some r.1.1&&glob sc r.1.1|.exp e,ss=>opt (G81 ss) λq=>I80 q.1.1&&!isL e&&mt lm fns nums e sc N [q.1.1]|.app i e,ss=>opt (G81 ss) λq=>opt (G91 q.1.1) λr=>r.1.2.2.1 == ("append":Str)&&N[i]? == some r.1.1&&b30 r.1.1&&noStar r.1.2.2.2.2.1&&!isL e&&r.1.2.2.2.1.endLine == r.1.2.2.2.2.2.line&&mt lm fns nums e sc N [r.1.2.2.2.2.1]|.sti i ix e,ss=>opt (u01 ss) λq=>opt (j82 q.1.1) λr=>N[i]? == some r.1.1&&b30 r.1.1&&w30 r.1.2.2.1&&!isL e&&!isL ix&&mt lm fns nums e sc N [q.1.2.1]&&mt lm fns nums ix sc N [r.1.2.2.1]|.newz i f as,ss=>opt (u01 ss) λq=>opt (t22 q.1.1) λr=>N[i]? == some r.1.1&&x10 sc r.1.1&&I80 q.1.2.1&&mt lm fns nums (.call f as) sc N [q.1.2.1]|.zset i e,ss=>opt (u01 ss) λq=>opt (t12 q.1.1) λr=>N[i]? == some r.1.1&&b30 r.1.1&&!isL e&&mt lm fns nums e sc N [q.1.2.1]|.apop i j e,ss=>opt (G81 ss) λq=>opt (G91 q.1.1) λr=>opt (G91 r.1.2.2.2.2.1) λt=>r.1.2.2.1 == ("append":Str)&&t.1.2.2.1 == ("pop":Str)&&N[i]? == some r.1.1&&b30 r.1.1&&N[j]? == some t.1.1&&b30 t.1.1&&noStar t.1.2.2.2.2.1&&!isL e&&r.1.2.2.2.1.endLine == r.1.2.2.2.2.2.line&&t.1.2.2.2.1.endLine == t.1.2.2.2.2.2.line&&mt lm fns nums e sc N [t.1.2.2.2.2.1]
section
variable {lm:Bool}{X:Cx}{G:Gs}{E:XK}{N:List Str}{sc:à}{cn:List Str}{H0:Hp}{zE:Option Æ}
theorem j92(x:XI lm X G E N sc){it:It}{src:Ex}{tg iter:Ê}(hL:isL src=true)(h:mtI lm G.fns G.nums it src sc N tg iter=true):PI X tg iter (tIt X.K G E it src):=by
 cases it with
 |seq =>
  obtain⟨a,rfl,ga⟩:=h71 hL (sound G src x h);exact y11 ga
 |rng1 =>
  obtain⟨⟨⟨n,_,a,_⟩,rfl⟩,-,h⟩:=a40 h;simp only[Â,beq_iff_eq] at h;exact g61 x h.1.1 h.1.2 hL (sound G src x h.2)
 |rng2 =>
  obtain⟨⟨⟨n,_,a,b,_⟩,rfl⟩,-,h⟩:=a40 h;simp only[Â,beq_iff_eq] at h;exact g71 x h.1.1 h.1.2 hL (sound G src x h.2)
 |zip =>
  obtain⟨⟨⟨n,_,a,b,_⟩,rfl⟩,-,h⟩:=a40 h;simp only[Â,beq_iff_eq] at h;exact h01 x h.1.2 h.1.1.1 h.1.1.2 hL (sound G src x h.2)
 |enum =>
  obtain⟨⟨⟨n,_,a,_⟩,rfl⟩,-,h⟩:=a40 h;simp only[Â,beq_iff_eq] at h;exact R00 x h.1.2 h.1.1.1 h.1.1.2 hL (sound G src x h.2)
theorem R80(h:G71 e=true):∀ t a b p,e≠.IfExp t a b p:=by
 intro t a b p he;subst he;cases h
def GS(X:Cx)(G:Gs)(E:XK)(H0:Hp)(zE:Option Æ)(s:Sm)(ss:List À0):Prop:=(isQ s=true->PSs X ss (tX X.K G E H0 zE s))/\(isQ s=false->∃ st,ss=[st]/\PS X st (tX X.K G E H0 zE s))
theorem l00{s:Sm}{st:À0}(hq:isQ s=false)(h:PS X st (tX X.K G E H0 zE s)):GS X G E H0 zE s [st]:=⟨λk=>(by rw[hq] at k;cases k),λ_=>⟨st,rfl,h⟩⟩
theorem H01{x:XI lm X G E N sc}{e:Ex}{elt:Ê}{gs:List Comprehension}{csc:à}{q:Pos}(h:mt lm G.fns G.nums e sc N [.ListComp elt gs csc q]=true)(hL:isL e=false):∃ tg iter ifs,gs=[⟨tg,iter,ifs,0⟩]/\z20 X G E e elt tg iter ifs csc:=by
 cases e with
 |comp own capt p it src cond el =>
  match gs,h with
  |[⟨tg,iter,ifs,0⟩],h=>exact⟨tg,iter,ifs,rfl,I70 (λx _=>sound G src x) (λx _=>sound G cond x) (λx _=>sound G el x) x h⟩
 |nil=>cases hL
 |cons _ _=>cases hL
 |bf f as=>cases f <;> cases h
 |_=>cases h
theorem H11(h:isNm e=true):∃ y p,e=.Name y p:=by
 cases e <;> first | exact⟨_,_,rfl⟩ | cases h
theorem p90(h:j70 e=true):∃ ts k p,e=.Tuple ts k p:=by
 cases e <;> first | exact⟨_,_,_,rfl⟩ | cases h
theorem k02(x:XS lm X G E N sc cn){p:Pat}{e:Ex}{tg v:Ê}{pos:Pos}(h1:(!isL e)=true)(h2:h70 N (x10 sc) p tg=true)(h3:mt lm G.fns G.nums e sc N [v]=true)(h4:setB sc p e tg v=true):PS X (.Assign [tg] v pos) (tX X.K G E H0 zE (.set p e)):=by
 have g:=a50 (b40 h1) (sound G e x.toXI h3);unfold setB at h4;split at h4
 ·rename_i hn;obtain⟨y,px,rfl⟩:=H11 hn;cases p with
  |v i =>
   unfold h70 at h2;rw[Â,beq_iff_eq] at h2;refine i22 x h2.1 h2.2 g (λelt gs csc q hv=>?_) (λa b c d hv=>?_) (λa b c d f hv=>?_)
   ·subst hv;exact H01 (x:=x.toXI) h3 (b40 h1)
   ·subst hv;cases h4
   ·subst hv;cases h4
  |tup _=>unfold h70 at h2;cases h2
  |nil=>unfold h70 at h2;cases h2
  |cons _ _=>unfold h70 at h2;cases h2
 ·split at h4
  ·rename_i ht;split at h4
   ·rename_i hv;rw[Ã9,Ã9] at h4;rcases h4 with (h4 | h4) | h4
    ·obtain⟨ts,k,tp,rfl⟩:=p90 ht;obtain⟨vs,k',vp,rfl⟩:=p90 hv;exact i51 x h2 g rfl (G01 h4)
    ·obtain⟨ts,k,tp,rfl⟩:=p90 ht;obtain⟨vs,k',vp,rfl⟩:=p90 hv;refine i51 x h2 g rfl (G11 ?_);have e:X.env.kindOf=λy=>sc.names.lookup y:=by funext y;unfold Env.kindOf;rw[x.sco]
     rw[e];exact h4
    ·clear g h1 ht hv;obtain⟨⟨⟨i,j⟩,rfl⟩,-,h4⟩:=a40 h4;obtain⟨⟨⟨ea,eb⟩,rfl⟩,-,h4⟩:=a40 h4;obtain⟨⟨⟨y,px,w,py,kt,tp⟩,rfl⟩,-,h4⟩:=a40 h4;obtain⟨⟨⟨a,b,kv,vp⟩,rfl⟩,-,h4⟩:=a40 h4;simp only[Â,î,beq_iff_eq] at h4;obtain⟨⟨⟨⟨⟨⟨⟨k1,k2⟩,k3⟩,k4⟩,k5⟩,k6⟩,k7⟩,k8⟩:=h4;unfold h70 at h2;simp only[W80,h70,Â,beq_iff_eq] at h2;obtain⟨⟨_,h21,_⟩,⟨_,h22,_⟩,_⟩:=h2;have h3':(isL (.cons ea (.cons eb .nil))&&mt lm G.fns G.nums (.cons ea (.cons eb .nil)) sc N [a,b])=true:=h3;rw[Â] at h3';have ga:Good X G E (.cons ea (.cons eb .nil)) [a,b]:=sound G (.cons ea (.cons eb .nil)) x.toXI h3'.2;refine i32 x h21 h22 (by simpa using k1) k2 k3 ga (T51 x.bk ?_ ?_ (by simpa using k1) (by rw[k4];exact beq_self_eq_true _) k5 k6 k7 k8)
     ·unfold Env.kindOf;rw[x.sco];exact k2
     ·unfold Env.kindOf;rw[x.sco];exact k3
   ·rename_i hv;exact i51 x h2 g ht (F91 (by simpa using hv))
  ·cases h4
theorem j21(h:u11 e=true):e=.con .non:=by
 unfold u11 at h;split at h
 ·rfl
 ·cases h
theorem k12(x:XS lm X G E N sc cn)(h:(match o with | some v=>!isL e&&mt lm G.fns G.nums e sc N [v] | none=>u11 e)=true):PS X (.Return o pos) (tX X.K G E H0 zE (.ret e)):=by
 cases o with
 |some v =>
  have h:(!isL e&&mt lm G.fns G.nums e sc N [v])=true:=h;rw[Â] at h;by_cases hv:∃ i,e=.var i
  ·obtain⟨i,rfl⟩:=hv;have h2:=h.2;cases v with
   |Name n p =>
    have h2:(N[i]? == some n&&b30 n)=true:=h2;rw[Â,beq_iff_eq] at h2;exact T61 x h2.1 h2.2
   |_=>cases h2
  ·exact i42 (λi hi=>hv ⟨i,hi⟩) (a50 (b40 h.1) (sound G e x.toXI h.2))
 |none =>
  have he:=j21 h;subst he;refine PS.imp A31 λD σ H q=>?_;obtain⟨zA,ow,ρ,z,rr,rw,st,ee,po⟩:=q;cases ee;exact po .non H (λk=>nomatch k) rw.ext (K21 rw.zok st) (show Hd X.K (hz zE H) .non .non from Hd.non)
theorem t32(x:XS lm X G E N sc cn){p:Pat}{it:It}{src:Ex}{b:Sm}{tg iter:Ê}{body:List À0}{pos:Pos}(h1:h70 N (x10 sc) p tg=true)(h2:isL src=true)(h3:o40 iter=true)(h5:mtI lm G.fns G.nums it src sc N tg iter=true)(hb:PSs X body (tX X.K G E H0 zE b)) :
  PS X (.For tg iter body [] pos) (tX X.K G E H0 zE (.fr p it src b)):=by
 cases hv:D31 it src with
 |some q =>
  obtain⟨i,rfl,rfl⟩:=q;have h5':(noStar iter&&!isL (.var i)&&isL .nil&&mt lm G.fns G.nums (.var i) sc N [iter]&&mt lm G.fns G.nums .nil sc N [])=true:=h5;simp only[Â] at h5';have h7:=h5'.1.2;cases iter with
  |Name n np =>
   have h7:(N[i]? == some n&&b30 n)=true:=h7;rw[Â,beq_iff_eq] at h7;exact V21 x h1 h7.1 h7.2 hb
  |_=>cases h7
 |none=>exact j32 x h1 (j92 x.toXI h2 h5) h3 hv hb
theorem V41(x:XS lm X G E N sc cn):∀ (s:Sm) {ss:List À0},mtS lm G.fns G.nums cn sc N s ss=true->GS X G E H0 zE s ss:=by
 intro s
 induction s with
 |nil =>
  intro ss h;have:ss=[]:=Í3.mp h;subst this;exact⟨λ_=>h92,λk=>by cases k⟩
 |seq s r ihs ihr =>
  intro ss h;obtain⟨st,h0,h⟩:=a40 h;cases ss with
  |nil=>cases h0
  |cons st' rest =>
   cases h0;simp only[Â,î,List.tail_cons] at h;obtain⟨⟨⟨h1,h2⟩,h3⟩,h4⟩:=h;obtain⟨st',he,hs⟩:=(ihs h3).2 h1;cases he;exact⟨λ_=>i02 hs ((ihr h4).1 h2),λk=>by cases k⟩
 |lams i ls g e t r iht ihr =>
  intro ss h;have h:(match j11 lm G.fns G.nums sc N i ls g e ss with
   |some w=>isQ t&&isQ r&&mtS lm G.fns G.nums cn sc N t w.body&&mtS lm G.fns G.nums cn sc N r w.rest
   |none=>false)=true:=h
  cases hw:j11 lm G.fns G.nums sc N i ls g e ss with
  |none=>rw[hw] at h;cases h
  |some w =>
   rw[hw] at h;have h:(isQ t&&isQ r&&mtS lm G.fns G.nums cn sc N t w.body&&mtS lm G.fns G.nums cn sc N r w.rest)=true:=h;simp only[Â] at h;obtain⟨⟨⟨h1,h2⟩,h3⟩,h4⟩:=h;exact⟨λ_=>V01 x hw ((iht h3).1 h1) ((ihr h4).1 h2),λk=>by cases k⟩
 |set p e =>
  intro ss h;obtain⟨⟨q,rfl⟩,-,h⟩:=a40 h;simp only[Â] at h;exact l00 rfl (k02 x h.1.1.1 h.1.1.2 h.1.2 h.2)
 |ret e =>
  intro ss h;obtain⟨⟨q,rfl⟩,-,h⟩:=a40 h;exact l00 rfl (k12 x h)
 |iff c t u iht ihu =>
  intro ss h;obtain⟨⟨q,rfl⟩,-,h⟩:=a40 h;simp only[Â] at h;obtain⟨⟨⟨⟨⟨⟨h1,h2⟩,h3⟩,h4⟩,h5⟩,h6⟩,h7⟩:=h;exact l00 rfl (s22 (a50 (b40 h1) (sound G c x.toXI h5)) (R80 h2) ((iht h6).1 h3) ((ihu h7).1 h4))
 |fr p it src b ih =>
  intro ss h;obtain⟨⟨q,rfl⟩,-,h⟩:=a40 h;simp only[Â] at h;obtain⟨⟨⟨⟨⟨h1,h2⟩,h3⟩,h4⟩,h5⟩,h6⟩:=h;exact l00 rfl (t32 x h1 h2 h3 h5 ((ih h6).1 h4))
 |whl c b ih =>
  intro ss h;obtain⟨⟨q,rfl⟩,-,h⟩:=a40 h;simp only[Â] at h;obtain⟨⟨⟨⟨h1,h2⟩,h3⟩,h4⟩,h5⟩:=h;exact l00 rfl (i82 x (a50 (b40 h1) (sound G c x.toXI h4)) (R80 h2) ((ih h5).1 h3))
 |rais c =>
  intro ss h;obtain⟨⟨⟨e,pos⟩,rfl⟩,-,h⟩:=a40 h;dsimp only at h;obtain⟨⟨⟨n,p1,y,k,p2,p3⟩,rfl⟩,-,h⟩:=a40 h;simp only[Â,beq_iff_eq] at h;exact l00 rfl (x_raise x h.1 h.2)
 |exp e =>
  intro ss h;obtain⟨⟨q,rfl⟩,-,h⟩:=a40 h;simp only[Â] at h;exact l00 rfl (i52 (a50 (b40 h.1.2) (sound G e x.toXI h.2)) h.1.1)
 |app i e =>
  intro ss h;obtain⟨⟨⟨v0,pos⟩,rfl⟩,-,h⟩:=a40 h;dsimp only at h;obtain⟨⟨⟨n,p1,a,apos,v,cpos⟩,rfl⟩,-,h⟩:=a40 h;simp only[Â,beq_iff_eq] at h;obtain⟨⟨⟨⟨⟨⟨h7,h8⟩,h2⟩,h3⟩,h4⟩,h5⟩,h6⟩:=h;subst h7;exact l00 rfl (i62 x h8 h2 h3 (a50 (b40 h4) (sound G e x.toXI h6)) (by rw[h5];exact beq_self_eq_true _))
 |sti i ix e =>
  intro ss h;obtain⟨⟨⟨tg,v,pos⟩,rfl⟩,-,h⟩:=a40 h;dsimp only at h;obtain⟨⟨⟨n,p1,w,tp⟩,rfl⟩,-,h⟩:=a40 h;simp only[Â,beq_iff_eq] at h;obtain⟨⟨⟨⟨⟨⟨h1,h2⟩,h3⟩,h4⟩,h5⟩,h6⟩,h7⟩:=h;exact l00 rfl (i72 x h1 h2 (a50 (b40 h4) (sound G e x.toXI h6)) (a50 (b40 h5) (sound G ix x.toXI h7)) h3)
 |newz i f as =>
  intro ss h;obtain⟨⟨⟨tg,v,pos⟩,rfl⟩,-,h⟩:=a40 h;dsimp only at h;obtain⟨⟨⟨y,p1⟩,rfl⟩,-,h⟩:=a40 h;simp only[Â,beq_iff_eq] at h;obtain⟨⟨⟨h1,h2⟩,h3⟩,h4⟩:=h;exact l00 rfl (T71 x h1 h2 (a50 rfl (sound G (.call f as) x.toXI h4)) h3)
 |zset i e =>
  intro ss h;obtain⟨⟨⟨tg,v,pos⟩,rfl⟩,-,h⟩:=a40 h;dsimp only at h;obtain⟨⟨⟨n,p1,c,p2,p3⟩,rfl⟩,-,h⟩:=a40 h;simp only[Â,beq_iff_eq] at h;exact l00 rfl (T81 x h.1.1.1 h.1.1.2 (a50 (b40 h.1.2) (sound G e x.toXI h.2)))
 |apop i j e =>
  intro ss h;obtain⟨⟨⟨v0,pos⟩,rfl⟩,-,h⟩:=a40 h;dsimp only at h;obtain⟨⟨⟨n,p1,a,apos,v1,cpos⟩,rfl⟩,-,h⟩:=a40 h;dsimp only at h;obtain⟨⟨⟨m,p2,b,apos',v,cpos'⟩,rfl⟩,-,h⟩:=a40 h;simp only[Â,beq_iff_eq] at h;obtain⟨⟨⟨⟨⟨⟨⟨⟨⟨⟨g1,g2⟩,g3⟩,g4⟩,g5⟩,g6⟩,g7⟩,g8⟩,g9⟩,g10⟩,g11⟩:=h;subst g1;subst g2;exact l00 rfl (T91 x g3 g4 g5 g6 g7 (a50 (b40 g8) (sound G e x.toXI g11)) (by rw[g9];exact beq_self_eq_true _) (by rw[g10];exact beq_self_eq_true _))
end
structure GX(P:Program)(w:World)(K:PySem.W.Frag)(mg:Str->Option Value)(base:Heap)(G:Gs)(cn:List Str):Prop where
 gok:∀ f nm ps,G.fns[f]?=some (nm,ps)->∃ fa fd,mg nm=some (.ref fa)/\PySem.W.keepIn K (.ref fa)=true/\Binds K fd ps []/\y10 P w K mg base (CX1 P w) G.lv fa fd ps (spF K G f ps.length)
 num:∀ p∈G.nums,∃ t,mg p.1=some (.int p.2 t)
 blt:∀ n∈F11,mg n=none
 cls:∀ c x,cn[c]?=some x->mg x=some (.ref (G.cls c))/\PySem.W.excIn K (G.cls c) [.type "ValueError",.type "Exception",.type "BaseException",.type "object"] "ValueError.__new__"=true
section
variable {P:Ø}{w:ì}{K:À}{mg:Str->Option Ã}{base:á}{G:Gs}{cn:List Str}
abbrev u21:List Str:=["_law_call","_law_due_here"]
def j31(p1 p2 p3 p4 p5 p6 p7 p8 p9 p10 p11 p12 p13 p14 p15 p16 p17:Pos):List Stmt:=[.If (.Compare (.Name "_law_due_here" p1) [.Is] [.Constant .none 0 p2] p3) [.Return (some (.Compare (.Call (.Name "_law_refused" p4) [.Name "_law_call" p5] [] p6) [.Eq] [.List [.Constant (.int 8) 0 p7] p8] p9)) p10] [] p11,
 .Return (some (.Call (.Name "_law_same" p12) [.Call (.Name "_law_call" p13) [] [] p14,.Name "_law_due_here" p15] [] p16)) p17]
structure a22(st:Stmt):Prop where
 sc:h00 u21 u21 (b10 st)
 loc:u21.all (x10 (b10 st))=true
 g1:glob (b10 st) "_law_refused"=true
 g2:glob (b10 st) "_law_same"=true
 bd:∃ p1 p2 p3 p4 p5 p6 p7 p8 p9 p10 p11 p12 p13 p14 p15 p16 p17,f50 st=j31 p1 p2 p3 p4 p5 p6 p7 p8 p9 p10 p11 p12 p13 p14 p15 p16 p17
abbrev n12(n k:Nat):Prop:=k + 3<=n
abbrev lvU(k:Nat):Nat:=k + k
structure V51(P:Program)(w:World)(K:PySem.W.Frag)(mg:Str->Option Value)(base:Heap)(cls:Nat->Addr)(fR:Addr)(fdR:FuncData):Prop where
 bm:BMain mg base
 cls:∀ j,j < 12->v70 K mg (cls j) j
 m:mg "_law_refused"=some (.ref fR)
 kp:PySem.W.keepIn K (.ref fR)=true
 bd:Binds K fdR ["_law_call"] []
 fn:∀ k,y20 P w K mg base CX0 (k + 2) fR fdR ["_law_call"] (D11 P w K mg base (k + 1))
 rg:∃ (st:Stmt) (fQ:Addr) (fdQ:FuncData),mg "_law_right"=some (.ref fQ)/\PySem.W.keepIn K (.ref fQ)=true/\Binds K fdQ u21 []/\Fun K "_law_right" "_law_right" st fQ fdQ/\a22 st
def a32(K:À)(nm:Str)(fd:ø):Prop:=∃ (c P:Æ) (q:Str),fd.code=.ref c/\Â2 K c P=true/\(∀ sc n f cd,(Ê6 nm sc n f cd).qual++"<lambda>"=q)/\(P,q)∈TB.tb/\∀ p∈TB.tb,p.1=P->p.2=q
def Low(P:Ø)(w:ì)(K:À)(mg:Str->Option Ã)(base:á)(G:Gs)(k:Nat):Prop:=∀ f nm ps,G.fns[f]?=some (nm,ps)->∃ fa fd,mg nm=some (.ref fa)/\Ç7 K (.ref fa)=true/\Binds K fd ps []/\y10 P w K mg base (CX1 P w) k fa fd ps (spF K (lowG G k) f ps.length)
theorem H21{f n:Nat}{vs:List V}{H:Hp}{Q:VK}{E:XK}{G:Gs}(h:spF K G f n vs H Q λ_ _ _=>False):spF K G f n vs H Q E:=by
 obtain⟨h1,zA,z,ss,r,a,b,c,po⟩:=h;refine⟨h1,zA,z,ss,r,a,b,c,?_⟩;cases r with
 |ok s z'=>exact po|er c z'=>exact λe H' x s n=>(po e H' x s n).elim
theorem u31(g:GX P w K mg base G cn){st:À0}{f:Æ}{fd:ø}{k sm:Nat}{q:Str}{fR:Æ}{fdR:ø}{ps:List Str}(Fn:Fun K "_law_right" "_law_right" st f fd)(D:a22 st)(L:V51 P w K mg base G.cls fR fdR)(lo:Low P w K mg base G k)(hf:G.fns[sm]?=some (("_law_same":Str),ps))(hps:ps.length=2):y20 P w K mg base (CX1 P w) (k + 3) f fd u21 (R11 P w K mg base G k q sm):=by
 obtain⟨Sc,hl,g1,g2,p1,p2,p3,p4,p5,p6,p7,p8,p9,p10,p11,p12,p13,p14,p15,p16,p17,eb⟩:=D;obtain⟨oc,od,kV,doc,pm,an,cdv,ct,osl,rfl,lk,hcd⟩:=Fn.ex;refine w71 lk hcd Sc (λs vs H Q E h=>?_) λA outer s H vs Q E hr hsp=>?_
 ·obtain⟨_,_,_,_,_,_,_,rfl,_⟩:=h;rfl
 obtain⟨Xl,t,ws,dv,d,zA,z,rfl,⟨rfl,rfl,rfl,rfl,rfl⟩,lf,la,FR,stz,hd,r⟩:=hsp;rw[eb];unfold j31;obtain⟨a1,a2,a3⟩:=c90 g1;obtain⟨b1,b2,b3⟩:=c90 g2;obtain⟨fa,fd',c1,c2,c3,Fs⟩:=lo sm _ ps hf;generalize hX:x90 (CX1 Xl.prog Xl.w) Xl.prog Xl.w Xl.K Xl.mg Xl.base u21 "_law_right" (b10 st) f cdv A outer s H E=X;have xi:XI false X (lowG G k) E u21 (b10 st):=by
  subst hX;have vis:∀ x∈u21,Vis (b10 st) x:=λx hx=>by
   have:=æ.mp hl x hx;unfold x10 at this;rw[Ã9,beq_iff_eq,beq_iff_eq] at this;rcases this with h | h
   ·exact .inl h
   ·exact .inr (.inl h)
  exact { gok:=lo,num:=g.num,blt:=g.blt,hN:=rfl,nd:=Sc.nd,vis:=vis,glb:=λy h=>h,cel:=λy h=>h,calm:=rfl,room:=hr.mono (by show k<=k + 2;omega),pas:=C81,lam:=λh=>nomatch h }
 have hp:X.prog=Xl.prog/\X.w=Xl.w/\X.K=Xl.K/\X.mg=Xl.mg/\X.base=Xl.base/\X.ex=[]/\X.H₀=H/\X.s₀=s/\l20 (k + 2) X.A:=by subst hX;exact⟨rfl,rfl,rfl,rfl,rfl,rfl,rfl,rfl,hr⟩
 obtain⟨q1,q2,q3,q4,q5,q6,q7,q8,hrX⟩:=hp;have fr:∀ {pins:List (Æ × Obj)}{σ':L2.St}{H':Hp}{s':Å},Inv X pins σ' H' s'->q90 t.lsc t.cl t.N ws H' s'.heap:=λI=>by
  have u:=I.base;rw[q6,q7,q8] at u;exact FR.later u
 have n0:X.N[0]?=some ("_law_call":Str):=by rw[xi.hN];rfl
 have n1:X.N[1]?=some ("_law_due_here":Str):=by rw[xi.hN];rfl
 have v0:Vis X.env.scope "_law_call":=by subst hX;exact xi.vis _ (-0)
 have v1:Vis X.env.scope "_law_due_here":=by subst hX;exact xi.vis _ (-0)
 have hu:X.A.units + 64 < cLine:=xi.room.units;have gl1:=xi.glb _ a1;have gl2:=xi.glb _ b1;subst hX;refine⟨_,d50 (Y40 (B10 (n01 hu .is) (e20 n1 v1) O30 (w40 rfl _))
   (A60 (y50 (Y80 (n01 hu .eq) (s30 (k:=k) (i:=0) (Ok:=λa cls RR H'=>a=t.f/\r41 H' q t/\Raises Xl q k H' t ws cls RR) (L.fn k) hrX gl1 L.m L.kp L.bd n0 v0 rfl rfl (λpins σ' H' s' I' a cls RR ok=>by
    obtain⟨rfl,la',rs⟩:=ok;exact P40 (X:=Xl) lf la' (fr I') rs)) (O80 (c40 F50 h80)) (w40 rfl _)))) u40)
  (A60 (y50 (Z20 Fs (hrX.mono ∅) gl2 c1 c2 c3 .nil C81 (c40 (d51 (k:=k) (i:=0) (Ok:=λa gv H'=>a=t.f/\r41 H' q t/\Gives Xl q k H' t ws gv) (hrX.mono ∅) n0 v0 rfl rfl (λpins σ' H' s' I' a gv ok=>by
    obtain⟨rfl,la',rs⟩:=ok;exact d41 (X:=Xl) lf la' (fr I') rs)) (c40 (e20 n1 v1) h80))))),?_⟩
 refine⟨dv,rfl,zA,z,d,.non,.d (.bl (h90 d)),stz,hd,Hd.non,by cases d <;> rfl,λv H' sm rv=>⟨h90 d,?_,?_⟩⟩
 ·cases rv;rfl
 have la':r41 H' q t:=⟨sm _ _ la.1,sm _ _ la.2⟩;rcases r with ⟨e,C,j,z1,RR,rs,rc,h1,h2⟩ | ⟨e,gv,gg,h2⟩
 ·rw[e];refine q02 ⟨t.f,.ref C,RR,rfl,⟨rfl,la',λA' o' s' H3 hr' sm'=>rs A' o' s' H3 hr' (sm.trans sm')⟩,λs2 th=>⟨t.f,C,j,RR,rfl,th,rc,λl H1 H2 r1 sm2 nl=>?_⟩⟩;unfold l82;refine⟨q80 (by show 1<=64;decide),λp hp=>?_⟩
  have s1:=h1 _ r1;have st2:c50 zA z1 H2:=s1.same sm2;have x3:a10 H2 (upd H2 l (.lst [.int j])):=a10.new _ nl;have st3:=st2.same x3;have x4:a10 (upd H2 l (.lst [.int j])) (upd (upd H2 l (.lst [.int j])) p (.lst [.int 8])):=a10.new _ hp;have hd1:Hd Xl.K (hz zA (upd H2 l (.lst [.int j]))) (.lst [.int j]) (.ref l):=(k90 (xs:=[.int j]) (ys:=[.int j]) st2 (.cons .int .nil) nl).pl;have hd2:Hd Xl.K (hz zA (upd (upd H2 l (.lst [.int j])) p (.lst [.int 8]))) (.lst [.int 8]) (.ref p):=(k90 (xs:=[.int 8]) (ys:=[.int 8]) st3 (.cons .int .nil) hp).pl;have ec:q40 .eq (.lst [.int j]) (.lst [.int 8])=some (j == 8):=by
   show some (eqD _ _)=_;have:((j:Int) == 8)=(j == 8):=by
    rw[Bool.eq_iff_iff,beq_iff_eq,beq_iff_eq];omega
   rw[← this];simp[eqD,J71]
  refine⟨zA,z1,_,_,.d (.bl (j == 8)),st3.same x4,hd1.same (h30 x4),hd2,by show Æ9 _ (q40 _ _ _)=_;rw[ec];rfl,λv H5 sm5 rv=>?_⟩
  cases rv;exact h2 H1 H5 r1 (sm2.trans (x3.trans (x4.trans sm5)))
 ·rw[e];refine m02 ⟨t.f,_,rfl,⟨rfl,la',(Gives.weak gg).same sm⟩,_,h2 H' sm,λv H2 h=>⟨dv,rfl,?_⟩⟩;rw[hps];exact H21 h
theorem V61(g:GX P w K mg base G cn){lm:Bool}{N ps:List Str}{qual:Str}{sc:à}{f:Æ}{fd:ø}{cd:Ã}{A:ï}{outer:List Å0}{s:Å}{H:Hp}{E:XK}(S:h00 N ps sc)(hl:N.all (x10 sc)=true)
  (hr:l20 G.lv (A.deeper (Ê6 qual sc s.heap.objs.size f cd))) (hc:fd.code=cd) (hlam:lm=true->∃ k fR fdR,n12 G.lv k/\V51 P w K mg base G.cls fR fdR/\a32 K qual fd/\Low P w K mg base G k):XS lm (x90 (CX1 P w) P w K mg base N qual sc f cd A outer s H E) G E N sc cn where
 gok:=g.gok
 num:=g.num
 blt:=g.blt
 hN:=rfl
 nd:=S.nd
 vis:=λx hx=>by
  have:=æ.mp hl x hx;unfold x10 at this;rw[Ã9,beq_iff_eq,beq_iff_eq] at this;rcases this with h | h
  ·exact .inl h
  ·exact .inr (.inl h)
 glb:=λx h=>h
 cel:=λx h=>h
 calm:=rfl
 room:=hr
 pas:=C81
 lam:=λh=>by
  obtain⟨k,fR,fdR,e1,L,⟨c,P',q,d1,d2,d3,d4,d5⟩,lo⟩:=hlam h;obtain⟨stQ,fQ,fdQ,r1,r2,r3,r4,r5⟩:=L.rg;exact⟨c,P',q,k,fR,fdR,rfl,hc.symm.trans d1,d2,d3 _ _ _ _,d4,d5,L.bm,e1,L.cls,L.m,L.kp,L.bd,L.fn k,lo,fQ,fdQ,r1,r2,r3,λsm ps hf hps=>u31 g r4 r5 L lo hf hps⟩
 sco:=rfl
 fnk:=S.kind
 own:=PassesOwn.leaving
 can:=c51
 fnx:=λ_=>rfl
 cls:=g.cls
theorem t42{x qual:Str}{st:À0}{f:Æ}{fd:ø}{N ps:List Str}{k:Nat}{sp:Sp}(F:Fun K x qual st f fd)(S:h00 N ps (b10 st))(len:∀ vs H Q E,sp vs H Q E->vs.length=ps.length)
  (hb:∀ (cdv:Ã),fd.code=cdv->∀ (A:ï) (outer:List Å0) (s:Å) (H:Hp) (vs:List V) (Q:VK) (E:XK),l20 k (A.deeper (Ê6 qual (b10 st) s.heap.objs.size f cdv))->sp vs H Q E ->
   ∃ t,PSs (x90 (CX1 P w) P w K mg base N qual (b10 st) f cdv A outer s H E) (f50 st) t/\t { nx:=λ_ H'=>Q .non H',rt:=Q } (L2.start N vs) H):y10 P w K mg base (CX1 P w) (k + 1) f fd ps sp:=by
 obtain⟨oc,od,kV,doc,pm,an,cdv,ct,osl,rfl,lk,hcd⟩:=F.ex;exact c32 lk hcd S len λA outer s H vs Q E hr hsp=>hb cdv rfl A outer s H vs Q E hr hsp
theorem R90:∀ {ss:List S}{vs:List V}{i:Nat}{s:S}{n:Nat},RvA K zA H ss vs->(ss.map some++ã n none)[i]?=some (some s)->∃ v,(vs.map some++ã n none)[i]?=some (some v)/\RvP K zA H s v
 |[],_,i,s,n,h,e=>by
  cases h;simp only[map_nil,nil_append] at e;rw[Í4] at e;split at e <;> cases e
 |a::ss,_,0,s,n,h,e=>by
  cases h with
  |cons h1 h2 =>
   simp only[Ë4,List.cons_append,Ç8] at e;cases e;exact⟨_,rfl,h1⟩
 |a::ss,_,i + 1,s,n,h,e=>by
  cases h with
  |cons h1 h2 =>
   obtain⟨v,k1,k2⟩:=R90 (i:=i) (s:=s) (n:=n) h2 (by simpa using e)
   exact⟨v,by simpa using k1,k2⟩
theorem À1.len{α β:Type}{R:α->β->Prop}:∀ {l:List α}{m:List β},À1 R l m->l.length=m.length
 |[],_,h=>by cases h;rfl
 |_::_,_,h=>by
  cases h with
  |cons h1 h2=>simp[À1.len h2]
theorem u41(h:RvA K zA H ss vs)(hn:∀ s∈ss,∀ xs,s≠.fr xs):RW K H zA zA (λ_=>none) H (Q.start N.length ss) (L2.start N vs):=by
 have hl:ss.length=vs.length:=À1.len h;refine⟨?_,λi j a e=>(nomatch e),λi a e=>(nomatch e),λi a e=>(nomatch e),λi s e=>?_,Ext.refl,.inl rfl,λi a e=>(nomatch e)⟩
 ·unfold Q.start L2.start;simp[hl]
 ·unfold Q.start at e;obtain⟨v,k1,k2⟩:=R90 h e;refine⟨v,?_,?_⟩
  ·unfold L2.start;rw[← hl];exact k1
  ·cases s with
   |d x=>exact⟨rfl,by rw[r20];exact k2⟩|z=>exact⟨rfl,k2⟩
   |fr xs =>
    rcases Ç1.mp (Ü e) with q | q
    ·obtain⟨s',q1,q2⟩:=Þ.mp q;cases q2;exact absurd rfl (hn _ q1 xs)
    ·cases Õ8 q
theorem H31(st:c50 zA z H):Z91 zA z1=p50 z z1:=by
 have st:=st.zat;cases zA with
 |none =>
  cases z with
  |none=>rfl|some p=>exact st.elim
 |some a =>
  cases z with
  |none=>exact st.elim|some p=>rfl
theorem j41(st:c50 zA z H):z.isNone=zA.isNone:=by
 have st:=st.zat;cases zA with
 |none =>
  cases z with
  |none=>rfl|some p=>exact st.elim
 |some a =>
  cases z with
  |none=>exact st.elim|some p=>rfl
theorem j51(g:GX P w K mg base G cn){lm:Bool}{N ps:List Str}{nm:Str}{st:À0}{fa:Æ}{fd:ø}{b:Sm}{f:Nat}{F':FT}(Fn:Fun K nm nm st fa fd)(Sc:h00 N ps (b10 st))(hl:N.all (x10 (b10 st))=true)
  (ch:mtS lm G.fns G.nums cn (b10 st) N b (f50 st)=true) (hq:isQ b=true) (hlam:lm=true->∃ k fR fdR,n12 G.lv k/\V51 P w K mg base G.cls fR fdR/\a32 K nm fd/\Low P w K mg base G k)
  (hF:∀ l z,F' false f l z=run G.F (.code ps.length N.length b) l z):y10 P w K mg base (CX1 P w) (G.lv + 1) fa fd ps (spF K { G with F:=F',lv:=G.lv + 1 } f ps.length):=by
 refine t42 Fn Sc (λvs H Q E h=>h.1) λcdv hcd A outer s H vs Qv E hr hsp=>?_;obtain⟨hlen,zA,z,ss,r,rv,st',e,po⟩:=hsp;refine⟨_,(V41 (H0:=H) (zE:=zA) (V61 g Sc hl hr hcd hlam) b ch).1 hq,?_⟩;have e0:(if ss.length=ps.length/\ps.length<=N.length then(match ex G.F z.isNone b (Q.start N.length (ss.map plS)) z with
  |some (.ok (.nx _) z1)=>some (R.ok (S.d .non) (p50 z z1))|some (.ok (.rt s) z1)=>some (R.ok s (p50 z z1))|some (.er c z1)=>some (R.er c (p50 z z1))
  |none=>none) else none)=some r:=by
  have:=hF ss z;exact this.symm.trans e
 rw[j41 st'] at e0;split at e0
 ·have rw0:RW K H zA zA (λ_=>none) H (Q.start N.length (ss.map plS)) (L2.start N vs):=u41 rv.plS λs hs xs=>by
   obtain⟨s',_,rfl⟩:=Þ.mp hs;cases s' <;> exact λh=>nomatch h
  split at e0
  ·rename_i ρ z1 e1;cases e0;refine⟨zA,_,_,z,_,rw0,st',e1,λzA' ow' σ' H' r' st1 _=>?_⟩;refine po .non H' r'.ext ?_ (show Hd K (hz zA H') .non .non from Hd.non);rw[← H31 st'];exact K21 r'.zok st1
  ·rename_i s1 z1 e1;cases e0;refine⟨zA,_,_,z,_,rw0,st',e1,λv H' nz x st1 rv'=>?_⟩;exact po v H' x (by rw[← H31 st'];exact st1) rv'
  ·rename_i c z1 e1;cases e0;refine⟨zA,_,_,z,_,rw0,st',e1,λe H' x st1 hn=>?_⟩;exact po e H' x (by rw[← H31 st'];exact st1) hn
  ·cases e0
 ·cases e0
def lev(G:Gs)(T:List Df)(k:Nat):Gs:={ G with F:=w00 T k,lv:=lvU k }
theorem V71{T:List Df}
  (num:∀ p∈G.nums,∃ t,mg p.1=some (.int p.2 t)) (blt:∀ n∈F11,mg n=none)
  (cls:∀ c x,cn[c]?=some x->mg x=some (.ref (G.cls c))/\È6 K (G.cls c) [.type "ValueError",.type "Exception",.type "BaseException",.type "object"] "ValueError.__new__"=true)
  (hd:∀ (f:Nat) (nm:Str) (ps:List Str),G.fns[f]?=some (nm,ps)->∃ (fa:Æ) (fd:ø),mg nm=some (.ref fa)/\Ç7 K (.ref fa)=true/\Binds K fd ps [] /\
   ((∃ (lm:Bool) (N:List Str) (st:À0) (b:Sm),T[f]?=some (Df.code ps.length N.length b)/\Fun K nm nm st fa fd/\h00 N ps (b10 st)/\N.all (x10 (b10 st))=true/\isQ b=true/\mtS lm G.fns G.nums cn (b10 st) N b (f50 st)=true/\(lm=true->∃ fR fdR,V51 P w K mg base G.cls fR fdR/\a32 K nm fd)) ∨
    T[f]?=none)):∀ k,GX P w K mg base (lev G T k) cn:=by
 have zero:∀ k,k < 3->GX P w K mg base (lev G T k) cn:=λk hk=>by
  refine⟨λf nm ps h=>?_,num,blt,cls⟩;obtain⟨fa,fd,h1,h2,h3,_⟩:=hd f nm ps h;refine⟨fa,fd,h1,h2,h3,λvs H Q E q=>q.1,λA outer s H args us vs Q E hr he hb hv hs=>?_⟩;obtain⟨_,zA,z,ss,r,_,_,e,_⟩:=hs
  match k,hk with
  |0,_=>cases e
  |1,_=>cases e
  |2,_=>cases e
 intro k
 induction k using Nat.strongRecOn with
 |ind k ih =>
  match k,ih with
  |0,_=>exact zero 0 (-0)|1,_=>exact zero 1 (-0)|2,_=>exact zero 2 (-0)
  |k + 3,ih =>
   refine⟨λf nm ps h=>?_,num,blt,cls⟩;obtain⟨fa,fd,h1,h2,h3,h4⟩:=hd f nm ps h;refine⟨fa,fd,h1,h2,h3,?_⟩;rcases h4 with ⟨lm,N,st,b,k1,k2,k3,k4,k5,k6,k7⟩ | h4
   ·refine y10.mono (j51 (G:=lev G T (k + 2)) (F':=w00 T (k + 3)) (ih (k + 2) ∅) k2 k3 k4 k6 k5 (λhlm=>?_) λl z=>?_) (by show k + 2 + (k + 2) + 1<=k + 3 + (k + 3);omega)
    ·obtain⟨fR,fdR,L,D⟩:=k7 hlm;exact⟨lvU k,fR,fdR,by show k + k + 3<=k + 2 + (k + 2);omega,L,D,λf nm ps h=>(ih k ∅).gok f nm ps h⟩
    ·show(match T[f]? with | some d=>run (w00 T (k + 2)) d l | none=>M.no) z=_
     rw[k1];rfl
   ·refine⟨λvs H Q E q=>q.1,λA outer s H args us vs Q E hr he hb hv hs=>?_⟩;obtain⟨_,zA,z,ss,r,_,_,e,_⟩:=hs;have e':(match T[f]? with | some d=>run (w00 T (k + 2)) d ss | none=>M.no) z=some r:=e
    rw[h4] at e';cases e'
end
end Q
namespace L2
open PySem PySem.W PySem.Calls PyProof.Rows
def x30(thr sok:Thread->Bool)(stp:SharedT->Thread->Option (SharedT × Thread)):Nat->SharedT->Thread->Option SharedT
 |0,_,_=>none
 |n + 1,s,t=>match thr t with
  |true=>some s
  |false=>match sok t with
   |false=>none
   |true=>match stp s t with
    |some (s',t')=>x30 thr sok stp n s' t'|none=>none
theorem I90:∀ {n:Nat}{s s':SharedT}{t:Thread},x30 through (stepOk n₀ ann) (stepT (denote tb) p w) n s t=some s'->topRun tb p w n₀ ann n s.abs t=some s'.abs
 |0,_,_,_,h=>by cases h
 |n + 1,s,s',t,h=>by
  unfold x30 at h;unfold topRun;cases ht:through t with
  |true=>rw[ht] at h;cases h;rfl
  |false =>
   rw[ht] at h;cases hok:stepOk n₀ ann t with
   |false=>rw[hok] at h;cases h
   |true =>
    rw[hok] at h;cases hst:stepT (denote tb) p w s t with
    |none=>rw[hst] at h;cases h
    |some r=>obtain⟨s₂,t₂⟩:=r;rw[hst] at h;rw[stepT_spec hst];exact I90 h
def grow:List Obj->Nat->BT->BT
 |[],_,t=>t|o::r,i,t=>grow r (i + 1) (t.ins i o)
def H41(w:ì)(os:OsState):SharedT:=⟨grow (Ç0 w.params).objs.toList 0 .nil,11,(Ç0 w.params).life,Array.mk [],boot_drawn,boot_toks,os⟩
theorem j61:∀ (w:ì) (os:OsState),(H41 w os).abs=⟨Ç0 w.params,Array.mk [],boot_drawn,boot_toks,os⟩:=λw os=>by kernel_rfl
theorem j71:∀ w:ì,((Ç0 w.params).isNs Ý&&(Array.mk []:Array GenState).size == 0,(Ç0 w.params).objs.size,(Ç0 w.params).nsMap Ý "__annotations__")=(true,11,some (.ref 6)):=λw=>by kernel_rfl
theorem H51{p q:Ø}{loose:List Str}{Xt:Å->Bool}{α:Type}{Yf:Å->α}{Ya:ì->α}{N:Nat}
  (e:opening p=plainProg p.main.scope.names) (hN:ble 600 N=true) (f:∀ s,fenceModules? p s=some s)
  (run:∀ (w:ì) (os:OsState),(x30 through (stepOk 11 (some (.ref 6))) (stepT (denote treeTable) p w) N (H41 w os) (topStub p)).map (λs =>
   (staticsOk (Ê5 p.main.body) (Ç0 w.params) s.abs.heap&&namesBound p s.abs.heap&&gensDone s.abs&&laidKept (Ç0 w.params) s.abs.heap,
    openSeen q loose (Ê5 p.main.body) Xt true s.abs,Yf s.abs))=some (true,openGood q loose,Ya w)):LeftO p q loose Xt Yf Ya N:=λw=>by
 obtain⟨⟨h,gs,d,k,os⟩,e1,e2⟩:=Í.mp (boot_open (N:=N) e hN f w);obtain⟨rfl,rfl,rfl,rfl⟩:h=Ç0 w.params/\gs=Array.mk []/\d=boot_drawn/\k=boot_toks:=by simpa using e2
 obtain⟨z1,z2,z3⟩:_/\_/\_:=by simpa only [Ë0] using j71 w
 obtain⟨s1,r1,r2⟩:=Í.mp (run w os);obtain⟨l1,l2,l3⟩:_/\_/\_:=by simpa only [Ë0] using r2
 have r:=I90 r1;rw[j61] at r;unfold openEnds;rw[e1];show Æ9 _ (topFrom treeTable p w N _)=_;unfold topFrom;dsimp only;rw[z1,z2,z3,r];show Æ9 _ (match staticsOk (Ê5 p.main.body) (Ç0 w.params) s1.abs.heap&&namesBound p s1.abs.heap&&gensDone s1.abs&&laidKept (Ç0 w.params) s1.abs.heap with | true=>_ | false=>_)=_
 rw[l1];exact congrArg Option.some (Prod.ext l2 l3)
def J00(o:Obj):Bool:=match o with
 |⟨.none,none,.fields vs,sl⟩=>vs.isEmpty&&sl.isEmpty|_=>false
def k22(h:á)(a:Æ):Option Obj:=match h.get? a with
 |some o=>if J00 o then none else some o|none=>none
def fragOf(h:á):Frag:=(ñ h.objs.size).filterMap λa=>(k22 h a).map λo=>(a,o)
theorem q00(g:Æ->Option Obj)(a:Æ):∀ l:List Æ,(l.filterMap λa=>(g a).map λo=>(a,o)).lookup a=if a∈l then g a else none
 |[]=>rfl
 |b::r=>by
  by_cases hb:a=b
  ·subst hb;rw[if_pos Ó];cases hg:g a with
   |none =>
    rw[þ,hg];show(r.filterMap λa=>(g a).map λo=>(a,o)).lookup a=none;rw[q00 g a r];split
    ·exact hg
    ·rfl
   |some o =>
    rw[þ,hg];show É1 a ((a,o)::_)=some o;rw[List.lookup_cons_self]
  ·have hm:(a∈b::r)↔a∈r:=by rw[Á7];exact⟨λh=>h.resolve_left hb,Ò0⟩
   have ih:=q00 g a r;have e:(if a∈b::r then g a else none)=if a∈r then g a else none:=by simp only[hm]
   rw[e,← ih];cases hg:g b with
   |none=>rw[þ,hg];rfl
   |some o =>
    rw[þ,hg];show É1 a ((b,o)::_)=_;have:(a == b)=false:=by simpa using hb
    simp only[É1,this]
theorem j81(h:á):(fragOf h).In h:=λa o e=>by
 unfold fragOf at e;rw[q00] at e;split at e
 ·unfold k22 at e;cases hg:h.get? a with
  |none=>rw[hg] at e;cases e
  |some u =>
   rw[hg] at e;dsimp only at e;split at e
   ·cases e
   ·exact e
 ·cases e
theorem H61(h:J00 o=true):o=tabObj #[]:=by
 unfold J00 at h;split at h
 ·rename_i vs sl;rw[Â,Array.isEmpty_iff,Array.isEmpty_iff] at h;obtain⟨rfl,rfl⟩:=h;rfl
 ·cases h
theorem X20(e:h.get? a=some o)(t:J00 o=true):(fragOf h).lookup a=none:=by
 unfold fragOf;rw[q00];split
 ·unfold k22;rw[e];exact if_pos t
 ·rfl
def j91(K:Frag)(x:Str):Option (Str × Str × Ç2 × FuncBody × à × Æ × List (Str × Æ) × Ã × Æ × Bool):=match nsIn K Ý x with
 |some (some (.ref at0))=>(match K.lookup at0 with
  |some ⟨_,_,.func fd,_⟩=>some (fd.name,fd.qualname,fd.params,fd.body,fd.scope,fd.globals,fd.closure,fd.defaults,fd.builtins,codeIn K fd.code x)
  |_=>none)
 |_=>none
def H71(x:Str)(st:À0):Option (Str × Str × Ç2 × FuncBody × à × Æ × List (Str × Æ) × Ã × Æ × Bool):=some (x,x,B60 st,.stmts (f50 st),b10 st,Ý,[],.none,É5,true)
theorem M60{K:Frag}{x:Str}{st:À0}(e:j91 K x=H71 x st):∃ f fd,nsIn K Ý x=some (some (.ref f))/\Fun K x x st f fd/\∃ oc od sl,K.lookup f=some ⟨oc,od,.func fd,sl⟩:=by
 unfold j91 H71 at e;split at e
 ·rename_i f hf;split at e
  ·rename_i oc od fd sl hl;obtain⟨nm,qn,pm,bd,sc,gl,cl,df,kd,dc,py,an,cd,ct,bl⟩:=fd;simp only[Ë0,Æ7] at e;obtain⟨rfl,rfl,rfl,rfl,rfl,rfl,rfl,rfl,rfl,hc⟩:=e;exact⟨f,_,hf,⟨⟨oc,od,kd,dc,py,an,cd,ct,sl,rfl,hl,hc⟩,by simp only[keepIn,hl]⟩,oc,od,sl,hl⟩
  ·cases e
 ·cases e
def tab0At(h:á)(T:Æ):Bool:=match h.get? T with
 |some o=>J00 o|none=>false
theorem k01{h:á}{T:Æ}(e:tab0At h T=true):h.get? T=some (tabObj #[]):=by
 unfold tab0At at e;split at e
 ·rename_i o ho;rw[ho,H61 e]
 ·cases e
def k21(h:á)(K:Frag)(x:Str):Option Addr:=match nsIn K Ý x with
 |some (some (.ref at0))=>(match K.lookup at0 with
  |some ⟨_,_,.func fn0,_⟩=>(match fn0.code with
   |.ref c=>(match K.lookup c with
    |some ⟨_,_,.fields vs,_⟩=>(match (vs[11]?:Option Ã) with
     |some (.ref T)=>if codeHdIn K c T&&tab0At h T then some T else none
     |_=>none)
    |_=>none)
   |_=>none)
  |_=>none)
 |_=>none
theorem X30{h:á}{K:Frag}{x:Str}{T:Æ}(e:k21 h K x=some T):h.get? T=some (tabObj #[])/\∃ f oc od fd sl c,nsIn K Ý x=some (some (.ref f))/\K.lookup f=some ⟨oc,od,.func fd,sl⟩/\fd.code=.ref c/\codeHdIn K c T=true:=by
 unfold k21 at e;split at e
 ·rename_i f hf;split at e
  ·rename_i oc od fd sl hl;split at e
   ·rename_i c hc;split at e
    ·split at e
     ·rename_i T' _;split at e
      ·rename_i q;cases e;rw[Â] at q;obtain⟨q1,q2⟩:=q;exact⟨k01 q2,f,oc,od,fd,sl,c,hf,hl,hc,q1⟩
      ·cases e
     ·cases e
    ·cases e
   ·cases e
  ·cases e
 ·cases e
def g40:List Str:=["NoWeb","NoLot","NoPlaces","NoPlace","NoTie","NoChance","NoChances","NoPaper","TooMany","NoText","NoLine","NoDeed"]
def J10(K:Frag)(x:Str):Option Addr:=match nsIn K Ý x with
 |some (some (.ref f))=>some f|_=>none
theorem E40{K:Frag}{x:Str}{f:Æ}(e:J10 K x=some f):nsIn K Ý x=some (some (.ref f)):=by
 unfold J10 at e;split at e
 ·cases e;assumption
 ·cases e
abbrev n22:=Option (Option Ã) × Option (Option Ã) × Option Bool × Option Bool × Option (Option Ã) × Bool × Option Bool × Option Bool × Bool × List (Option Bool)
def M70(K:Frag)(C:Æ):n22:=(findIn K (.ref C) "__getattribute__",findIn K (.ref C) "__getattr__",mroIn K C (.type "BaseException"),mroIn K C (.type "object"),findIn K (.ref C) "__class__",hasDictIn K C,kitOne K (.ref C) (.type "ValueError"),
 (J10 K "ChanceError").bind λD=>exmOne K (.ref C) (.ref D),excIn K C [.type "ValueError",.type "Exception",.type "BaseException",.type "object"] "ValueError.__new__",g40.map λy=>(J10 K y).bind λB=>kitOne K (.ref C) (.ref B))
def k31(x:Str):n22:=(some (some (Ì2 "BaseException.__getattribute__")),some (none:Option Ã),some true,some true,some (some (Ì2 "object.__class__")),true,some true,some true,true,g40.map λy=>some (decide (x=y)))
def M80(K:Frag)(x:Str):Option Int:=match nsIn K Ý x with
 |some (some (.int i _))=>some i|_=>none
theorem M90{K:Frag}{x:Str}{i:Int}(e:M80 K x=some i):∃ t,nsIn K Ý x=some (some (.int i t)):=by
 unfold M80 at e;split at e
 ·rename_i t h;cases e;exact⟨t,h⟩
 ·cases e
def N00(K:Frag)(x:Str):Bool:=match nsIn K Ý x with
 |some none=>true|_=>false
theorem N10{K:Frag}{x:Str}(e:N00 K x=true):nsIn K Ý x=some none:=by
 unfold N00 at e;split at e
 ·assumption
 ·cases e
structure l30 where
 ds:List (Str × Stmt)
 is:List (Str × Int)
 ns:List Str
 ms:List Str
 cs:List Str
def l30.obs(q:l30)(s:Å) :=
 let K:=fragOf s.heap
 (q.ds.map λd=>j91 K d.1,q.is.map λd=>M80 K d.1,q.ns.map (N00 K),q.ms.map λx=>(k21 s.heap K x).isSome,q.cs.map λx=>(J10 K x).map (M70 K),
  (specialIn K (.builtin "object.__class__") "__get__",takesIn K (.builtin "object.__class__")))
def l30.due(q:l30)(_:ì) :=
 (q.ds.map λd=>H71 d.1 d.2,q.is.map λd=>some d.2,q.ns.map λ_=>true,q.ms.map λ_=>true,q.cs.map λx=>some (k31 x),
  (some (some (Ì2 "getset_descriptor.__get__")),some true))
structure Facts(q:l30)(K:Frag)(h:Heap):Prop where
 fn:∀ d∈q.ds,∃ f fd,nsIn K mainGlobals d.1=some (some (.ref f))/\Fun K d.1 d.1 d.2 f fd/\∃ oc od sl,K.lookup f=some ⟨oc,od,.func fd,sl⟩
 it:∀ d∈q.is,∃ t,nsIn K mainGlobals d.1=some (some (.int d.2 t))
 no:∀ x∈q.ns,nsIn K mainGlobals x=some none
 mt:∀ x∈q.ms,∃ T,h.get? T=some (tabObj #[])/\K.lookup T=none/\∃ f oc od fd sl c,nsIn K mainGlobals x=some (some (.ref f))/\K.lookup f=some ⟨oc,od,.func fd,sl⟩/\fd.code=.ref c/\codeHdIn K c T=true
 cl:∀ x∈q.cs,∃ C,nsIn K mainGlobals x=some (some (.ref C))/\M70 K C=k31 x
 sp:specialIn K (.builtin "object.__class__") "__get__"=some (some (Value.builtin "getset_descriptor.__get__"))
 tk:takesIn K (.builtin "object.__class__")=some true
theorem z30{α β:Type}{f g:α->β}:∀ {l:List α},l.map f=l.map g->∀ a∈l,f a=g a:=λ{l} h a ha=>List.map_inj_left.mp h a ha
theorem l30.facts(q:l30)(w:ì)(s:Å)(e:q.obs s=q.due w):Facts q (fragOf s.heap) s.heap:=by
 unfold l30.obs l30.due at e;simp only[Ë0] at e;obtain⟨e1,e2,e3,e4,e5,e6,e7⟩:=e;refine⟨λd hd=>M60 (z30 e1 d hd),λd hd=>M90 (z30 e2 d hd),λx hx=>N10 (z30 e3 x hx),λx hx=>?_,λx hx=>?_,e6,e7⟩
 ·obtain⟨T,hT⟩:=Ô8.mp (z30 e4 x hx);obtain⟨h1,h2⟩:=X30 hT;exact⟨T,h1,X20 h1 rfl,h2⟩
 ·obtain⟨C,h1,h2⟩:=Í.mp (z30 e5 x hx);exact⟨C,E40 h1,h2⟩
def l30.hook(q:l30):Hook where
 α:=_
 obs:=q.obs
 val:=q.due
 says:=λ_ h=>∃ K:Frag,K.In h/\Facts q K h
 of:=λw s e=>⟨_,j81 _,q.facts w s e⟩
 keeps:=λ_ h h' ⟨K,X,F⟩ k=>⟨K,X.keeps k,⟨F.fn,F.it,F.no,λx hx=>let ⟨T,a,b⟩:=F.mt x hx;⟨T,k _ _ a,b⟩,F.cl,F.sp,F.tk⟩⟩
end L2
namespace Q
open PySem L2 PySem.Spec PyProof.Rows
structure Row where
 nm:Str
 ps:List Str
 st:Stmt
 N:List Str
 b:Sm
 lm:Bool
def k41(N ps:List Str)(sc:à):Bool:=sc.kind == .function&&!sc.isCoroutine&&!sc.isGenerator&&decide N.Nodup&&N.take ps.length == ps&&ps.all (λx=>sc.names.lookup x == some .local || sc.names.lookup x == some .cell)&&sc.names.all λy=>y.2 != .free
theorem E50(h:k41 N ps sc=true):h00 N ps sc:=by
 unfold k41 at h;simp only[Â,î,beq_iff_eq,Ã7,decide_eq_true_eq,Ã9] at h;obtain⟨⟨⟨⟨⟨⟨h1,h2⟩,h3⟩,h4⟩,h5⟩,h6⟩,h7⟩:=h;exact⟨h1,h2,h3,h4,h5,h6,λy hy=>by simpa using h7 y hy⟩
def S00(r:Row):Prop:=∀ (kV doc pm:Ã) (an:Option Æ) (cdv ct:Ã) (us:List Ã),us.length=r.ps.length->bindArgs (fnOf r.nm r.nm (B60 r.st) (f50 r.st) (b10 r.st) .none kV doc pm an cdv ct) ⟨us,[]⟩=pure (r.ps.zip us)
def m00:List Row->Prop
 |[]=>True|r::l=>S00 r/\m00 l
theorem m00.at:∀ {l:List Row}{r:Row},m00 l->r∈l->S00 r
 |_::_,_,h,.head _=>h.1|_::_,_,h,.tail _ m=>m00.at h.2 m
theorem us1(h:us.length=1):∃ a,us=[a]:=List.length_eq_one_iff.mp h
theorem us2(h:us.length=2):∃ a b,us=[a,b]:=by
 match us,h with
 |[a,b],_=>exact⟨a,b,rfl⟩
theorem us4(h:us.length=4):∃ a b c d,us=[a,b,c,d]:=by
 match us,h with
 |[a,b,c,d],_=>exact⟨a,b,c,d,rfl⟩
def K31(fns:List (Str × List Str))(nums:List (Str × Int))(r:Row):Bool:=mtS r.lm fns nums g40 (b10 r.st) r.N r.b (f50 r.st)&&isQ r.b&&r.N.all (x10 (b10 r.st))&&k41 r.N r.ps (b10 r.st)
def y40(rows:List Row):List (Str × List Str):=rows.map λr=>(r.nm,r.ps)
def tabOf(rows:List Row):List Df:=rows.map λr=>Df.code r.ps.length r.N.length r.b
def z40(rows:List Row)(nums:List (Str × Int))(mn:List Str)(ex:List (Str × À0)):l30:=⟨rows.map (λr=>(r.nm,r.st))++ex,nums,"ValueError"::F11,mn,g40⟩
def clsAt(K:À)(c:Nat):Addr:=(J10 K (g40.getD c "")).getD 0
theorem V81{K:À}{C:Æ}{c:Nat}{x:Str}(hc:g40[c]?=some x)(h:Ì8 K Ý x=some (some (.ref C))):clsAt K c=C:=by
 unfold clsAt;rw[Â8,hc];show(J10 K x).getD 0=C;unfold J10;rw[h];rfl
theorem V91{K:À}{h:á}{mg:Str->Option Ã}{q:l30}{x:Str}{j:Nat}(X:K.In h)(G:h.Ns Ý mg)(F:Facts q K h)(hx:x∈q.cs)(hj:names12[j]?=some x)(hv:("ValueError":Str)∈q.ns):∃ C,Ì8 K Ý x=some (some (.ref C))/\v70 K mg C j/\È6 K C [.type "ValueError",.type "Exception",.type "BaseException",.type "object"] "ValueError.__new__"=true:=by
 obtain⟨C,hC,e⟩:=F.cl x hx;unfold M70 k31 at e;simp only[Ë0] at e;obtain⟨u1,u2,u3,u4,u5,hd,ve,ce,ex,ys⟩:=e;obtain⟨D,hD,ce⟩:=Ë.mp ce;have lt:j < 12:=(Ú.mp hj).1;refine⟨C,hC,⟨λi y hy=>?_,⟨u1,u2,u3,u4,u5,F.sp,F.tk⟩,hd,ve,mg_none_of X G (F.no _ hv),⟨D,mg_of X G (E40 hD),ce⟩,lt⟩,ex⟩;have hm:=z30 ys y (Ü hy);obtain⟨B,hB,hk⟩:=Ë.mp hm;refine⟨B,mg_of X G (E40 hB),hk.trans (congrArg some (decide_eq_decide.mpr ⟨λq=>?_,λq=>?_⟩))⟩
 ·subst q;have nd:names12.Nodup:=by decide +kernel
  exact(List.getElem?_inj (Ú.mp hy).1 nd).mp (hy.trans hj.symm)
 ·subst q;rw[hj] at hy;cases hy;rfl
section
variable {P:Ø}{w:ì}{K:À}{mg:Str->Option Ã}{base:á}
theorem ok0(F:y10 P w K mg base (CX1 P w) k f fd ps sp):y10 P w K mg base CX0 k f fd ps (λvs H Q _=>sp vs H Q λ_ _ _=>False) :=
 ⟨λvs H Q E h=>F.len _ _ _ _ h,λA outer s H args us vs Q E hr he hb hv hs=>Å6 (F.run A outer s H args us vs Q _ hr he hb hv hs) λr s' h=>by
  cases r with
  |error e =>
   obtain⟨_,_,_,_,_,_,_,_,_,_,_,_,_,hE⟩:=h;exact hE.elim
  |ok fl=>cases fl <;> exact h⟩
theorem t52:Õ4 (#[]:Array Ã).toList:=by first | trivial | (unfold Õ4;trivial)
theorem m90.noT[TB:Tb](h:m90 K H a xs):m90 K (hz none H) a xs:=by
 rcases h with (h | ⟨o,h⟩) | h
 ·exact .inl (.inl (d30 h (λq=>nomatch q)))
 ·exact .inl (.inr ⟨o,d30 h (λq=>nomatch q)⟩)
 ·exact .inr h
theorem W01[TB:Tb]{G:Gs}{T:List Df}{k f:Nat}{H:Hp}{a:Æ}{ns:List Int}(pure:c70 T k f [.d (.lst (ns.map D.int))] none=some (.ok (.d (.bl true)) none))(hH:∀ p∈TB.tb,H p.1=some (.tbl #[]))(hS:m90 K H a (ns.map V.int)) :
  spF K (lev G T k) f 1 [.ref a] H (λv _=>v=.bl true) λ_ _ _=>False:=by
 refine⟨rfl,none,none,[.d (.lst (ns.map D.int))],_,.cons ?_ .nil,⟨trivial,λp hp=>⟨#[],hH p hp,t52,λpos c e=>nomatch e⟩⟩,pure,λv H' x st rv=>Hd.bl_ (show Hd K (hz none H') (.bl true) v from rv)⟩;show Hd K (hz none H) (.lst (ns.map D.int)) (.ref a);unfold Hd;exact⟨a,ns.map V.int,rfl,hS.noT,HdA.ints ns⟩
end
def n32(nm:Str):Str:=(Ê6 nm ⟨.function,[],false,false,[]⟩ 0 0 .none).qual++"<lambda>"
theorem W11{rows:List Row}{f:Nat}{nm:Str}{ps:List Str}(h:(y40 rows)[f]?=some (nm,ps)):∃ r∈rows,rows[f]?=some r/\r.nm=nm/\r.ps=ps:=by
 unfold y40 at h;rw[Ù] at h;obtain⟨r,h1,h2⟩:=Í.mp h;cases h2;exact⟨r,Ü h1,h1,rfl,rfl⟩
section
variable [TB:Tb] {P:Ø}{w:ì}{K:À}{h:á}{mg:Str->Option Ã}{base:á}{rows:List Row}{nums:List (Str × Int)}{mn:List Str}{ex:List (Str × À0)}
def t62(ex:List (Str × À0)):Prop:=∃ (sQ:À0),(("_law_right":Str),sQ)∈ex/\a22 sQ/\S00 ⟨"_law_right",u21,sQ,[],.nil,false⟩
def W21(rows:List Row)(mn:List Str)(ex:List (Str × À0)):Prop:=∀ r∈rows,r.lm=true->r.nm∈mn/\∃ (sR:À0) (n:Nat),(("_law_refused":Str),sR)∈ex/\b10 sR=p40/\f50 sR=L10 n/\S00 ⟨"_law_refused",["_law_call"],sR,[],.nil,false⟩/\t62 ex
def k32[TB:Tb](K:À)(rows:List Row):Prop:=∀ r∈rows,r.lm=true->∀ fd,(∃ f oc od sl,Ì8 K Ý r.nm=some (some (.ref f))/\K.lookup f=some ⟨oc,od,.func fd,sl⟩)->a32 K r.nm fd
theorem k51(X:K.In h)(Gn:h.Ns Ý mg)(Q:Facts (z40 rows nums mn ex) K h):∀ c x,g40[c]?=some x->Ì8 K Ý x=some (some (.ref (clsAt K c)))/\v70 K mg (clsAt K c) c/\È6 K (clsAt K c) [.type "ValueError",.type "Exception",.type "BaseException",.type "object"] "ValueError.__new__"=true:=λc x hc=>by
 obtain⟨C,h1,h2,h3⟩:=V91 (x:=x) (j:=c) X Gn Q (Ü hc) hc Ó;rw[V81 hc h1];exact⟨h1,h2,h3⟩
theorem k61(X:K.In h)(Gn:h.Ns Ý mg)(Q:Facts (z40 rows nums mn ex) K h)(bm:BMain mg base)(hR:W21 rows mn ex)(hr:r∈rows)(hlm:r.lm=true):∃ fR fdR,V51 P w K mg base (clsAt K) fR fdR:=by
 obtain⟨hmn,sR,n,g1,g2,g3,g4,sQ,g5,g6,g7⟩:=hR r hr hlm;obtain⟨fQ,fdQ,a3,F3,oc3,od3,sl3,lk3⟩:=Q.fn ("_law_right",sQ) (ä _ g5);obtain⟨fR,fdR,a2,F2,oc2,od2,sl2,lk2⟩:=Q.fn ("_law_refused",sR) (ä _ g1);refine⟨fR,fdR,bm,λj hj=>?_,mg_of X Gn a2,F2.kp,F2.binds g4,λk=>O91 F2 g2 g3 (mg_none_of X Gn (Q.no _ (Î _ (-0)))) (mg_none_of X Gn (Q.no _ (Î _ (-0)))),sQ,fQ,fdQ,mg_of X Gn a3,F3.kp,F3.binds g7,F3,g6⟩
 have hx:∃ x,g40[j]?=some x:=⟨_,ù (by exact hj)⟩
 obtain⟨x,hx⟩:=hx;exact(k51 X Gn Q j x hx).2.1
theorem H81(X:K.In h)(Gn:h.Ns Ý mg)(Q:Facts (z40 rows nums mn ex) K h)(ok:rows.all (K31 (y40 rows) nums)=true)(bd:m00 rows)(bm:BMain mg base)(hR:W21 rows mn ex)(hT:k32 K rows)(F0:FT):∀ k,GX P w K mg base (lev ⟨y40 rows,nums,F0,clsAt K,0⟩ (tabOf rows) k) g40:=by
 refine V71 (λp hp=>?_) (λn hn=>?_) (λc x hc=>?_) λf nm ps hf=>?_
 ·obtain⟨t,e⟩:=Q.it p hp;exact⟨t,mg_of X Gn e⟩
 ·exact mg_none_of X Gn (Q.no n (Î _ hn))
 ·obtain⟨h1,_,h3⟩:=k51 X Gn Q c x hc;exact⟨mg_of X Gn h1,h3⟩
 ·obtain⟨r,hr,hr2,rfl,rfl⟩:=W11 hf;obtain⟨fa,fd,a1,F1,oc,od,sl,lk⟩:=Q.fn (r.nm,r.st) (Å2 _ (Þ.mpr ⟨r,hr,rfl⟩));have rb:=æ.mp ok r hr;unfold K31 at rb;simp only[Â] at rb;obtain⟨⟨⟨b1,b2⟩,b3⟩,b4⟩:=rb;refine⟨fa,fd,mg_of X Gn a1,F1.kp,F1.binds (bd.at hr),.inl ⟨r.lm,r.N,r.st,r.b,?_,F1,E50 b4,b3,b2,b1,λhlm=>?_⟩⟩
  ·unfold tabOf;rw[Ù,hr2];rfl
  ·obtain⟨fR,fdR,L⟩:=k61 (P:=P) (w:=w) X Gn Q bm hR hr hlm;exact⟨fR,fdR,L,hT r hr hlm fd ⟨fa,oc,od,sl,a1,lk⟩⟩
theorem W31(X:K.In h)(Gn:h.Ns Ý mg)(Q:Facts (z40 rows nums mn ex) K h)(ok:rows.all (K31 (y40 rows) nums)=true)(bd:m00 rows)(bm:BMain mg base)(hR:W21 rows mn ex)(hT:k32 K rows)(F0:FT)(k:Nat)(hi:rows[i]?=some r)(F1:Fun K r.nm r.nm r.st fa fd)
  (hfd:∃ f oc od sl,Ì8 K Ý r.nm=some (some (.ref f))/\K.lookup f=some ⟨oc,od,.func fd,sl⟩):y10 P w K mg base (CX1 P w) (lvU (k + 3)) fa fd r.ps (spF K (lev ⟨y40 rows,nums,F0,clsAt K,0⟩ (tabOf rows) (k + 3)) i r.ps.length):=by
 have hr:=Ü hi;have rb:=æ.mp ok r hr;unfold K31 at rb;simp only[Â] at rb;obtain⟨⟨⟨b1,b2⟩,b3⟩,b4⟩:=rb;have all:=H81 (P:=P) (w:=w) X Gn Q ok bd bm hR hT F0;refine y10.mono (j51 (G:=lev ⟨y40 rows,nums,F0,clsAt K,0⟩ (tabOf rows) (k + 2)) (F':=w00 (tabOf rows) (k + 3)) (all (k + 2)) F1 (E50 b4) b3 b1 b2 (λhlm=>?_) λl z=>?_) (by show k + 2 + (k + 2) + 1<=k + 3 + (k + 3);omega)
 ·obtain⟨fR,fdR,L⟩:=k61 (P:=P) (w:=w) X Gn Q bm hR hr hlm;exact⟨lvU k,fR,fdR,by show k + k + 3<=k + 2 + (k + 2);omega,L,hT r hr hlm fd hfd,λf nm ps h=>(all k).gok f nm ps h⟩
 ·show(match (tabOf rows)[i]? with | some d=>run (w00 (tabOf rows) (k + 2)) d l | none=>M.no) z=_
  unfold tabOf;rw[Ù,hi];rfl
end
theorem k71{P:Ø}{w:ì}{K:À}{mg mb:Str->Option Ã}{k:Nat}{fa a:Æ}{fd:ø}{x:Str}{sp:Sp}{s₁:Å}{vs:List Ã}{ns:List Int}{ts:List Æ}
  (KX:K.In s₁.heap) (hns:s₁.heap.Ns Ý mg) (hb:s₁.heap.Ns É5 mb) (hbb:∀ x:Str,x≠"__name__"->mb x=é x) (hlim:s₁.heap.NoLimit) (hg:s₁.gens=#[])
  (ha:s₁.heap.get? a=some { cls:=.type "list",data:=.seq vs.toArray }) (hi:È1 vs ns) (hl:ns.length<=sizeLine) (hr:l20 k Ô2)
  (hT:∀ Pt∈ts,s₁.heap.get? Pt=some (Å7 #[])/\K.lookup Pt=none/\∃ c,Â2 K c Pt=true) (bmn:BMain mg s₁.heap)
  (F:∀ base:á,K.In base->base.Ns Ý mg->BMain mg base->y10 P w K mg base CX0 k fa fd [x] sp) (hbind:∀ (s:Å) (u:Ã),BindsTo s fd ⟨[u],[]⟩ [(x,u)])
  (hsp:∀ H:Hp,(∀ Pt∈ts,H Pt=some (.tbl #[]))->m90 K H a (ns.map V.int)->sp [.ref a] H (λv _=>v=.bl true) λ_ _ _=>False) :
  Ì1 (Õ P w) Ô2 (.call (.ref fa) ⟨[.ref a],[]⟩) (λr s'=>r=.ok (.ret (.bool true))/\OldK s₁.heap s'.heap/\s'.os=s₁.os/\Î0 s'.gens) s₁:=by
 have rv:=G90 hi;have lenV:=hi.length;have naT:a ∉ ts:=λh=>by have:=(hT a h).1;rw[ha] at this;cases this
 have core:∀ H:Hp,(∀ Pt∈ts,H Pt=some (.tbl #[]))->(∀ b,H b=none∨b∈ts∨(b=a/\∃ xs,H b=some (.frz { cls:=.type "list",data:=.seq vs.toArray } (.lst xs))))->m90 K H a (ns.map V.int)->HOk P w H s₁.heap->(H a≠none->K.lookup a=none) ->
   Ì1 (Õ P w) Ô2 (.call (.ref fa) ⟨[.ref a],[]⟩) (λr s'=>r=.ok (.ret (.bool true))/\OldK s₁.heap s'.heap/\s'.os=s₁.os/\Î0 s'.gens) s₁:=by
  intro H hH hO hS hok hK;have plainN:∀ {b:Æ}{o:Obj},s₁.heap.get? b=some o->(∀ xs n,o.data≠.seq xs n)->(∀ xs,o.data≠.fields xs)->H b=none:=λ{b o} e d1 d2=>by
   rcases hO b with z | z | ⟨z,_⟩
   ·exact z
   ·have:=(hT b z).1;rw[e] at this;cases this;exact absurd rfl (d2 _)
   ·rw[z,ha] at e;cases e;exact absurd rfl (d1 _ _)
  have nsK:∀ {b:Æ}{m:Str->Option Ã},s₁.heap.Ns b m->(n31 s₁.heap H).Ns b m:=λ{b m} ⟨o,es,ep,e,d,r⟩=>⟨o,es,ep,A40 e (plainN e (λxs n z=>by rw[d] at z;cases z) λxs z=>by rw[d] at z;cases z),d,r⟩
  have hKb:K.In (n31 s₁.heap H):=λb o e=>A40 (KX b o e) (by
   rcases hO b with z | z | ⟨z,xs,z2⟩
   ·exact z
   ·rw[(hT b z).2.1] at e;cases e
   ·rw[z] at e z2;rw[hK (by rw[z2];exact λy=>nomatch y)] at e;cases e)
  have hM:Mod K mg (n31 s₁.heap H):=⟨hKb,nsK hns,⟨mb,nsK hb,hbb⟩,let ⟨mc,h1,h2⟩:=hlim;⟨mc,nsK h1,h2⟩⟩;have hBM:BMain mg (n31 s₁.heap H):=by
   obtain⟨bm,ob,b1,b2,b3,b4,b5,b6⟩:=bmn;exact⟨bm,ob,b1,b2,A40 b3 (plainN b3 (λxs n z=>by rw[b6] at z;cases z) λxs z=>by rw[b6] at z;cases z),b4,b5,b6⟩
  have e0:w01 P w K mg (n31 s₁.heap H) Ô2 [] s₁ H:=⟨rfl,hM,λb o e=>A21 e,Nat.le_of_eq (Y10 _ _),trivial,λb hb=>absurd (show b∈([]:List Æ) from hb) (by simp),hok,.of_eq hg⟩
  refine Å6 ((F _ hKb (nsK hns) hBM).run Ô2 [] s₁ H ⟨[.ref a],[]⟩ [.ref a] [.ref a] _ _ hr e0 (hbind s₁ (.ref a)) (.cons rfl .nil) (hsp H hH hS)) λr s' h=>?_;cases r with
  |error e=>exact è h
  |ok fl =>
   cases fl with
   |next=>exact è h
   |brk=>exact è h|cont=>exact è h
   |ret u =>
    obtain⟨v,H',os,bare,un,hok',r',q⟩:=h;have q':v=.bl true:=q;subst q';obtain rfl:u=É9 true:=r';refine⟨rfl,⟨λb o e=>?_,λb o e=>un.there b o e (by simp)⟩,os,bare⟩
    rcases hO b with z | z | ⟨z,xs,z2⟩
    ·exact .inl (un.keep b o e z (by intro y;exact absurd (show b∈([]:List Æ) from y) (by simp)) (by simp))
    ·obtain⟨t1,_,c,t2⟩:=hT b z;rw[e] at t1;cases t1;obtain⟨more,m1⟩:=un.tbls b _ (hH b z);have m2:s'.heap.get? b=some { cls:=.none,data:=.fields (#[]++more) }:=hok' b _ m1;have CH:=codeHd_of_K KX t2;exact .inr (.inl ⟨(CH.tab e).isCodeTable,rfl,#[],more,rfl,m2⟩)
    ·have z3:=un.frzs b _ _ z2;obtain⟨e1,_⟩:=hok b _ z2;obtain⟨e2,_⟩:=hok' b _ z3;rw[e] at e1;cases e1;exact .inl e2
 cases hk:K.lookup a with
 |some o =>
  have e:=KX a o hk;rw[ha] at e;cases e;refine core (λb=>if b∈ts then some (.tbl #[]) else none) (λPt h=>if_pos h) (λb=>?_) (.inr ⟨vs.toArray,_,hk,by rw[Ô,lenV];exact hl,by simpa using rv⟩) (λb u z=>?_) λz=>absurd (if_neg naT) z
  ·by_cases h:b∈ts
   ·exact .inr (.inl h)
   ·exact .inl (if_neg h)
  ·by_cases h:b∈ts
   ·have z':=(if_pos h).symm.trans z;cases z';exact(hT b h).1
   ·have z':=(if_neg h).symm.trans z;cases z'
 |none =>
  refine core (λb=>if b=a then some (.frz { cls:=.type "list",data:=.seq vs.toArray } (.lst (ns.map V.int))) else if b∈ts then some (.tbl #[]) else none) (λPt h=>?_) (λb=>?_) (.inl (.inr ⟨{ cls:=.type "list",data:=.seq vs.toArray },if_pos rfl⟩)) (λb u z=>?_) λ_=>hk
  ·rw[if_neg (λy=>naT (by rw[← y];exact h)),if_pos h]
  ·by_cases hb:b=a
   ·exact .inr (.inr ⟨hb,_,if_pos hb⟩)
   ·by_cases h:b∈ts
    ·exact .inr (.inl h)
    ·exact .inl (by rw[if_neg hb,if_neg h])
  ·by_cases hb:b=a
   ·have z':=(if_pos hb).symm.trans z;cases z';subst hb;exact⟨ha,by rw[É];exact hl,vs,_,rv,ha⟩
   ·replace z:=(if_neg hb).symm.trans z
    by_cases h:b∈ts
    ·have z':=(if_pos h).symm.trans z;cases z';exact(hT b h).1
    ·have z':=(if_neg h).symm.trans z;cases z'
theorem u51{l:PySem.W.OpenLaw}{n k:Nat}{q:Ø}{loose:List Str}{XP:(Str->Option Ã)->á->Prop}{d:DefRec}{A:l30}{x:Str}
  (hn:l.most=some n) (hn2:n<=sizeLine) (hdf:d.params.defaults=[]) (hr:l20 k Ô2)
  (F:∀ (w:ì) (mg:Str->Option Ã) (fa:Æ) (h:á) (K:À),Facts A K h->K.In h->h.Ns Ý mg->mg d.name=some (.ref fa) ->
   ∃ (fd:ø) (ts:List Æ) (sp:Sp),(∀ Pt∈ts,h.get? Pt=some (Å7 #[])/\K.lookup Pt=none/\∃ c,Â2 K c Pt=true)/\(∀ (s:Å) (u:Ã),BindsTo s fd ⟨[u],[]⟩ [(x,u)]) /\
    (∀ base:á,K.In base->base.Ns Ý mg->BMain mg base->y10 l.prog w K mg base CX0 k fa fd [x] sp) /\
    ∀ (H:Hp) (a:Æ) (ns:List Int),ns.length<=n->(∀ Pt∈ts,H Pt=some (.tbl #[]))->m90 K H a (ns.map V.int)->sp [.ref a] H (λv _=>v=.bl true) λ_ _ _=>False) :
  PySem.W.WalkO q loose XP A.hook.says l.row.toRowW d [] (λf vs=>PySem.call f vs):=by
 refine Att.K50 hn hdf λw s₀ s₁ mg mb fa o pm cd doc a vs ns G Y ho hd hcd hmg hobj hints hlen hg=>?_;obtain⟨K,KX,FX⟩:=Y;obtain⟨fd,ts,sp,hT,hb,hF,hsp⟩:=F w mg fa _ K FX KX G.T.g hmg;exact k71 KX G.T.g G.T.b G.T.builtins G.T.nolimit hg hobj hints (ë hlen hn2) hr hT G.T.bmain hF hb λH hH hS=>hsp H a ns hlen hH hS
theorem H91{l:PySem.W.OpenLaw}{rows:List Row}{nums:List (Str × Int)}{mn:List Str}{ex:List (Str × À0)}{k iL n:Nat}{rL:Row}(ok:rows.all (K31 (y40 rows) nums)=true)(bd:m00 rows)(hL:rows[iL]?=some rL)(hn:rL.nm="law")(hp:rL.ps=[("_law_script":Str)])(hmn:mn.length<=1)(hR:W21 rows mn ex)
  (pure:∀ ns:List Int,ns.length<=n->c70 (tabOf rows) (k + 3) iL [.d (.lst (ns.map D.int))] none=some (.ok (.d (.bl true)) none)) (w:ì) (mg:Str->Option Ã) (fa:Æ) (h:á) (K:À) (Q:Facts (z40 rows nums mn ex) K h) (X:K.In h) (Gn:h.Ns Ý mg) (hfa:mg "law"=some (.ref fa)) :
   ∃ (fd:ø) (ts:List Æ) (sp:Sp),(∀ Pt∈ts,h.get? Pt=some (Å7 #[])/\K.lookup Pt=none/\∃ c,Â2 K c Pt=true)/\(∀ (s:Å) (u:Ã),BindsTo s fd ⟨[u],[]⟩ [("_law_script",u)]) /\
    (∀ base:á,K.In base->base.Ns Ý mg->BMain mg base->y10 l.prog w K mg base CX0 (lvU (k + 3)) fa fd ["_law_script"] sp) /\
    ∀ (H:Hp) (a:Æ) (ns:List Int),ns.length<=n->(∀ Pt∈ts,H Pt=some (.tbl #[]))->m90 K H a (ns.map V.int)->sp [.ref a] H (λv _=>v=.bl true) λ_ _ _=>False:=by
 have hrL:rL∈rows:=Ü hL;obtain⟨fL,fdL,aL,FL,ocL,odL,slL,lkL⟩:=Q.fn (rL.nm,rL.st) (Å2 _ (Þ.mpr ⟨rL,hrL,rfl⟩));have bL:=bd.at hrL;have e:=hfa.symm.trans (mg_of X Gn (by rw[← hn];exact aL))
 cases e;have bT:∀ (s:Å) (u:Ã),BindsTo s fdL ⟨[u],[]⟩ [("_law_script",u)]:=by
  obtain⟨_,_,kV,doc,pm,an,cdv,ct,_,e,_,_⟩:=FL.ex;subst e;intro s u;have:=bL kV doc pm an cdv ct [u] (by rw[hp];rfl)
  rw[hp] at this;exact .of_eq this
 have fin:∀ (TB:Tb) (ts:List Æ),(∀ p∈TB.tb,p.1∈ts)->(∀ Pt∈ts,h.get? Pt=some (Å7 #[])/\K.lookup Pt=none/\∃ c,Â2 K c Pt=true)->k32 K rows ->
   ∃ (fd:ø) (ts:List Æ) (sp:Sp),(∀ Pt∈ts,h.get? Pt=some (Å7 #[])/\K.lookup Pt=none/\∃ c,Â2 K c Pt=true)/\(∀ (s:Å) (u:Ã),BindsTo s fd ⟨[u],[]⟩ [("_law_script",u)]) /\
    (∀ base:á,K.In base->base.Ns Ý mg->BMain mg base->y10 l.prog w K mg base CX0 (lvU (k + 3)) fa fd ["_law_script"] sp) /\
    ∀ (H:Hp) (a:Æ) (ns:List Int),ns.length<=n->(∀ Pt∈ts,H Pt=some (.tbl #[]))->m90 K H a (ns.map V.int)->sp [.ref a] H (λv _=>v=.bl true) λ_ _ _=>False:=λTB ts h1 h2 h3=>by
  refine⟨fdL,ts,λvs H Q _=>spF K (lev ⟨y40 rows,nums,λ_ _ _=>M.no,clsAt K,0⟩ (tabOf rows) (k + 3)) iL 1 vs H Q λ_ _ _=>False,h2,bT,λbase kb nb bm=>?_,λH a ns hl hH hS=>W01 (pure ns hl) (λp hp=>hH p.1 (h1 p hp)) hS⟩;have F:=ok0 (W31 (P:=l.prog) (w:=w) X Gn Q ok bd bm hR h3 (λ_ _ _=>M.no) k hL FL ⟨fa,ocL,odL,slL,aL,lkL⟩);rw[hp] at F;exact F
 match mn,hmn,Q with
 |[],_,Q =>
  exact fin ⟨[]⟩ [] (λp hp=>by cases hp) (λp hp=>by cases hp) λr hr hlm=>by
   have:=(hR r hr hlm).1;cases this
 |[m],_,Q =>
  obtain⟨T,t1,t2,f,oc,od,fd,sl,c,t3,t4,t5,t6⟩:=Q.mt m (.head _);refine fin ⟨[(T,n32 m)]⟩ [T] (λp hp=>?_) (λp hp=>?_) λr hr hlm fd' h'=>?_
  ·cases Ä6.mp hp;exact .head _
  ·cases Ä6.mp hp;exact⟨t1,t2,c,t6⟩
  ·have hm:r.nm=m:=Ä6.mp (hR r hr hlm).1;rw[hm] at h' ⊢;obtain⟨f',oc',od',sl',e1,e2⟩:=h';rw[t3] at e1;cases e1;rw[t4] at e2;cases e2;exact⟨c,T,n32 m,t5,t6,λ_ _ _ _=>rfl,.head _,λp hp _=>by cases Ä6.mp hp;rfl⟩
end Q
namespace Q
open L2 (D)
open PySem (Paired)
def S10:Ex->Bool
 |.var _=>false|_=>true
def t72:Ex->Env->Option (Option S)
 |.var i,ρ=>ρ[i]?|_,_=>none
def n42:Option (Option S)->Option S
 |some (some s)=>noS s|_=>none
def blS:S->Option Bool
 |.d (.bl b)=>some b|_=>none
abbrev Du{α:Type}(_:α->Z->Prop)(_:Nat->Z->Prop):Type:=Unit
abbrev Dv{α:Type}(_:α->Prop):Type:=Unit
structure W{α:Type}(m:M α)(z:Z)(Q:α->Z->Prop)(E:Nat->Z->Prop)(du:Du Q E:=()):Prop where
 ex:∃ r,m z=some r/\match r with
  |.ok a z1=>Q a z1|.er c z1=>E c z1
theorem W_e{α:Type}{m:M α}{Q:α->Z->Prop}:W m z Q E↔∃ r,m z=some r/\match r with
  |.ok a z1=>Q a z1|.er c z1=>E c z1:=⟨W.ex,W.mk⟩
abbrev NE:Nat->Z->Prop:=λ_ _=>False
def Get{α:Type}(o:Option α)(P:α->Prop)(_:Dv P:=()):Prop:=match o with
 |some a=>P a|none=>False
theorem W41{α:Type}{a:α}{P:α->Prop}:Get (some a) P↔P a:=Ð5
theorem q10{α:Type}{o:Option α}{P:α->Prop}(h:Get o P):∃ a,o=some a/\P a:=by
 cases o with
 |none=>exact h.elim|some a=>exact⟨a,rfl,h⟩
theorem a70{α:Type}{o:Option α}{a:α}{P:α->Prop}(h:o=some a)(hp:P a):Get o P:=by rw[h];exact hp
section
variable {α β:Type}{m:M α}{z z1:Z}{Q Q':α->Z->Prop}{E E':Nat->Z->Prop}
theorem W.mono(h:W m z Q E)(hq:∀ a z,Q a z->Q' a z)(he:∀ c z,E c z->E' c z):W m z Q' E':=by
 obtain⟨r,e,h⟩:=h;refine⟨r,e,?_⟩;cases r with
 |ok a z1=>exact hq _ _ h|er c z1=>exact he _ _ h
theorem W.imp(h:W m z Q NE)(hq:∀ a z,Q a z->Q' a z):W m z Q' E':=h.mono hq λ_ _ h=>h.elim
theorem W.ok{a:α}(h:W m z (λb z2=>b=a/\z2=z1) NE):m z=some (.ok a z1):=by
 obtain⟨r,e,h⟩:=h;cases r with
 |ok b z2=>obtain⟨rfl,rfl⟩:=h;exact e
 |er c z2=>exact h.elim
theorem W.er(h:W m z (λ_ _=>False) (λd z2=>d=c/\z2=z1)):m z=some (.er c z1):=by
 obtain⟨r,e,h⟩:=h;cases r with
 |ok b z2=>exact h.elim|er d z2=>obtain⟨rfl,rfl⟩:=h;exact e
theorem n52{a:α}(h:m z=some (.ok a z1)):W m z Q E↔Q a z1:=by
 rw[W_e];constructor
 ·rintro ⟨r,e,q⟩;rw[h] at e;cases e;exact q
 ·exact λq=>⟨_,h,q⟩
theorem t82{c:Nat}(h:m z=some (.er c z1)):W m z Q E↔E c z1:=by
 rw[W_e];constructor
 ·rintro ⟨r,e,q⟩;rw[h] at e;cases e;exact q
 ·exact λq=>⟨_,h,q⟩
theorem N20{a:α}:W (M.ret a) z Q E↔Q a z:=n52 rfl
theorem W51:W (M.no:M α) z Q E↔False:=⟨λ⟨_,e,_⟩=>(by cases e),è⟩
theorem z50{f:α->M β}{Q:β->Z->Prop}:W (M.bind m f) z Q E↔W m z (λa z1=>W (f a) z1 Q E) E:=by
 constructor
 ·rintro ⟨r,e,q⟩;unfold M.bind at e;split at e
  ·rename_i a z1 e1;exact⟨_,e1,r,e,q⟩
  ·rename_i c z1 e1;cases e;exact⟨_,e1,q⟩
  ·cases e
 ·rintro ⟨r,e,q⟩;cases r with
  |ok a z1 =>
   obtain⟨r,e2,q⟩:=q;refine⟨r,?_,q⟩;unfold M.bind;rw[e];exact e2
  |er c z1 =>
   refine⟨.er c z1,?_,q⟩;unfold M.bind;rw[e]
theorem z01:W (M.calm m) z Q E↔W m z Q NE:=by
 rw[W_e,W_e];unfold M.calm;constructor
 ·rintro ⟨r,e,q⟩;split at e
  ·rename_i a z1 e1;cases e;exact⟨_,e1,q⟩
  ·cases e
 ·rintro ⟨r,e,q⟩;cases r with
  |ok a z1=>exact⟨.ok a z1,by rw[e],q⟩|er c z1=>exact q.elim
theorem I01(h:∀ a z,Q a z↔Q' a z):W m z Q E↔W m z Q' E:=⟨λx=>x.mono (λa z=>(h a z).mp) λ_ _ h=>h,λx=>x.mono (λa z=>(h a z).mpr) λ_ _ h=>h⟩
theorem wR{a:α}:Q a z↔W (M.ret a) z Q E:=N20.symm
theorem wN:False↔W (M.no:M α) z Q E:=W51.symm
theorem wT{c:Prop}[Decidable c]{a b:M α}{A B:Prop}(h1:A↔W a z Q E)(h2:B↔W b z Q E):(if c then A else B)↔W (if c then a else b) z Q E:=by
 split <;> assumption
theorem wG{o:Option β}{f:β->M α}{K:β->Prop}(h:∀ a,K a↔W (f a) z Q E):Get o K↔W (M.bind (M.of o) f) z Q E:=by
 cases o with
 |none=>exact W51.symm|some a=>exact h a
theorem wB{m:M β}{f:β->M α}{V:Prop}{K:β->Z->Prop}(h1:V↔W m z K E)(h2:∀ a z1,K a z1↔W (f a) z1 Q E):V↔W (M.bind m f) z Q E:=h1.trans ((I01 h2).trans z50.symm)
end
def Wm{α:Type}(o:Option (R α))(Q:α->Z->Prop)(E:Nat->Z->Prop):Prop:=match o with
 |some (.ok a z1)=>Q a z1|some (.er c z1)=>E c z1|none=>False
theorem wM{α:Type}{m:M α}{z:Z}{Q:α->Z->Prop}{E:Nat->Z->Prop}:Wm (m z) Q E↔W m z Q E:=by
 rw[W_e];unfold Wm;cases h:m z with
 |none=>exact⟨è,λ⟨_,e,_⟩=>by cases e⟩
 |some r =>
  refine⟨λq=>⟨r,rfl,?_⟩,λ⟨_,e,q⟩=>?_⟩
  ·cases r <;> exact q
  ·cases e;cases r <;> exact q
def Vr(o:Option (Option S))(z:Z)(Q:List S->Z->Prop)(_:Du Q NE:=()):Prop:=match o with
 |some (some s)=>Q [plS s] z|_=>False
def WV:FT->Ex->Env->Z->(List S->Z->Prop)->(Nat->Z->Prop)->Prop
 |F,.nil=>λρ z Q E=>Q [] z|F,.cons a r=>λρ z Q E=>WV F a ρ z (λx z1=>Get (one x) λs=>WV F r ρ z1 (λy z2=>Q (s::y) z2) E) E|F,.con x=>λρ z Q E=>Q [.d x] z|F,.gint g i=>λρ z Q E=>Q [.d (.int i)] z|F,.tup as=>λρ z Q E=>WV F as ρ z (λl z1=>Get (plA l) λds=>if ds.length<=most then Q [.d (.tup ds)] z1 else False) E|F,.lst as=>λρ z Q E=>WV F as ρ z (λl z1=>Get (plA l) λds=>if ds.length<=most then Q [.fr ds] z1 else False) E|F,.bin o a b=>λρ z Q E=>WV F a ρ z (λx z1=>Get (pl x) λdx=>WV F b ρ z1 (λy z2=>Get (pl y) λdy=>Get (W10 o dx dy) λs=>Q [s] z2) E) E|F,.cmp o a b=>λρ z Q E=>WV F a ρ z (λx z1=>Get (pl x) λdx=>WV F b ρ z1 (λy z2=>Get (pl y) λdy=>Get (q40 o dx dy) λt=>Q [.d (.bl t)] z2) E) E|F,.neg a=>λρ z Q E=>WV F a ρ z (λx z1=>Get ((pl x).bind asI) λi=>Q [.d (.int (-i))] z1) E|F,.not a=>λρ z Q E=>WV F a ρ z (λx z1=>Get ((pl x).bind asB) λb=>Q [.d (.bl !b)] z1) E|F,.and a b=>λρ z Q E=>WV F a ρ z (λx z1=>Get ((pl x).bind asB) λc=>if c then WV F b ρ z1 (λy z2=>Get ((pl y).bind asB) λc=>Q [.d (.bl c)] z2) E else Q [.d (.bl false)] z1) E|F,.or a b=>λρ z Q E=>WV F a ρ z (λx z1=>Get ((pl x).bind asB) λc=>if c then Q [.d (.bl true)] z1 else WV F b ρ z1 (λy z2=>Get ((pl y).bind asB) λc=>Q [.d (.bl c)] z2) E) E|F,.orT a b=>λρ z Q E=>WV F a ρ z (λx z1=>Get ((pl x).bind P01) λl=>if l.isEmpty then WV F b ρ z1 (λy z2=>Get ((pl y).bind P01) λl=>Q [.d (.tup l)] z2) NE else Q [.d (.tup l)] z1) NE|F,.ite c a b=>λρ z Q E=>WV F c ρ z (λx z1=>Get ((pl x).bind asB) λc=>if c then WV F a ρ z1 Q E else WV F b ρ z1 Q E) E|F,.ch o o' a b c=>λρ z Q E=>WV F a ρ z (λx z1=>Get (pl x) λdx=>WV F b ρ z1 (λy z2=>Get (pl y) λdy=>Get (q40 o dx dy) λt=>if t then WV F c ρ z2 (λw z3=>Get (pl w) λdw=>Get (q40 o' dy dw) λt=>Q [.d (.bl t)] z3) E else Q [.d (.bl false)] z2) E) E|F,.bf f as=>λρ z Q E=>WV F as ρ z (λl z1=>Get (plA l) λds=>Get (bfD f ds) λs=>Q [s] z1) E|F,.isi t a=>λρ z Q E=>WV F a ρ z (λx z1=>Get (pl x) λx=>Q [.d (.bl (J81 t x))] z1) E|F,.idx a i=>λρ z Q E=>WV F a ρ z (λx z1=>Get (pl x) λdx=>WV F i ρ z1 (λy z2=>Get (pl y) λdy=>Get (d81 dx dy) λr=>Q [.d r] z2) E) E|F,.sl a lo hi=>λρ z Q E=>WV F a ρ z (λx z1=>Get (pl x) λdx=>WV F lo ρ z1 (λu z2=>Get (d91 u) λu=>WV F hi ρ z2 (λv z3=>Get (d91 v) λv=>Get (slD dx u v) λs=>Q [s] z3) E) E) E|F,.call f as=>λρ z Q E=>WV F as ρ z (λl z1=>W (F false f (l.map plS)) z1 (λs z2=>Q [s] z2) E) E|F,.comp own capt p it src cond el=>λρ z Q E=>WV F src ρ z (λl z1=>Get ((plA l).bind (itD it)) λxs=>if xs.length<=most then W (turns (t30 (ev F cond) (ev F el) p (ã own none++capt.map λi=>(ρ[i]?).getD none)) xs) z1 (λys z2=>Q [.fr ys] z2) NE else False) E|F,.lrng b as=>λρ z Q E=>WV F as ρ z (λl z1=>Get ((plA l).bind lrD) λxs=>Q [lrS b xs] z1) E|F,.rgt capt a b sm=>λρ z Q E=>WV F b ρ z (λl z1=>Get (pl l) λd=>W (s01 (W30 ρ capt) d (λρ'=>ev (W20 F) a ρ') λs=>F true sm [plS s,.d d]) z1 Q E) E|F,.var i=>λρ z Q E=>Vr ρ[i]? z Q|F,.zget i k=>λρ z Q E=>Wm (e01 k ρ[i]? z) Q E
def WE(F:FT)(e:Ex)(ρ:Env)(z:Z)(Q:List S->Z->Prop)(E:Nat->Z->Prop)(_:Du Q E:=()):Prop:=WV F e ρ z Q E
def WX(F:FT)(tp:Bool):Sm->Env->Z->(O->Z->Prop)->(Nat->Z->Prop)->Prop
 |.nil=>λρ z Q E=>Q (.nx ρ) z
 |.seq s r=>λρ z Q E=>WX F tp s ρ z (λo z1=>match o with
  |.nx ρ=>WX F tp r ρ z1 Q E
  |.rt s=>Q (.rt s) z1) E
 |.set p e=>λρ z Q E=>WE F e ρ z (λl z1=>Get (one l) λs=>Get (H80 p s (j50 s ρ)) λρ'=>Q (.nx ρ') z1) E|.ret e=>λρ z Q E=>if S10 e then WE F e ρ z (λl z1=>Get ((one l).bind noS) λs=>Q (.rt s) z1) E else Get (n42 (t72 e ρ)) λs=>Q (.rt s) z|.iff c t e=>λρ z Q E=>WE F c ρ z (λx z1=>Get ((pl x).bind asB) λb=>if b then WX F tp t ρ z1 Q E else WX F tp e ρ z1 Q E) E|.exp e=>λρ z Q E=>WE F e ρ z (λl z1=>Get (one l) λ_=>Q (.nx ρ) z1) E|.rais c=>λρ z Q E=>E c z|.fr p it src b=>λρ z Q E=>WE F src ρ z (λl z1=>Get ((plA l).bind (itD it)) λxs=>W (K00 (λx ρ=>M.bind (M.of (e60 p x ρ)) λρ=>ex F tp b ρ) xs (D41 it src l ρ)) z1 Q E) E|.whl c b=>λρ z Q E=>W (x11 (ev F c) (ex F tp b) J91 ρ) z Q E|.lams i ls g e t r=>λρ z Q E=>W (ex F tp (.lams i ls g e t r) ρ) z Q E|.zset i e=>λρ z Q E=>WE F e ρ z (λl z1=>Get ((pl l).bind asI) λv=>Wm (e41 ρ v ρ[i]? z1) Q E) E|.app i e=>λρ z Q E=>Get (ownAt ρ i) λxs=>WE F e ρ z (λl z1=>Get (pl l) λx=>if bare x=true/\xs.length < most then Q (.nx (ρ.set i (some (.fr (xs++[x]))))) z1 else False) E|.apop i j e=>λρ z Q E=>Get (ownAt ρ i) λxs=>Get (ownAt ρ j) λys=>WE F e ρ z (λl z1=>Get ((pl l).bind asI) λk=>Get (e21 ρ i j xs ys k) λo=>Q o z1) E|.newz i f as=>λρ z Q E=>WE F (.call f as) ρ z (λl z1=>Wm (e31 tp ρ i l) Q E) E|.sti i ix e=>λρ z Q E=>WE F e ρ z (λl z1=>Get (pl l) λx=>Get (ownAt ρ i) λxs=>WE F ix ρ z1 (λj z2=>Get ((pl j).bind asI) λj=>Get (H90 xs j x) λxs=>if bare x=true then Q (.nx (ρ.set i (some (.fr xs)))) z2 else False) E) E
def WS(F:FT)(tp:Bool)(s:Sm)(ρ:Env)(z:Z)(Q:O->Z->Prop)(E:Nat->Z->Prop)(_:Du Q E:=()):Prop:=WX F tp s ρ z Q E
theorem W61:∀ (e:Ex) {F:FT}{ρ:Env}{z:Z}{Q:List S->Z->Prop}{E:Nat->Z->Prop},WV F e ρ z Q E↔W (ev F e ρ) z Q E:=by
 intro e
 induction e with
 |nil=>intros;exact wR|cons a r ha hr=>intros;exact wB ha λx z1=>wG λs=>wB hr λy z2=>wR
 |var i =>
  intro F ρ z Q E;show Vr ρ[i]? z Q↔W (match ρ[i]? with | some (some s)=>M.ret [plS s] | _=>M.no) z Q E
  generalize ρ[i]?=o
  match o with
  |some (some s)=>exact wR|some none=>exact wN|none=>exact wN
 |con x=>intros;exact wR|gint g i=>intros;exact wR|tup a ha=>intros;exact wB ha λl z1=>wG λds=>wT wR wN|lst a ha=>intros;exact wB ha λl z1=>wG λds=>wT wR wN|bin o a b ha hb=>intros;exact wB ha λx z1=>wG λdx=>wB hb λy z2=>wG λdy=>wG λs=>wR|cmp o a b ha hb=>intros;exact wB ha λx z1=>wG λdx=>wB hb λy z2=>wG λdy=>wG λs=>wR|neg a ha=>intros;exact wB ha λx z1=>wG λi=>wR|not a ha=>intros;exact wB ha λx z1=>wG λi=>wR|and a b ha hb=>intros;exact wB ha λx z1=>wG λc=>wT (wB hb λy z2=>wG λc=>wR) wR|or a b ha hb=>intros;exact wB ha λx z1=>wG λc=>wT wR (wB hb λy z2=>wG λc=>wR)|orT a b ha hb=>intros;refine Iff.trans ?_ z01.symm;exact wB ha λx z1=>wG λl=>wT (wB hb λy z2=>wG λl=>wR) wR|ite c a b hc ha hb=>intros;exact wB hc λx z1=>wG λc=>wT ha hb|ch o o' a b c ha hb hc=>intros;exact wB ha λx z1=>wG λdx=>wB hb λy z2=>wG λdy=>wG λt=>wT (wB hc λw z3=>wG λdw=>wG λt=>wR) wR|bf f a ha=>intros;exact wB ha λl z1=>wG λds=>wG λs=>wR|isi t a ha=>intros;exact wB ha λx z1=>wG λx=>wR|idx a i ha hi=>intros;exact wB ha λx z1=>wG λdx=>wB hi λy z2=>wG λdy=>wG λr=>wR|sl a l h ha hl hh=>intros;exact wB ha λx z1=>wG λdx=>wB hl λu z2=>wG λu=>wB hh λv z3=>wG λv=>wG λs=>wR|call f a ha=>intros;exact wB ha λl z1=>wB Ð5 λs z2=>wR|comp own capt p it src cond el hs hc he=>intros;exact wB hs λl z1=>wG λxs=>wT (wB z01.symm λys z2=>wR) wN|zget i k=>intros;exact wM (m:=e01 k _)|lrng b a ha=>intros;exact wB ha λl z1=>wG λxs=>wR|rgt capt a b sm ha hb=>intros;exact wB hb λl z1=>wG λd=>Ð5
theorem W71{o:Option (List S)}{d:D}{m:Env->M (List S)}{g:S->M S}{z z1:Z}{ss:List S}{c:Nat}{Q:List S->Z->Prop}{E:Nat->Z->Prop}(hd:h90 d=true)(ho:o=some ss)(e:m (ss.map some) z=some (.er c z1))(hc:c < 12)(q:Q [.d (.bl (c == 8))] z1):W (s01 o d m g) z Q E:=by
 subst ho;rw[W_e];refine⟨.ok [.d (.bl (c == 8))] z1,?_,q⟩;unfold s01;dsimp only;rw[hd];unfold Z51;dsimp only;rw[e];dsimp only;rw[if_pos hc]
theorem W81{o:Option (List S)}{d:D}{m:Env->M (List S)}{g:S->M S}{z z1 z2:Z}{ss:List S}{s r:S}{Q:List S->Z->Prop}{E:Nat->Z->Prop}(hd:h90 d=false)(ho:o=some ss)(e:m (ss.map some) z=some (.ok [s] z1))(e2:g s z1=some (.ok r z2))(q:Q [r] z2):W (s01 o d m g) z Q E:=by
 subst ho;rw[W_e];refine⟨.ok [r] z2,?_,q⟩;unfold s01;dsimp only;rw[hd];unfold Z61;dsimp only;rw[e];dsimp only [one];rw[e2]
theorem d00{e:Ex}{F:FT}{ρ:Env}{z:Z}{Q:List S->Z->Prop}{E:Nat->Z->Prop}:WE F e ρ z Q E↔W (ev F e ρ) z Q E:=W61 e
theorem k42{F:FT}{tp:Bool}{ρ:Env}{e:Ex}(h:S10 e=true):ex F tp (.ret e) ρ=M.bind (ev F e ρ) λl=>M.bind (M.of ((one l).bind noS)) λs=>M.ret (.rt s):=by
 cases e with
 |var i=>cases h
 |_=>rfl
theorem W91{F:FT}{tp:Bool}:∀ (s:Sm) {ρ:Env}{z:Z}{Q:O->Z->Prop}{E:Nat->Z->Prop},WX F tp s ρ z Q E↔W (ex F tp s ρ) z Q E:=by
 intro s
 induction s with
 |nil=>intros;exact wR
 |seq s r hs hr =>
  intros;refine wB hs λo z1=>?_;cases o with
  |nx ρ=>exact hr|rt s=>exact wR
 |set p e=>intros;exact wB d00 λl z1=>wG λs=>wG λρ'=>wR
 |ret e =>
  intro ρ z Q E;show(if S10 e then _ else _)↔_;cases h:S10 e with
  |true =>
   refine(iff_of_eq (if_pos rfl)).trans ?_;rw[k42 h];exact wB d00 λl z1=>wG λs=>wR
  |false =>
   cases e with
   |var i =>
    refine(iff_of_eq (if_neg Ï)).trans ?_;show Get (n42 ρ[i]?) _↔W (match ρ[i]? with | some (some s)=>M.bind (M.of (noS s)) λs=>M.ret (O.rt s) | _=>M.no) z Q E
    generalize ρ[i]?=o
    match o with
    |some (some s)=>exact wG λs=>wR|some none=>exact wN|none=>exact wN
   |_=>cases h
 |iff c t u ht hu=>intros;exact wB d00 λx z1=>wG λc=>wT ht hu|exp e=>intros;exact wB d00 λl z1=>wG λs=>wR|rais c=>intros;exact(t82 rfl).symm|fr p it src b ih=>intros;exact wB d00 λl z1=>wG λxs=>Ð5|whl c b ih=>intros;exact Ð5|lams i ls g e t r iht ihr=>intros;exact Ð5|zset i e=>intros;exact wB d00 λl z1=>wG λv=>wM (m:=e41 _ v _)|app i e=>intros;exact wG λxs=>wB d00 λl z1=>wG λx=>wT wR wN|apop i j e=>intros;exact wG λxs=>wG λys=>wB d00 λl z1=>wG λk=>wG λo=>wR|newz i f as=>intros;exact wB d00 λl z1=>wM (m:=λ_=>e31 tp _ i l)|sti i ix e=>intros;exact wB d00 λl z1=>wG λx=>wG λxs=>wB d00 λj z2=>wG λj=>wG λxs=>wT wR wN
theorem z60:WS F tp s ρ z Q E↔W (ex F tp s ρ) z Q E:=W91 s
theorem WS.mono{s:Sm}{F:FT}{tp:Bool}{ρ:Env}{z:Z}{Q Q':O->Z->Prop}{E E':Nat->Z->Prop}(h:WS F tp s ρ z Q E)(hq:∀ a z,Q a z->Q' a z)(he:∀ c z,E c z->E' c z):WS F tp s ρ z Q' E':=z60.mpr (W.mono (z60.mp h) hq he)
theorem I11(Mid:Env->Z->Prop)(h:WS F tp s ρ z (λo z1=>match o with
  |.nx ρ=>Mid ρ z1
  |.rt s=>Q (.rt s) z1) E) (h2:∀ ρ z,Mid ρ z->WS F tp r ρ z Q E):WS F tp (.seq s r) ρ z Q E:=by
 refine WS.mono (s:=s) h (λo z1 h=>?_) λ_ _ h=>h;cases o with
 |nx ρ=>exact h2 ρ z1 h|rt s=>exact h
section
variable {T:List Df}{k f ps ns:Nat}{b:Sm}{l:List S}{z:Z}{Q:S->Z->Prop}{E:Nat->Z->Prop}
theorem X01(h:T[f]?=some (.code ps ns b))(hl:l.length=ps)(hn:ps<=ns):W (c70 T (k + 3) f l) z Q E↔WS (w00 T (k + 2)) z.isNone b (start ns (l.map plS)) z (λo z1=>match o with
  |.nx _=>Q (.d .non) (p50 z z1)
  |.rt s=>Q s (p50 z z1)) λc z1=>E c (p50 z z1):=by
 refine Iff.trans ?_ z60.symm;rw[L40,h];show W (λz=>if l.length=ps/\ps<=ns then(match ex (w00 T (k + 2)) z.isNone b (start ns (l.map plS)) z with
  |some (.ok (.nx _) z1)=>some (R.ok (S.d .non) (p50 z z1))|some (.ok (.rt s) z1)=>some (.ok s (p50 z z1))|some (.er c z1)=>some (.er c (p50 z z1))
  |none=>none) else none) z Q E↔_
 rw[W_e,W_e];constructor
 ·rintro ⟨r,e,q⟩;rw[if_pos ⟨hl,hn⟩] at e;split at e
  ·rename_i ρ z1 e1;cases e;exact⟨_,e1,q⟩
  ·rename_i s z1 e1;cases e;exact⟨_,e1,q⟩
  ·rename_i c z1 e1;cases e;exact⟨_,e1,q⟩
  ·cases e
 ·rintro ⟨r,e,q⟩;rw[if_pos ⟨hl,hn⟩,e]
  match r,q with
  |.ok (.nx ρ) z1,q=>exact⟨_,rfl,q⟩|.ok (.rt s) z1,q=>exact⟨_,rfl,q⟩|.er c z1,q=>exact⟨_,rfl,q⟩
end
section
variable {F:FT}{tp:Bool}{ρ:Env}{z:Z}{E:Nat->Z->Prop}
theorem N30{f:D->M (Option D)}{o:D->Option D}:∀ {xs:List D}{Q:List D->Z->Prop},(∀ x∈xs,f x z=some (.ok (o x) z))->(W (turns f xs) z Q E↔Q (xs.filterMap o) z)
 |[],Q,_=>N20
 |x::r,Q,h=>by
  show W (M.bind (f x) _) z Q E↔_;rw[z50,n52 (h x Ó),z50,N30 λy hy=>h y (Î _ hy),N20];rw[þ];cases o x <;> rfl
theorem z11(I:List D->Env->Z->Prop):∀ (xs:List D) {ρ:Env}{z:Z},I xs ρ z->(∀ x r ρ z,I (x::r) ρ z->W (f x ρ) z (λo z1=>match o with
  |.nx ρ=>I r ρ z1
  |.rt s=>Q (.rt s) z1) E)->(∀ ρ z,I [] ρ z->Q (.nx ρ) z)->W (K00 f xs ρ) z Q E
 |[],ρ,z,hi,_,q=>N20.mpr (q _ _ hi)
 |x::r,ρ,z,hi,h,q=>by
  show W (M.bind (f x ρ) _) z Q E;rw[z50];refine(h x r ρ z hi).mono (λo z1 ho=>?_) λ_ _ h=>h;cases o with
  |nx ρ1=>exact z11 I r ho h q|rt s=>exact N20.mpr ho
theorem X11{c:Env->M (List S)}{f:Env->M O}{Q:O->Z->Prop}(I:Nat->Env->Z->Prop)(step:∀ n ρ z,I n ρ z->W (c ρ) z (λx z1=>Get ((pl x).bind asB) λk=>if k then W (f ρ) z1 (λo z2=>match o with
  |.nx ρ=>∃ m,m < n/\I m ρ z2
  |.rt s=>Q (.rt s) z2) E else Q (.nx ρ) z1) E):∀ (n m:Nat) {ρ:Env}{z:Z},I n ρ z->n < m->W (x11 c f m ρ) z Q E:=by
 intro n
 induction n using Nat.strongRecOn with
 |ind n ih =>
  intro m ρ z hi hm;cases m with
  |zero=>omega
  |succ m =>
   show W (M.bind (c ρ) _) z Q E;rw[z50];refine(step n ρ z hi).mono (λx z1 h=>?_) λ_ _ h=>h;obtain⟨k,e,h⟩:=q10 h;refine(wG (K:=λk=>if k=true then W (M.bind (f ρ) _) z1 Q E else W (M.ret (O.nx ρ)) z1 Q E) λk=>wT Ð5 Ð5).mp (a70 e ?_);cases k with
   |true =>
    rw[if_pos rfl] at h ⊢;rw[z50];refine h.mono (λo z2 h=>?_) λ_ _ h=>h;cases o with
    |nx ρ1 =>
     obtain⟨j,hj,hi⟩:=h;exact ih j hj m hi ∅
    |rt s=>exact N20.mpr h
   |false =>
    rw[if_neg Ï] at h ⊢;exact N20.mpr h
end
mutual
noncomputable def cE:D->Ex
 |.tup l=>.tup (cEs l)|.lst l=>.lst (cEs l)|.int i=>if i < 0 then .neg (.con (.int (-i))) else .con (.int i)|x=>.con x
noncomputable def cEs:List D->Ex
 |[]=>.nil|x::r=>.cons (cE x) (cEs r)
end
mutual
noncomputable def okC:D->Bool
 |.tup l=>decide (l.length<=most)&&k52 l|.lst l=>decide (l.length<=most)&&k52 l|_=>true
noncomputable def k52:List D->Bool
 |[]=>true|x::r=>okC x&&k52 r
end
def cX(d:D)(_:okC d=true):Ex:=cE d
section
variable {F:FT}{ρ:Env}{z:Z}{Q:List S->Z->Prop}{E:Nat->Z->Prop}{a b c as:Ex}{p:Pat}{ρ0:Env}{x:D}{Q1:Option D->Z->Prop}
theorem I21:W (t30 (ev F .nil) (ev F a) p ρ0 x) z Q1 E↔Get (e60 p x ρ0) λρ=>WE F a ρ z (λy z1=>Get (pl y) λd=>Q1 (some d) z1) E :=
 (wG λρ=>show _↔W (M.bind (ev F a ρ) λy=>M.bind (M.of (pl y)) λy=>M.ret (some y)) z Q1 E from wB d00 λy z1=>wG λd=>wR).symm
theorem X21{l:List S}{m:M (List S)}{V:Prop}(h:V↔W (M.bind m λy=>M.bind (M.of (pl y)) λy=>M.ret (some y)) z Q1 E):(match l with | [s]=>Get (blS s) λb=>if b then V else Q1 none z | _=>l=[]/\V)↔W (match l with
  |[]=>M.bind m λy=>M.bind (M.of (pl y)) λy=>M.ret (some y)|[.d (.bl true)]=>M.bind m λy=>M.bind (M.of (pl y)) λy=>M.ret (some y)|[.d (.bl false)]=>M.ret none
  |_=>M.no) z Q1 E:=by
 match l with
 |[]=>exact⟨λx=>h.mp x.2,λx=>⟨rfl,h.mpr x⟩⟩|[.d (.bl true)]=>exact W41.trans ((iff_of_eq (if_pos rfl)).trans h)|[.d (.bl false)]=>exact W41.trans ((iff_of_eq (if_neg Ï)).trans wR)|[.d .non]=>exact wN|[.d (.int _)]=>exact wN|[.d (.str _)]=>exact wN|[.d (.tup _)]=>exact wN|[.d (.lst _)]=>exact wN|[.d .dct]=>exact wN|[.fr _]=>exact wN|[.z]=>exact wN
 |s::_::_ =>
  refine⟨λx=>(by cases x.1),λx=>?_⟩
  cases s with
  |d y =>
   cases y with
   |bl b=>cases b <;> exact(W51.mp x).elim
   |_=>exact(W51.mp x).elim
  |_=>exact(W51.mp x).elim
theorem I31:W (t30 (ev F (.cons c .nil)) (ev F a) p ρ0 x) z Q1 E↔Get (e60 p x ρ0) λρ=>WE F c ρ z (λy z1=>Get (one y) λs=>Get (blS s) λb=>if b then WE F a ρ z1 (λy z2=>Get (pl y) λd=>Q1 (some d) z2) E else Q1 none z1) E:=by
 refine Iff.symm (wG λρ=>?_);refine wB (d00 (F:=F) (e:=.cons c .nil) (ρ:=ρ) (Q:=λl z1=>match l with | [s]=>Get (blS s) λb=>if b then WE F a ρ z1 (λy z2=>Get (pl y) λd=>Q1 (some d) z2) E else Q1 none z1 | _=>l=[]/\WE F a ρ z1 (λy z2=>Get (pl y) λd=>Q1 (some d) z2) E)) λl z1=>?_
 exact X21 (wB d00 λy z1=>wG λd=>wR)
end
section
variable {α:Type}{m:M α}{z z1:Z}{Q Q':α->Z->Prop}{E:Nat->Z->Prop}
theorem Wo(h:m z=some (.ok a z1))(q:Q a z1):W m z Q E:=⟨_,h,q⟩
theorem We(h:m z=some (.er c z1))(q:E c z1):W m z Q E:=⟨_,h,q⟩
end
theorem o90{T:List Df}{k f ps ns:Nat}{b:Sm}{l:List S}{z:Z}{Q:S->Z->Prop}{E:Nat->Z->Prop}(h:T[f]?=some (.code ps ns b))(hl:l.length=ps)(hn:ps<=ns)(q:WS (w00 T (k + 2)) z.isNone b (start ns (l.map plS)) z (λo z1=>match o with
  |.nx _=>Q (.d .non) (p50 z z1)
  |.rt s=>Q s (p50 z z1)) λc z1=>E c (p50 z z1)):W (c70 T (k + 3) f l) z Q E:=(X01 h hl hn).mpr q
theorem ib{b:Bool}{A B:Prop}(ht:b=true->A)(hf:b=false->B):if b=true then A else B:=by
 cases b with
 |true=>exact ht rfl|false=>exact hf rfl
theorem it{b:Bool}{A B:Prop}(h:b=true)(a:A):if b=true then A else B:=by rw[if_pos h];exact a
theorem ie{b:Bool}{A B:Prop}(h:b=false)(a:B):if b=true then A else B:=by rw[h];exact a
theorem ip{c:Prop}[Decidable c]{A B:Prop}(h:c)(a:A):if c then A else B:=by rw[if_pos h];exact a
theorem b70(z:Z):p50 z z=z:=by cases z <;> rfl
theorem sd{s t:S}{z:Z}(h:s=t):s=t/\p50 z z=z:=⟨h,b70 z⟩
theorem sb(h:b=c):S.d (.bl b)=S.d (.bl c)/\p50 z z=z:=sd (by rw[h])
section
variable {F:FT}{tp:Bool}{z:Z}{E:Nat->Z->Prop}{p:Pat}
theorem X40(I:List D->Env->Z->Prop)(xs:List D)(hi:I xs ρ z)(h:∀ x r ρ z,I (x::r) ρ z->Get (e60 p x ρ) λρ=>WS F tp b ρ z (λo z1=>match o with
  |.nx ρ=>I r ρ z1
  |.rt s=>Q (.rt s) z1) E) (q:∀ ρ z,I [] ρ z->Q (.nx ρ) z):W (K00 (λx ρ=>M.bind (M.of (e60 p x ρ)) λρ=>ex F tp b ρ) xs ρ) z Q E :=
 z11 I xs hi (λx r ρ z hi=>(wG λρ=>z60).mp (h x r ρ z hi)) q
theorem k62(I:Nat->Env->Z->Prop)(n:Nat)(hi:I n ρ z)(hn:n < J91)(h:∀ n ρ z,I n ρ z->WE F c ρ z (λx z1=>Get ((pl x).bind asB) λk=>if k then WS F tp b ρ z1 (λo z2=>match o with
  |.nx ρ=>∃ m,m < n/\I m ρ z2
  |.rt s=>Q (.rt s) z2) E else Q (.nx ρ) z1) E):W (x11 (ev F c) (ex F tp b) J91 ρ) z Q E:=by
 refine X11 I (λn ρ z hi=>?_) n J91 hi hn;refine(d00.mp (h n ρ z hi)).mono (λx z1 h=>?_) λ_ _ h=>h;obtain⟨k,e,h⟩:=q10 h;refine a70 e ?_;cases k with
 |true=>exact z60.mp h|false=>exact h
variable {ρ0:Env}{cond el:Ex}{xs:List D}{Q:List D->Z->Prop}
theorem N40(o:D->D)(h:∀ x∈xs,Get (e60 p x ρ0) λρ=>WE F el ρ z (λy z1=>Get (pl y) λd=>d=o x/\z1=z) NE)(q:Q (xs.map o) z):W (turns (t30 (ev F .nil) (ev F el) p ρ0) xs) z Q E:=by
 refine(N30 (o:=λx=>some (o x)) λx hx=>?_).mpr ?_
 ·refine W.ok (I21.mpr ?_);obtain⟨ρ,e,h⟩:=q10 (h x hx);refine a70 e (d00.mpr ((d00.mp h).imp λy z1 h=>?_));obtain⟨d,e,rfl,rfl⟩:=q10 h;exact a70 e ⟨rfl,rfl⟩
 ·rw[show xs.filterMap (λx=>some (o x))=xs.map o from congrFun (List.filterMap_eq_map (f:=o)) xs];exact q
theorem k72{c:D->Bool}{o:D->D}:∀ xs:List D,xs.filterMap (λx=>if c x then some (o x) else none)=(xs.filter c).map o
 |[]=>rfl
 |x::r=>by
  rw[þ,List.filter_cons];cases hc:c x with
  |false=>exact k72 r|true=>exact congrArg (o x::·) (k72 r)
theorem t92(c:D->Bool)(o:D->D)(h:∀ x∈xs,Get (e60 p x ρ0) λρ=>WE F cond ρ z (λy z1=>Get (one y) λs=>s=.d (.bl (c x))/\z1=z/\(c x=true->WE F el ρ z (λy z1=>Get (pl y) λd=>d=o x/\z1=z) NE)) NE)(q:Q ((xs.filter c).map o) z):W (turns (t30 (ev F (.cons cond .nil)) (ev F el) p ρ0) xs) z Q E:=by
 refine(N30 (o:=λx=>if c x then some (o x) else none) λx hx=>?_).mpr ?_
 ·refine W.ok (I31.mpr ?_);obtain⟨ρ,e,h⟩:=q10 (h x hx);refine a70 e (d00.mpr ((d00.mp h).imp λy z1 h=>?_));obtain⟨s,e,rfl,rfl,h⟩:=q10 h;refine a70 e ?_;show if c x=true then _ else _;cases hc:c x with
  |false=>exact⟨rfl,rfl⟩
  |true =>
   refine d00.mpr ((d00.mp (h hc)).imp λy z1 h=>?_);obtain⟨d,e,rfl,rfl⟩:=q10 h;exact a70 e ⟨rfl,rfl⟩
 ·rw[k72];exact q
end
theorem l10{s:S}{ρ:Env}(h:l40 s=true):j50 s ρ=ρ:=by
 unfold j50;rw[P70,h];rfl
theorem t40{F:FT}{tp:Bool}{p:Pat}{e:Ex}{r:Sm}{ρ:Env}{z:Z}{Q:O->Z->Prop}{E:Nat->Z->Prop}(s:S)(ρ':Env)(he:WE F e ρ z (λl z1=>Get (one l) λt=>t=s/\z1=z) NE)(hb:H80 p s (j50 s ρ)=some ρ')(q:WS F tp r ρ' z Q E):WS F tp (.seq (.set p e) r) ρ z Q E:=by
 show WE F e ρ z (λl z1=>Get (one l) λs=>Get (H80 p s (j50 s ρ)) λρ'=>WX F tp r ρ' z1 Q E) E;refine d00.mpr ((d00.mp he).imp λl z1 h=>?_);obtain⟨t,e,rfl,rfl⟩:=q10 h;exact a70 e (a70 hb q)
end Q
namespace K3
open PySem L2 Q
def top(i:Nat):Stmt:=ç.main.body.getD i (.Pass ⟨0,0,0,0⟩)
def nums:List (Str × Int):=[(("MOST_PLACES":Str),(6:Int)),(("MOST_TIES":Str),(8:Int))]
abbrev v0:Ex:=.var 0
abbrev v1:Ex:=.var 1
abbrev v2:Ex:=.var 2
abbrev v3:Ex:=.var 3
abbrev v4:Ex:=.var 4
abbrev v5:Ex:=.var 5
abbrev v6:Ex:=.var 6
abbrev v7:Ex:=.var 7
abbrev v8:Ex:=.var 8
abbrev v9:Ex:=.var 9
abbrev n0:Ex:=.con (.int 0)
abbrev n1:Ex:=.con (.int 1)
abbrev n2:Ex:=.con (.int 2)
abbrev c1(a:Ex):Ex:=.cons a .nil
abbrev c2(a b:Ex):Ex:=.cons a (.cons b .nil)
abbrev c3(a b c:Ex):Ex:=.cons a (.cons b (.cons c .nil))
abbrev c4(a b c d:Ex):Ex:=.cons a (.cons b (.cons c (.cons d .nil)))
abbrev c5(a b c d e:Ex):Ex:=.cons a (.cons b (.cons c (.cons d (.cons e .nil))))
abbrev s1(a:Sm):Sm:=.seq a .nil
abbrev p2(a b:Pat):Pat:=.tup (.cons a (.cons b .nil))
abbrev r30:Nat:=0
abbrev n10:Nat:=1
abbrev S20:Nat:=2
abbrev z70:Nat:=3
abbrev S30:Nat:=4
abbrev f00:Nat:=5
abbrev g50:Nat:=6
abbrev S40:Nat:=7
abbrev J20:Nat:=8
abbrev x40:Nat:=9
abbrev i80:Nat:=10
abbrev i10:Nat:=11
abbrev j80:Nat:=12
abbrev f10:Nat:=13
abbrev n60:Nat:=14
abbrev s60:Nat:=15
abbrev b50:Nat:=16
abbrev s70:Nat:=17
abbrev r40:Nat:=18
abbrev n70:Nat:=19
abbrev r50:Nat:=20
abbrev s80:Nat:=21
abbrev X31:Nat:=22
def z80:Sm:=(s1 (.ret (.and (.isi .int v0) (.not (.isi .bool v0)))))
def r60:Sm:=(s1 (.ret (.and (.call r30 (c1 v0)) (.ch .le .lt n0 v0 v1))))
def E60:Sm:=(.seq (.iff (.or (.not (.isi .tuple v0)) (.cmp .ne (.bf .len (c1 v0)) n2)) (s1 (.ret (.con (.bl false)))) .nil) (.seq (.set (p2 (.v 2) (.v 3)) v0) (s1 (.ret (.and (.call n10 (c2 v2 v1)) (.and (.call n10 (c2 v3 v1)) (.cmp .lt v2 v3)))))))
def r70:Sm:=(.seq (.iff (.or (.not (.isi .tuple v0)) (.cmp .gt (.bf .len (c1 v0)) (.gint "MOST_TIES" 8))) (s1 (.ret (.con (.bl false)))) .nil) (.seq (.iff (.not (.bf .all (c1 (.comp 1 [1] (.v 0) .seq (c1 v0) .nil (.call S20 (c2 v0 v1)))))) (s1 (.ret (.con (.bl false)))) .nil) (s1 (.ret (.bf .all (c1 (.comp 2 [] (p2 (.v 0) (.v 1)) .zip (c2 v0 (.sl v0 (c1 n1) .nil)) .nil (.cmp .le v0 v1))))))))
def E70:Sm:=(.seq (.iff (.or (.not (.isi .tuple v0)) (.cmp .ne (.bf .len (c1 v0)) n2)) (s1 (.ret (.con (.bl false)))) .nil) (.seq (.set (p2 (.v 1) (.v 2)) v0) (s1 (.ret (.and (.call r30 (c1 v1)) (.and (.ch .le .le n1 v1 (.gint "MOST_PLACES" 6)) (.call z70 (c2 v2 v1))))))))
def k40:Sm:=(s1 (.iff (.not (.call S30 (c1 v0))) (s1 (.rais 0)) .nil))
def g60:Sm:=(s1 (.iff (.not (.call n10 (c2 v1 (.idx v0 n0)))) (s1 (.rais 3)) .nil))
def E80:Sm:=(s1 (.ret (.tup (c2 (.bf .min (c2 v0 v1)) (.bf .max (c2 v0 v1))))))
def x50:Sm:=(.seq (.set (p2 (.v 2) (.v 3)) v0) (s1 (.ret (.call S40 (c2 (.idx v1 v2) (.idx v1 v3))))))
def o50:Sm:=(s1 (.ret (.ite (.cmp .gt v0 v1) (.bin .sub v0 n1) v0)))
def f30:Sm:=(.seq (.set (.v 4) (.comp 2 [] (p2 (.v 0) (.v 1)) .enum (c1 (.idx v1 n1)) .nil (.tup (c3 v1 n0 v0)))) (.seq (.set (.v 4) (.bin .add v4 (.comp 2 [3] (p2 (.v 0) (.v 1)) .enum (c1 (.idx v2 n1)) .nil (.tup (c3 (.call J20 (c2 v1 v2)) n1 v0))))) (.seq (.iff (.or (.cmp .gt v0 (.gint "MOST_PLACES" 6)) (.cmp .gt (.bf .len (c1 v4)) (.gint "MOST_TIES" 8))) (s1 (.rais 8)) .nil) (.seq (.set (.v 4) (.bf .sorted (c1 v4))) (.seq (.set (.v 5) (.tup (c2 v0 (.bf .tuple (c1 (.comp 3 [] (.tup (.cons (.v 0) (.cons (.v 1) (.cons (.v 2) .nil)))) .seq (c1 v4) .nil v0)))))) (s1 (.ret (.tup (c2 v5 (.bf .tuple (c1 (.comp 3 [] (.tup (.cons (.v 0) (.cons (.v 1) (.cons (.v 2) .nil)))) .seq (c1 v4) .nil (.tup (c2 v1 v2))))))))))))))
def q20:Sm:=(.seq (.exp (.call f00 (c1 v0))) (.seq (.exp (.call f00 (c1 v1))) (.seq (.set (.v 2) (.comp 1 [0] (.v 0) .rng1 (c1 (.idx v1 n0)) .nil (.bin .add (.idx v1 n0) v0))) (s1 (.ret (.call i80 (c4 (.bin .add (.idx v0 n0) (.idx v1 n0)) v0 v1 v2)))))))
def x60:Sm:=(.seq (.exp (.call f00 (c1 v0))) (.seq (.exp (.call f00 (c1 v2))) (.seq (.exp (.call g50 (c2 v0 v1))) (.seq (.exp (.call g50 (c2 v2 v3))) (.seq (.set (.v 4) (.comp 1 [0,3] (.v 0) .rng1 (c1 (.idx v2 n0)) .nil (.bin .add (.idx v1 n0) (.call x40 (c2 v0 v2))))) (.seq (.sti 4 v3 v1) (s1 (.ret (.call i80 (c4 (.bin .sub (.bin .add (.idx v0 n0) (.idx v2 n0)) n1) v0 v2 v4))))))))))
def k50:Sm:=(.seq (.iff (.isi .seq v1) (.seq (.iff (.or (.cmp .ne (.isi .tuple v0) (.isi .tuple v1)) (.cmp .ne (.isi .list v0) (.isi .list v1))) (s1 (.ret (.con (.bl false)))) .nil) (.seq (.iff (.cmp .ne (.bf .len (c1 v0)) (.bf .len (c1 v1))) (s1 (.ret (.con (.bl false)))) .nil) (s1 (.ret (.bf .all (c1 (.comp 2 [] (p2 (.v 0) (.v 1)) .zip (c2 v0 v1) .nil (.call f10 (c2 v0 v1))))))))) .nil) (s1 (.ret (.and (.cmp .eq v0 v1) (.cmp .eq (.isi .bool v0) (.isi .bool v1))))))
def f40:Sm:=(.seq (.iff (.cmp .lt v1 (.bf .len (c1 v0))) (s1 (.ret (.idx v0 v1))) .nil) (s1 (.ret n0)))
def i20:Sm:=(.seq (.set (.v 2) (.call n60 (c2 v0 v1))) (.seq (.iff (.cmp .ge v2 (.bin .pow (.con (.int 10)) (.con (.int 18)))) (s1 (.ret (.lst (c2 (.bin .sub v2 (.bin .pow (.con (.int 10)) (.con (.int 18)))) (.con (.bl true)))))) .nil) (s1 (.ret (.lst (c2 (.bin .mod v2 (.con (.int 2147483647))) (.con (.bl false))))))))
def o60:Sm:=(.seq (.iff (.zget 0 1) (.seq (.set (.v 2) (.bin .mod (.zget 0 0) v1)) (.seq (.zset 0 (.bin .fdiv (.zget 0 0) v1)) (s1 (.ret v2)))) .nil) (.seq (.zset 0 (.bin .mod (.bin .add (.bin .mul (.zget 0 0) (.con (.int 48271))) (.con (.int 29))) (.con (.int 2147483647)))) (.seq (.set (.v 3) (.bin .mod (.bin .add (.bin .add (.bin .mul (.zget 0 0) (.zget 0 0)) (.bin .mul (.con (.int 39373)) (.zget 0 0))) (.con (.int 7))) (.con (.int 2147483629)))) (.seq (.set (.v 3) (.bin .mod (.bin .add (.bin .mul v3 v3) (.bin .mul (.con (.int 16807)) v3)) (.con (.int 2147483587)))) (s1 (.ret (.bin .mod (.bin .fdiv v3 (.con (.int 8))) v1)))))))
def m20:Sm:=(.seq (.set (.v 2) (.lrng false (c1 v1))) (.seq (.set (.v 3) (.lst .nil)) (.seq (.whl (.cmp .ne v2 (.lst .nil)) (s1 (.apop 3 2 (.call b50 (c2 v0 (.bf .len (c1 v2))))))) (s1 (.ret (.bf .tuple (c1 v3)))))))
def r80:Sm:=(.seq (.set (.v 2) (.idx (cX (.lst [(.int 5),(.int 4),(.int 6),(.int 3),(.int 4),(.int 2),(.int 6),(.int 1)]) (-0)) (.call b50 (c2 v0 (.con (.int 8)))))) (.seq (.set (.v 3) (.call s70 (c2 v0 v2))) (.seq (.set (.v 4) (.call b50 (c2 v0 (.con (.int 6))))) (.seq (.set (.v 5) (.lst .nil)) (.seq (.fr (.v 6) .rng2 (c2 n1 v2) (s1 (.app 5 (.tup (c2 (.idx v3 v6) (.idx v3 (.idx (.lst (.cons (.bin .sub v6 n1) (c5 (.bin .sub v6 n1) n0 (.bin .fdiv v6 n2) (.bin .sub v6 n1) n0))) v4))))))) (.seq (.iff (.and (.cmp .eq v4 n0) (.cmp .gt v2 n2)) (s1 (.app 5 (.tup (c2 (.idx v3 n0) (.idx v3 (.bin .sub v2 n1)))))) .nil) (.seq (.iff (.cmp .eq v4 (.con (.int 4))) (s1 (.set (.v 5) (.sl v5 (c1 n1) .nil))) .nil) (.seq (.fr (.v 7) .rng1 (c1 (.call b50 (c2 v0 (.con (.int 5))))) (.seq (.set (p2 (.v 8) (.v 9)) (.tup (c2 (.call b50 (c2 v0 v2)) (.call b50 (c2 v0 v2))))) (s1 (.iff (.cmp .ne v8 v9) (s1 (.app 5 (.tup (c2 v8 v9)))) .nil)))) (.seq (.iff (.and (.cmp .ne v5 (.lst .nil)) (.cmp .eq (.call b50 (c2 v0 (.con (.int 3)))) n0)) (s1 (.app 5 (.idx v5 (.call b50 (c2 v0 (.bf .len (c1 v5))))))) .nil) (.seq (.set (.v 5) (.sl v5 .nil (c1 v1))) (s1 (.ret (.tup (c2 v2 (.bf .tuple (c1 (.bf .sorted (c1 (.comp 2 [] (p2 (.v 0) (.v 1)) .seq (c1 v5) .nil (.tup (c2 (.bf .min (c2 v0 v1)) (.bf .max (c2 v0 v1)))))))))))))))))))))))
def i90:Sm:=(.seq (.set (.v 1) (cX (.lst [.non,(.int 0),(.tup []),(.tup [(.int 0),(.tup [])]),(.tup [(.int 7),(.tup [])]),(.tup [(.bl true),(.tup [])]),(.tup [(.int 2),(.lst [])]),(.lst [(.int 2),(.tup [])]),(.tup [(.int 2),(.tup [(.tup [(.int 1),(.int 0)])])]),(.tup [(.int 2),(.tup [(.tup [(.int 0),(.int 0)])])])]) (-0))) (.seq (.set (.v 1) (.bin .add v1 (cX (.lst [(.tup [(.int 2),(.tup [(.tup [(.int 0),(.int 2)])])]),(.tup [(.int 3),(.tup [(.tup [(.int 1),(.int 2)]),(.tup [(.int 0),(.int 1)])])]),(.tup [(.int 2),(.tup [(.tup [(.int 0),(.int 1),(.int 1)])])]),(.tup [(.int 2),(.tup [(.tup [(.int 0),(.bl true)])])]),(.tup [(.int 2)]),(.str "2:")]) (-0)))) (.seq (.set (.v 1) (.bin .add v1 (.lst (.cons (.tup (c2 n2 (.bin .mul (cX (.tup [(.tup [(.int 0),(.int 1)])]) (-0)) (.con (.int 9))))) (c5 (.con .dct) (cX (.tup [(.int 2),(.tup [(.lst [(.int 0),(.int 1)])])]) (-0)) (cX (.tup [(.int 2),(.tup []),(.tup [])]) (-0)) (cX (.tup [(.int 2),.non]) (-0)) (cX (.tup [(.str "2"),(.tup [])]) (-0))))))) (s1 (.ret (.idx v1 (.call b50 (c2 v0 (.con (.int 22))))))))))
def f20:Sm:=(.seq (.set (.v 4) (.lst .nil)) (.seq (.fr (.v 5) .rng1 (c1 (.bf .len (c1 (.idx v0 n1)))) (s1 (.app 4 (.tup (c3 (.idx (.idx v0 n1) v5) n0 v5))))) (.seq (.fr (.v 5) .rng1 (c1 (.bf .len (c1 (.idx v1 n1)))) (.seq (.set (.v 6) (.bf .sorted (c1 (.comp 1 [2] (.v 0) .seq (c1 (.idx (.idx v1 n1) v5)) .nil (.idx v1 v0))))) (s1 (.app 4 (.tup (c3 (.bf .tuple (c1 v6)) n1 v5)))))) (.seq (.iff (.or (.cmp .gt v3 (.con (.int 6))) (.cmp .gt (.bf .len (c1 v4)) (.con (.int 8)))) (s1 (.ret (.con .non))) .nil) (.seq (.set (.v 4) (.bf .sorted (c1 v4))) (.seq (.set (.v 7) (.bf .tuple (c1 (.comp 3 [] (.tup (.cons (.v 0) (.cons (.v 1) (.cons (.v 2) .nil)))) .seq (c1 v4) .nil (.tup (c2 v1 v2)))))) (s1 (.ret (.tup (c2 (.tup (c2 v3 (.bf .tuple (c1 (.comp 3 [] (.tup (.cons (.v 0) (.cons (.v 1) (.cons (.v 2) .nil)))) .seq (c1 v4) .nil v0))))) v7))))))))))
def m30:Sm:=(.seq (.set (.v 4) (.lst .nil)) (.seq (.set (.v 5) (.idx v0 n0)) (.seq (.fr (.v 6) .rng1 (c1 (.idx v2 n0)) (s1 (.iff (.cmp .eq v6 v3) (s1 (.app 4 v1)) (.seq (.app 4 v5) (s1 (.set (.v 5) (.bin .add v5 n1))))))) (s1 (.ret v4)))))
def u61:Sm:=(.seq (.fr (.v 1) .rng1 (c1 (.bf .max (c2 n1 (.bf .min (c2 (.bf .len (c1 v0)) (.con (.int 8))))))) (.seq (.newz 2 s60 (c2 v0 v1)) (.seq (.set (p2 (.v 3) (.v 4)) (.tup (c2 (.call r40 (c2 v2 (.con (.int 4)))) (.call r40 (c2 v2 (.con (.int 5))))))) (.seq (.iff (.cmp .eq (.call b50 (c2 v2 n2)) n0) (.seq (.set (.v 5) (.comp 1 [] (.v 0) .rng1 (c1 (.bf .min (c2 n2 (.idx v4 n0)))) .nil v0)) (s1 (.set (.v 4) (.tup (c2 (.bf .len (c1 v5)) (.bf .tuple (c1 (.comp 1 [5] (.v 0) .seq (c1 (.idx v4 n1)) (c1 (.cmp .lt (.idx v0 n1) (.bf .len (c1 v1)))) v0)))))))) .nil) (.seq (.set (p2 (.v 6) (.v 7)) (.tup (c2 (.call b50 (c2 v2 (.idx v3 n0))) (.call b50 (c2 v2 (.idx v4 n0)))))) (.seq (.set (.v 8) (.comp 1 [3] (.v 0) .rng1 (c1 (.idx v4 n0)) .nil (.bin .add (.idx v1 n0) v0))) (.seq (.iff (.not (.rgt [3,4] (.call i10 (c2 v0 v1)) (.call r50 (c4 v3 v4 v8 (.bin .add (.idx v3 n0) (.idx v4 n0)))) f10)) (s1 (.ret (.con (.bl false)))) .nil) (.seq (.set (.v 8) (.call s80 (c4 v3 v6 v4 v7))) (.seq (.set (.v 9) (.call r50 (c4 v3 v4 v8 (.bin .sub (.bin .add (.idx v3 n0) (.idx v4 n0)) n1)))) (.seq (.iff (.not (.rgt [3,4,6,7] (.call j80 (c4 v0 v2 v1 v3)) v9 f10)) (s1 (.ret (.con (.bl false)))) .nil) (.seq (.set (p2 (.v 10) (.v 11)) (.tup (c2 (.tup (c2 (.con (.int 6)) (.bin .mul (cX (.tup [(.tup [(.int 0),(.int 1)])]) (-0)) (.con (.int 8))))) (.call n70 (c1 v2))))) (.seq (.set (.v 12) (.idx (.lst (.cons (.neg n1) (.cons (.con (.bl true)) (c5 (.con .non) (.con (.str "0")) (cX (.tup [(.int 0)]) (-0)) (.bin .pow (.con (.int 10)) (.con (.int 29))) (.con (.bl false)))))) (.call b50 (c2 v2 (.con (.int 7)))))) (.lams 13 [([10,12] ,(.call j80 (c4 v0 (.con (.int 6)) v0 v1))),([10,12] ,(.call j80 (c4 v0 v1 v0 v1))),([4,10] ,(.call j80 (c4 v1 n0 v0 (.idx v0 n0))))] none (.bin .mul (cX (.lst [(.lst [(.int 3)])]) (-0)) (.con (.int 3))) (s1 (.ret (.con (.bl false)))) (.lams 13 [([10,11,12] ,(.call j80 (c4 v1 v2 v0 v2))),([10,11,12] ,(.call j80 (c4 v0 v2 v1 v2))),([10,11] ,(.call i10 (c2 v1 v0))),([10,11] ,(.call i10 (c2 v0 v1)))] none (.bin .mul (cX (.lst [(.lst [(.int 0)])]) (-0)) (.con (.int 4))) (s1 (.ret (.con (.bl false)))) .nil)))))))))))))) (s1 (.ret (.and (.cmp .eq (.call i10 (c2 (cX (.tup [(.int 3),(.tup [])]) (-0)) (cX (.tup [(.int 3),(.tup [])]) (-0)))) (cX (.tup [(.tup [(.int 6),(.tup [])]),(.tup [])]) (-0))) (.cmp .eq (.call j80 (c4 (cX (.tup [(.int 6),(.tup [])]) (-0)) (.con (.int 5)) (cX (.tup [(.int 1),(.tup [])]) (-0)) n0)) (cX (.tup [(.tup [(.int 6),(.tup [])]),(.tup [])]) (-0)))))))
def rows:List Row:=[(⟨"is_whole",["thing"],top 17,["thing"],z80,false⟩:Row),
 (⟨"is_below",["thing","many"],top 18,["thing","many"],r60,false⟩:Row),
 (⟨"is_tie",["thing","many"],top 19,["thing","many","a","b"],E60,false⟩:Row),
 (⟨"are_ties",["thing","many"],top 20,["thing","many"],r70,false⟩:Row),
 (⟨"is_web",["thing"],top 21,["thing","many","ties"],E70,false⟩:Row),
 (⟨"check_web",["thing"],top 22,["thing"],k40,false⟩:Row),
 (⟨"check_place",["web","thing"],top 23,["web","thing"],g60,false⟩:Row),
 (⟨"tie_of",["one","other"],top 24,["one","other"],E80,false⟩:Row),
 (⟨"renamed",["tie","names"],top 25,["tie","names","a","b"],x50,false⟩:Row),
 (⟨"closed_up",["place","gone"],top 26,["place","gone"],o50,false⟩:Row),
 (⟨"put_together",["many","one","other","names"],top 28,["many","one","other","names","rows","web"],f30,false⟩:Row),
 (⟨"beside",["one","other"],top 29,["one","other","names"],q20,false⟩:Row),
 (⟨"hung",["one","place","other","there"],top 30,["one","place","other","there","names"],x60,false⟩:Row),
 (⟨"_law_same",["_law_found","_law_due_here"],top 33,["_law_found","_law_due_here"],k50,false⟩:Row),
 (⟨"_law_cell_at",["_law_script","_law_k"],top 34,["_law_script","_law_k"],f40,false⟩:Row),
 (⟨"_law_state",["_law_script","_law_k"],top 35,["_law_script","_law_k","_law_cell"],i20,false⟩:Row),
 (⟨"_law_take",["_law_state_here","_law_many"],top 36,["_law_state_here","_law_many","_law_found","_law_stirred"],o60,false⟩:Row),
 (⟨"_law_mixed",["_law_state_here","_law_many"],top 37,["_law_state_here","_law_many","_law_left","_law_found"],m20,false⟩:Row),
 (⟨"_law_web",["_law_state_here","_law_most"],top 38,["_law_state_here","_law_most","_law_many","_law_names_here","_law_way","_law_ties","_law_at","_law_turn","_law_one","_law_other"],r80,false⟩:Row),
 (⟨"_law_bad_web",["_law_state_here"],top 39,["_law_state_here","_law_some"],i90,false⟩:Row),
 (⟨"_law_due",["_law_one","_law_other","_law_names_here","_law_many"],top 40,["_law_one","_law_other","_law_names_here","_law_many","_law_rows","_law_number","_law_ends","_law_whence"],f20,false⟩:Row),
 (⟨"_law_names",["_law_one","_law_place","_law_other","_law_there"],top 41,["_law_one","_law_place","_law_other","_law_there","_law_names_here","_law_following","_law_old"],m30,false⟩:Row),
 (⟨"law",["_law_script"],top 43,["_law_script","_law_k","_law_state_here","_law_one","_law_other","_law_some","_law_place","_law_there","_law_names_here","_law_due_here","_law_great","_law_bad","_law_none","_law_calls"],u61,true⟩:Row)]
def T:List Df:=[(Df.code 1 1 z80:Df),(Df.code 2 2 r60:Df),(Df.code 2 4 E60:Df),(Df.code 2 2 r70:Df),(Df.code 1 3 E70:Df),(Df.code 1 1 k40:Df),(Df.code 2 2 g60:Df),(Df.code 2 2 E80:Df),(Df.code 2 4 x50:Df),(Df.code 2 2 o50:Df),(Df.code 4 6 f30:Df),(Df.code 2 3 q20:Df),(Df.code 4 5 x60:Df),(Df.code 2 2 k50:Df),(Df.code 2 2 f40:Df),(Df.code 2 3 i20:Df),(Df.code 2 4 o60:Df),(Df.code 2 4 m20:Df),(Df.code 2 10 r80:Df),(Df.code 1 2 i90:Df),(Df.code 4 8 f20:Df),(Df.code 4 7 m30:Df),(Df.code 1 14 u61:Df)]
theorem u02:tabOf rows=T:=rfl
end K3
namespace K3
open Q
open L2 (D)
def X41:D->Bool
 |.int _=>true|_=>false
theorem x70(k:Nat)(x:D)(z:Z):c70 T (k + 3) r30 [.d x] z=some (.ok (.d (.bl (X41 x))) z):=by
 cases z <;> cases x <;> rfl
def d40(x:D)(m:Int):Bool:=match x with
 |.int i=>decide (0<=i)&&decide (i < m)|_=>false
theorem k60(k:Nat)(x:D)(m:Int)(z:Z):c70 T (k + 4) n10 [.d x,.d (.int m)] z=some (.ok (.d (.bl (d40 x m))) z):=by
 refine W.ok (o90 (ps:=2) (ns:=2) (b:=r60) rfl rfl (-0) (Wo (x70 (k:=k) x z) ?_))
 cases x with
 |int i=>exact ib (b:=decide (0<=i)) (λh=>sb (show decide (i < m)=(decide (0<=i)&&decide (i < m)) by rw[h];rfl)) λh=>sb (show false=(decide (0<=i)&&decide (i < m)) by rw[h];rfl)|_=>exact sb rfl
def n11(x:D)(m:Int):Bool:=match x with
 |.tup [a,b]=>d40 a m&&(d40 b m&&(match a,b with
  |.int i,.int j=>decide (i < j)
  |_,_=>false))
 |_=>false
theorem q30(h:d40 x m=true):∃ i,x=.int i/\0<=i/\i < m:=by
 cases x with
 |int i =>
  unfold d40 at h;rw[Â,decide_eq_true_eq,decide_eq_true_eq] at h;exact⟨i,rfl,h⟩
 |_=>cases h
theorem k81(k:Nat)(x:D)(m:Int)(z:Z):c70 T (k + 5) S20 [.d x,.d (.int m)] z=some (.ok (.d (.bl (n11 x m))) z):=by
 refine W.ok (o90 (ps:=2) (ns:=4) (b:=E60) rfl rfl (-0) ?_)
 cases x with
 |tup l =>
  match l with
  |[a,b] =>
   refine Wo (k60 k a m z) (ib (b:=d40 a m) (λh1=>Wo (k60 k b m z) (ib (b:=d40 b m) (λh2=>?_) λh=>?_)) λh=>?_)
   ·obtain⟨i,rfl,_⟩:=q30 h1;obtain⟨j,rfl,_⟩:=q30 h2;exact sb (show decide (i < j)=(d40 (.int i) m&&(d40 (.int j) m&&decide (i < j))) by rw[h1,h2];rfl)
   ·exact sb (show false=(d40 a m&&(d40 b m&&_)) by rw[h1,h];rfl)
   ·exact sb (show false=(d40 a m&&_) by rw[h];rfl)
  |[]=>exact sb rfl|[_]=>exact sb rfl|_::_::_::_=>exact sb rfl
 |_=>exact sb rfl
theorem k91(l:List D)(p:D->Bool):bfD .all [.lst (l.map λx=>D.bl (p x))]=some (.d (.bl (l.all p))):=by
 have h:(l.map λx=>D.bl (p x)).mapM asB=some (l.map p):=by
  induction l with
  |nil=>rfl
  |cons x r ih =>
   rw[Ë4,List.mapM_cons,ih];rfl
 show((l.map λx=>D.bl (p x)).mapM asB).map _=_;rw[h];simp[List.all_map]
theorem S50(l:List D)(n:Nat):cutD l (some (n:Int)) none=l.drop n:=by
 have h1:HT.sIx l.length 0 (some (n:Int))=min n l.length:=HT.Z40 l.length 0 n;unfold cutD;rw[h1];show((l.drop (min n l.length)).take (l.length - min n l.length))=_;rcases Nat.le_total n l.length with h | h
 ·rw[Ô4 h,Ö4 (by rw[Ð2];omega)]
 ·rw[Ó5 h,drop_length,List.take_nil,List.drop_of_length_le h]
theorem E90:∀ a b:List D,(t20 a b).length<=a.length
 |[],_=>È _|_::_,[]=>Æ3 _|_::r,_::q=>Nat.succ_le_succ (E90 r q)
theorem l01:∀ {a b:List D}{d:D},d∈t20 a b->∃ x∈a,∃ y∈b,d=.tup [x,y]
 |x::r,y::q,d,h=>by
  rcases ý.mp h with h | h
  ·exact⟨x,Ó,y,Ó,h⟩
  ·obtain⟨u,hu,v,hv,e⟩:=l01 h;exact⟨u,Î _ hu,v,Î _ hv,e⟩
def leD:D->Bool
 |.tup [.tup a,.tup b]=>(match L20 a,L20 b with
  |some ns,some ms=>HT.leB ns ms
  |_,_=>false)
 |_=>false
def S60(l:List D):Bool:=(t20 l (l.drop 1)).all leD
def N50(x:D)(m:Int):Bool:=match x with
 |.tup l=>decide (l.length<=8)&&(l.all (λt=>n11 t m)&&S60 l)|_=>false
theorem J30(h:n11 x m=true):∃ i j,x=.tup [.int i,.int j]/\0<=i/\i < j/\j < m:=by
 cases x with
 |tup l =>
  match l,h with
  |[a,b],h =>
   unfold n11 at h;rw[Â,Â] at h;obtain⟨h1,h2,h3⟩:=h;obtain⟨i,rfl,i1,i2⟩:=q30 h1;obtain⟨j,rfl,j1,j2⟩:=q30 h2;exact⟨i,j,rfl,i1,of_decide_eq_true h3,j2⟩
 |_=>cases h
theorem o70(h:n<=1000):n<=most:=ë h (-0)
theorem N60(k:Nat)(x:D)(m:Int)(z:Z):c70 T (k + 6) z70 [.d x,.d (.int m)] z=some (.ok (.d (.bl (N50 x m))) z):=by
 refine W.ok (o90 (ps:=2) (ns:=2) (b:=r70) rfl rfl (-0) ?_)
 cases x with
 |tup l =>
  refine ib (b:=decide ((8:Int) < (l.length:Int))) (λh=>?_) λh=>?_
  ·refine sb (show false=(decide (l.length<=8)&&_) from ?_);rw[decide_eq_true_eq] at h;rw[decide_eq_false ∅];rfl
  ·rw[decide_eq_false_iff_not] at h;have h8:l.length<=8:=by omega
   refine ip (o70 ∅) (N40 (λx=>.bl (n11 x m)) (λx _=>Wo (k81 k x m z) ⟨rfl,rfl⟩) ?_)
   refine(a70 (k91 l λx=>n11 x m) ?_ :);refine ib (b:=!l.all λx=>n11 x m) (λh=>?_) λh2=>?_
   ·exact sb (show false=(decide (l.length<=8)&&(l.all (λt=>n11 t m)&&S60 l)) by rw[î] at h;rw[h,Ï6,Bool.and_false])
   ·rw[Bool.not_eq_false'] at h2;have ha:=æ.mp h2;have e1:cutD l (some 1) none=l.drop 1:=S50 l 1;refine ip (c:=(t20 l (cutD l (some 1) none)).length<=most) (ë (E90 _ _) (o70 ∅)) (N40 (λx=>.bl (leD x)) (λx hx=>?_) (a70 (k91 _ leD) ?_ :))
    ·obtain⟨u,hu,v,hv,rfl⟩:=l01 hx;rw[e1] at hv;obtain⟨i,j,rfl,_⟩:=J30 (ha u hu);obtain⟨i',j',rfl,_⟩:=J30 (ha v (List.mem_of_mem_drop hv));exact⟨rfl,rfl⟩
    ·refine sb (b:=(t20 l (cutD l (some 1) none)).all leD) ?_;show _=(decide (l.length<=8)&&(l.all (λt=>n11 t m)&&S60 l));rw[e1,h2,decide_eq_true h8,Â5,Â5];rfl
 |_=>exact sb rfl
def n62(a t:D):Bool:=match a with
 |.int m=>decide (1<=m)&&(decide (m<=6)&&N50 t m)|_=>false
def K10(x:D):Bool:=match x with
 |.tup [a,t]=>n62 a t|_=>false
theorem J40(k:Nat)(x:D)(z:Z):c70 T (k + 7) S30 [.d x] z=some (.ok (.d (.bl (K10 x))) z):=by
 refine W.ok (o90 (ps:=1) (ns:=3) (b:=E70) rfl rfl (-0) ?_)
 cases x with
 |tup l =>
  match l with
  |[a,t] =>
   refine Wo (x70 (k + 3) a _) ?_;cases a with
   |int m =>
    refine ib (b:=decide (1<=m)) (λg1=>ib (b:=decide (m<=6)) (λg2=>Wo (N60 k t m _) ?_) λg2=>?_) λg1=>?_
    ·exact sb (show N50 t m=(decide (1<=m)&&(decide (m<=6)&&N50 t m)) by rw[g1,g2];rfl)
    ·exact sb (show false=(decide (1<=m)&&(decide (m<=6)&&N50 t m)) by rw[g1,g2];rfl)
    ·exact sb (show false=(decide (1<=m)&&(decide (m<=6)&&N50 t m)) by rw[g1];rfl)
   |_=>exact sb rfl
  |[]=>exact sb rfl|[_]=>exact sb rfl|_::_::_::_=>exact sb rfl
 |_=>exact sb rfl
theorem c20(k:Nat)(z:Z)(h:K10 x=true):c70 T (k + 8) f00 [.d x] z=some (.ok (.d .non) z) :=
 W.ok (o90 (ps:=1) (ns:=1) (b:=k40) rfl rfl (-0) (Wo (J40 k x z) (ie (b:=!K10 x) (by rw[h];rfl) (sd rfl))))
theorem i30(k:Nat)(z:Z)(h:K10 x=false):c70 T (k + 8) f00 [.d x] z=some (.er 0 z) :=
 W.er (o90 (ps:=1) (ns:=1) (b:=k40) rfl rfl (-0) (Wo (J40 k x z) (it (b:=!K10 x) (by rw[h];rfl) ⟨rfl,b70 z⟩)))
theorem X51(hj:0 < j):W10 .mod (.int i) (.int j)=some (.d (.int (i % j))):=by
 show(if 0 < j then some (S.d (.int (i % j))) else none)=_;rw[if_pos hj]
def big(b:Int):Prop:=b < 2 ^ 4000
def chI(t b:Int):Bool:=(decide (1<=b)&&decide (b<=1000))&&((decide (0<=t)&&decide (t<=b))&&(((gcd t b:Nat):Int) == 1))
def chP:D->D->Bool
 |.int t,.int b=>chI t b|_,_=>false
def chD:D->Bool
 |.tup [d,e]=>chP d e|_=>false
def ZI(z:Z):Prop:=∃ n b,z=some (n,b)/\0<=n/\(b=false->n < 2147483647)
theorem a42{T:List Df}{k f ps ns:Nat}{b:Sm}{l:List S}{z:Z}{Q:S->Z->Prop}{E:Nat->Z->Prop}(hz:ZI z)(h:T[f]?=some (.code ps ns b))(hl:l.length=ps)(hn:ps<=ns)(q:WS (w00 T (k + 2)) false b (start ns (l.map plS)) z (λo z1=>match o with
  |.nx _=>Q (.d .non) z1
  |.rt s=>Q s z1) E):W (c70 T (k + 3) f l) z Q E:=by
 obtain⟨n,c,rfl,_⟩:=hz;refine o90 h hl hn (q.mono (λo z1 h=>?_) λ_ _ h=>h);cases o <;> exact h
theorem l11{a:Int}{n:Nat}(h:a.natAbs < n)(hn:n<=2 ^ 64:=by decide):a.natAbs < d61:=Ñ h (ë hn (-0))
theorem l21{i j:Int}(hi:i.natAbs < 2 ^ 64)(hj:j.natAbs < 2 ^ 64):W10 .mul (.int i) (.int j)=some (.d (.int (i * j))):=by
 show(if i.natAbs < d61/\j.natAbs < d61 then some (S.d (.int (i * j))) else none)=_;rw[if_pos ⟨l11 hi,l11 hj⟩]
theorem k82{i j:Int}(hj:0 < j)(hb:j.natAbs < 2 ^ 64):W10 .fdiv (.int i) (.int j)=some (.d (.int (i / j))):=by
 show(if 0 < j/\j.natAbs < d61 then some (S.d (.int (i / j))) else none)=_;rw[if_pos ⟨hj,l11 hb⟩]
def Drawn(m:Int)(s:S)(z1:Z):Prop:=ZI z1/\∃ r:Nat,s=.d (.int r)/\(r:Int) < m
theorem j90(k:Nat)(m:Int)(hz:ZI z)(m0:0 < m)(m1:m < 2 ^ 32):W (c70 T (k + 3) b50 [.z,.d (.int m)]) z (Drawn m) NE:=by
 have fin:∀ (a:Int) (z1:Z),ZI z1->Drawn m (.d (.int (a % m))) z1:=λa z1 h=>by
  have h0:=emod_nonneg a (show m≠0 by omega)
  exact⟨h,(a % m).toNat,by rw[Int.toNat_of_nonneg h0],by rw[Int.toNat_of_nonneg h0];exact Int.emod_lt_of_pos _ m0⟩
 refine a42 hz (ps:=2) (ns:=4) (b:=o60) rfl rfl (-0) ?_
 obtain⟨n,b,rfl,n0,n1⟩:=hz;cases b with
 |true =>
  refine(a70 (X51 (i:=n) m0) ?_ :);refine(a70 (k82 (i:=n) m0 ∅) ?_ :)
  exact fin n _ ⟨n / m,true,rfl,Int.ediv_nonneg n0 ∅,λh=>nomatch h⟩
 |false =>
  have n1:=n1 rfl;have e1:∀ a:Int,0<=a % 2147483647/\a % 2147483647 < 2147483647:=λa=>⟨emod_nonneg _ (-0),Int.emod_lt_of_pos _ (-0)⟩
  have e2:∀ a:Int,0<=a % 2147483629/\a % 2147483629 < 2147483629:=λa=>⟨emod_nonneg _ (-0),Int.emod_lt_of_pos _ (-0)⟩
  have s1:∀ a:Int,(a % 2147483647).natAbs < 2 ^ 64:=λa=>by have:=e1 a;omega
  have s2:∀ a:Int,(a % 2147483629).natAbs < 2 ^ 64:=λa=>by have:=e2 a;omega
  refine(a70 (l21 (i:=n) (j:=48271) ∅ (-0)) ?_ :)
  have a1:=e1 (n * 48271 + 29);refine(a70 (l21 (s1 (n * 48271 + 29)) (s1 (n * 48271 + 29))) ?_ :);refine(a70 (l21 (i:=39373) (-0) (s1 (n * 48271 + 29))) ?_ :)
  refine(a70 (l21 (s2 _) (s2 _)) ?_ :);refine(a70 (l21 (i:=16807) (-0) (s2 _)) ?_ :)
  refine(a70 (X51 m0) ?_ :);exact fin _ _ ⟨_,false,rfl,a1.1,λ_=>a1.2⟩
theorem X50(k:Nat)(ns:List Int)(j:Nat)(z:Z):∃ c:Int,c70 T (k + 3) n60 [.d (.lst (ns.map D.int)),.d (.int j)] z=some (.ok (.d (.int c)) z):=by
 by_cases h:j < ns.length
 ·refine⟨ns[j],W.ok (o90 (ps:=2) (ns:=2) (b:=f40) rfl rfl (-0) (it (b:=decide ((j:Int) < ((ns.map D.int).length:Int))) (by simp[h]) ?_))⟩
  refine(a70 (o:=d81 (.lst (ns.map D.int)) (.int j)) (L2.B30 (v:=.int ns[j]) (by simp[h])) ?_ :)
  exact sd rfl
 ·exact⟨0,W.ok (o90 (ps:=2) (ns:=2) (b:=f40) rfl rfl (-0) (ie (b:=decide ((j:Int) < ((ns.map D.int).length:Int))) (by simp;omega) (sd rfl)))⟩
theorem u71(k:Nat)(ns:List Int)(j:Nat)(z:Z):∃ (n:Int) (b:Bool),ZI (some (n,b))/\c70 T (k + 4) s60 [.d (.lst (ns.map D.int)),.d (.int j)] z=some (.ok (.fr [.int n,.bl b]) z):=by
 obtain⟨c,hc⟩:=X50 k ns j z;by_cases h:(10 ^ 18:Int)<=c
 ·exact⟨c - 10 ^ 18,true,⟨_,_,rfl,by omega,λh=>nomatch h⟩,W.ok (o90 (ps:=2) (ns:=3) (b:=i20) rfl rfl (-0) (Wo hc (it (b:=decide ((10 ^ 18:Int)<=c)) (decide_eq_true h) (sd rfl))))⟩
 ·refine⟨c % 2147483647,false,⟨_,_,rfl,emod_nonneg _ (-0),λ_=>Int.emod_lt_of_pos _ (-0)⟩,W.ok (o90 (ps:=2) (ns:=3) (b:=i20) rfl rfl (-0) (Wo hc (ie (b:=decide ((10 ^ 18:Int)<=c)) (decide_eq_false h) (sd rfl))))⟩
theorem F00(h0:0<=m)(h1:m < 100000):itD .rng1 [.int m]=some ((ñ m.toNat).map λ(i:Nat)=>D.int i):=by
 show(if inR m=true then _ else none)=_;rw[if_pos (v90.mpr ⟨by omega,h1⟩)]
theorem ne_nil(h:okD (.lst l)=true):q40 .ne (.lst l) (.lst [])=some (!l.isEmpty):=by
 show(eqO (.lst l) (.lst [])).map (!·)=_;unfold eqO;rw[h];cases l <;> rfl
theorem l31:∀ l:List Int,h60 (l.map D.int)=true/\j40 (l.map D.int)=0
 |[]=>⟨rfl,rfl⟩
 |x::r=>by
  obtain⟨h1,h2⟩:=l31 r;refine⟨h1,?_⟩;show Nat.max 0 (j40 (r.map D.int))=0;rw[h2];rfl
theorem l41(l:List Int):okD (.lst (l.map D.int))=true:=by
 obtain⟨h1,h2⟩:=l31 l;show(h60 (l.map D.int)&&decide (j40 (l.map D.int) + 1<=40))=true;rw[h1,h2];rfl
theorem u81(n:Nat):(ñ n).map (λ(i:Nat)=>D.int i)=((ñ n).map λ(i:Nat)=>(i:Int)).map D.int:=by
 rw[À4];rfl
theorem s90(f:α->β):∀ (l:List α) (i:Nat),(l.map f).eraseIdx i=(l.eraseIdx i).map f
 |[],_=>rfl|x::r,0=>rfl|x::r,i + 1=>congrArg (f x::·) (s90 f r i)
theorem z90:∀ (l:List α) (j:Nat) (h:j < l.length),(l[j]::l.eraseIdx j).Perm l
 |x::r,0,_=>.refl _|x::r,j + 1,h=>(List.Perm.swap _ _ _).trans ((z90 r j (Nat.lt_of_succ_lt_succ h)).cons x)
theorem x80{l:List Int}{j:Nat}(h:j < l.length):(l.map D.int)[j]?=some (.int l[j]):=by rw[Ù,ù h];rfl
theorem l51{j:Nat}(h:l[j]?=some x):d81 (.lst l) (.int j)=some x:=L2.B30 h
theorem l61{j:Nat}(h:l[j]?=some x):d81 (.tup l) (.int j)=some x:=L2.B30 h
theorem I41(k:Nat){m:Int}{z:Z}(hz:ZI z)(m0:1<=m)(m1:m<=100):W (c70 T (k + 4) s70 [.z,.d (.int m)]) z (λs z1=>ZI z1/\∃ l:List Int,s=.d (.tup (l.map D.int))/\(l.length:Int)=m/\(∀ x∈l,0<=x/\x < m)/\l.Nodup) NE:=by
 refine a42 hz (ps:=2) (ns:=4) (b:=m20) rfl rfl (-0) ?_
 refine(a70 (o:=lrD [.int m]) (F00 ∅ ∅) ?_ :)
 refine k62 (λn ρ z1=>ZI z1/\∃ left found:List Int,ρ=[some .z,some (.d (.int m)),some (.fr (left.map D.int)),some (.fr (found.map D.int))]/\n=left.length/\(left++found).Nodup/\(∀ x∈left++found,0<=x/\x < m)/\((left.length + found.length:Nat):Int)=m) m.toNat ?_ (by show m.toNat < 20000;omega) ?_
 ·refine⟨hz,(ñ m.toNat).map λ(i:Nat)=>(i:Int),[],?_,by simp,?_,?_,by simp;omega⟩
  ·rw[← u81];rfl
  ·rw[Ä0];exact List.pairwise_map.mpr (List.nodup_range.imp λh e=>h (Int.ofNat_inj.mp e))
  ·intro x hx;rw[Ä0] at hx;obtain⟨i,hi,rfl⟩:=Þ.mp hx;have:=Ê2.mp hi;omega
 ·rintro n ρ z1 ⟨hz1,left,found,rfl,rfl,nd,hm,hl⟩;refine(a70 (ne_nil (l41 left)) ?_ :);cases left with
  |nil=>exact⟨hz1,found,rfl,by simpa using hl,λx hx=>hm x (by simpa using hx),by simpa using nd⟩
  |cons x r =>
   have hl2:((r.length + 1 + found.length:Nat):Int)=m:=by simpa using hl
   refine(j90 k (((x::r).map D.int).length:Int) hz1 (by simp only[É,Ò];omega) (by simp only[É,Ò];omega)).imp λs z2 ⟨hz2,j,e,v1⟩=>?_
   subst e;have hj:j < (x::r).length:=by simp only[É] at v1;omega
   have hget:((x::r).map D.int)[j]?=some (.int ((x::r)[j])):=x80 hj;have ha:e21 [some .z,some (.d (.int m)),some (.fr ((x::r).map D.int)),some (.fr (found.map D.int))] 3 2 (found.map D.int) ((x::r).map D.int) j=some (.nx [some .z,some (.d (.int m)),some (.fr (((x::r).map D.int).eraseIdx j)),some (.fr (found.map D.int++[.int ((x::r)[j])]))]):=by
    unfold e21;rw[if_pos ⟨by decide,by omega,v90.mpr (by simp only[Ò] at hj;omega),by rw[É];simp only[most];omega⟩,Ã8,hget]
    rfl
   refine a70 (o:=(pl [S.d (.int j)]).bind asI) (a:=(j:Int)) rfl (a70 ha ?_);refine⟨((x::r).eraseIdx j).length,?_,hz2,(x::r).eraseIdx j,found++[(x::r)[j]],?_,rfl,?_,?_,?_⟩
   ·rw[Ô9 hj];simp
   ·rw[s90,Ã1];rfl
   ·have hp:(((x::r).eraseIdx j)++(found++[(x::r)[j]])).Perm ((x::r)++found):=by
     have h1:((x::r)[j]::(x::r).eraseIdx j).Perm (x::r):=z90 _ _ hj;have h2:(((x::r).eraseIdx j)++(found++[(x::r)[j]])).Perm ((x::r)[j]::((x::r).eraseIdx j++found)):=by
      rw[← È5];exact List.perm_append_singleton _ _
     exact h2.trans (h1.append_right found)
    exact hp.nodup_iff.mpr nd
   ·intro y hy;refine hm y ?_;simp only[Ç1,Ä6] at hy ⊢;rcases hy with hy | hy | hy
    ·exact .inl (List.mem_of_mem_eraseIdx hy)
    ·exact .inr hy
    ·exact .inl (by rw[hy];exact Ã6 hj)
   ·rw[Ô9 hj,ÿ];simp only[Ò,Ã2] at hl ⊢;omega
def pr(p:Int × Int):D:=.tup [.int p.1,.int p.2]
def ky(p:Int × Int):List Int:=[p.1,p.2]
theorem k92(a b c d:Int):MySort.f80 [a,b] [c,d]=if a=c then(if b=d then false else decide (b < d)) else decide (a < c):=rfl
def Ch:List (Int × Int)->Prop
 |a::b::r=>HT.leB (ky a) (ky b)=true/\Ch (b::r)|_=>True
theorem S70(h:MySort.f80 (ky p) (ky q)=true):HT.leB (ky p) (ky q)=true:=by
 unfold HT.leB;unfold ky at h ⊢;rw[k92] at h ⊢;by_cases h1:p.1=q.1
 ·rw[if_pos h1] at h;rw[if_pos h1.symm];by_cases h2:p.2=q.2
  ·rw[if_pos h2] at h;cases h
  ·rw[if_neg h2] at h;rw[if_neg (À3 h2)];simp only[decide_eq_true_eq] at h;simp;omega
 ·rw[if_neg h1] at h;rw[if_neg (À3 h1)];simp only[decide_eq_true_eq] at h;simp;omega
def n21(k:Int × Int):List (Int × Int)->List (Int × Int)
 |[]=>[k]|y::r=>if MySort.f80 (ky y) (ky k) then y::n21 k r else k::y::r
def l71:List (Int × Int)->List (Int × Int)
 |[]=>[]|k::r=>n21 k (l71 r)
theorem J50(k:Int × Int):∀ l,(n21 k l).Perm (k::l)
 |[]=>.refl _
 |y::r=>by
  unfold n21;split
  ·exact((J50 k r).cons y).trans (.swap _ _ _)
  ·exact .refl _
theorem A00:∀ l,(l71 l).Perm l
 |[]=>.refl _|k::r=>(J50 k _).trans ((A00 r).cons k)
theorem l81(k:Int × Int):∀ l,Ch l->Ch (n21 k l)
 |[],_=>trivial
 |[y],_=>by
  unfold n21;split
  ·rename_i h;exact⟨S70 h,trivial⟩
  ·rename_i h;refine⟨?_,trivial⟩;unfold HT.leB;simpa using h
 |y::x::r,h=>by
  obtain⟨h1,h2⟩:=h;have ih:=l81 k (x::r) h2;unfold n21;split
  ·rename_i hy;unfold n21 at ih ⊢;split at ih
   ·rename_i hx;rw[if_pos hx];exact⟨h1,ih⟩
   ·rename_i hx;rw[if_neg hx];exact⟨S70 hy,ih⟩
  ·rename_i hy;refine⟨?_,h1,h2⟩;unfold HT.leB;simpa using hy
theorem S80:∀ l,Ch (l71 l)
 |[]=>trivial|k::r=>l81 k _ (S80 r)
theorem S90(k:Int × Int):∀ l:List (Int × Int),d71 (pr k) (l.map pr)=(n21 k l).map pr
 |[]=>rfl
 |y::r=>by
  unfold n21;show(if MySort.f80 (ky y) (ky k) then pr y::d71 (pr k) (r.map pr) else pr k::pr y::r.map pr)=_;split
  ·rw[S90 k r];rfl
  ·rfl
theorem J60:∀ l:List (Int × Int),d70 (l.map pr)=(l71 l).map pr
 |[]=>rfl
 |k::r=>by
  show d71 (pr k) (d70 (r.map pr))=_;rw[J60 r,S90];rfl
theorem X61(p q:Int × Int):ltD (pr p) (pr q)=some (MySort.f80 (ky p) (ky q)):=by
 show(if (p.1 == q.1)=true then(if (p.2 == q.2)=true then some false else some (decide (p.2 < q.2))) else some (decide (p.1 < q.1)))=some (if p.1=q.1 then(if p.2=q.2 then false else decide (p.2 < q.2)) else decide (p.1 < q.1));simp only[beq_iff_eq];split
 ·split <;> rfl
 ·rfl
theorem I51(p q:Int × Int):e30 (pr p) (pr q)=true:=by
 unfold e30;rw[X61];show(true&&((some (MySort.f80 (ky p) (ky q)) == some (MySort.f80 (ky p) (ky q)))&&(((p.1 == q.1)&&((p.2 == q.2)&&true)) || !([p.1,p.2] == [q.1,q.2]))))=true;rw[beq_self_eq_true,Â5,Â5,Ì4];by_cases h1:p.1=q.1 <;> by_cases h2:p.2=q.2 <;> simp[h1,h2]
theorem l91(l:List (Int × Int)):l70 (l.map pr)=true:=by
 refine æ.mpr λx hx=>?_;obtain⟨p,_,rfl⟩:=Þ.mp hx;show(true&&(true&&(l.map pr).all (e30 (pr p))))=true;refine æ.mpr λy hy=>?_;obtain⟨q,_,rfl⟩:=Þ.mp hy;exact I51 p q
theorem m01(h:l.length < 64):bfD .sorted [.lst (l.map pr)]=some (.fr ((l71 l).map pr)):=by
 show(if (l.map pr).length < 64/\l70 (l.map pr)=true then some (S.fr (d70 (l.map pr))) else(d52 (l.map pr)).map S.fr)=_;rw[if_pos ⟨by rw[É];exact h,l91 l⟩,J60]
theorem T00:∀ {l:List (Int × Int)},Ch l->S60 (l.map pr)=true
 |[],_=>rfl|[_],_=>rfl
 |a::b::r,h=>by
  have ih:=T00 h.2;show((t20 (pr a::pr b::r.map pr) (pr b::r.map pr)).all leD)=true;have e:t20 (pr a::pr b::r.map pr) (pr b::r.map pr)=.tup [pr a,pr b]::t20 (pr b::r.map pr) (r.map pr):=rfl;rw[e,Á8,Â];exact⟨h.1,ih⟩
theorem T10:∀ l:List (Int × Int),g20 (l.map pr)=true
 |[]=>rfl
 |_::r=>by
  show(bare _&&g20 (r.map pr))=true;rw[T10 r];rfl
theorem X71:∀ l:List (Int × Int),h60 (l.map pr)=true/\j40 (l.map pr)<=1
 |[]=>⟨rfl,by decide⟩
 |p::r=>by
  obtain⟨h1,h2⟩:=X71 r;refine⟨?_,?_⟩
  ·show(s40 (pr p)&&h60 (r.map pr))=true;rw[h1];rfl
  ·show Nat.max (deep (pr p)) (j40 (r.map pr))<=1;have:deep (pr p)=1:=rfl;rw[this];exact Nat.max_le.mpr ⟨È _,h2⟩
theorem I61(l:List (Int × Int)):okD (.lst (l.map pr))=true:=by
 obtain⟨h1,h2⟩:=X71 l;unfold okD;rw[Â,decide_eq_true_eq];refine⟨h1,?_⟩;show j40 (l.map pr) + 1<=40;omega
def i40(m:Int)(ps:List (Int × Int)):D:=.tup [.int m,.tup (ps.map pr)]
structure d60(m:Int)(ps:List (Int × Int)):Prop where
 m1:1<=m
 m6:m<=6
 len:ps.length<=8
 tie:∀ p∈ps,0<=p.1/\p.1 < p.2/\p.2 < m
 ch:Ch ps
theorem d60.web(g:d60 m ps):K10 (i40 m ps)=true:=by
 unfold i40 K10 n62 N50;simp only[Â,decide_eq_true_eq,Ã7,É];refine⟨g.m1,g.m6,g.len,λt ht=>?_,T00 g.ch⟩;obtain⟨p,hp,rfl⟩:=Þ.mp ht;obtain⟨h1,h2,h3⟩:=g.tie p hp;unfold pr n11 d40;simp only[Â,decide_eq_true_eq];omega
def OkP(m:Int)(p:Int × Int):Prop:=0<=p.1/\p.1 < m/\0<=p.2/\p.2 < m/\p.1≠p.2
theorem X81(h1:0<=i)(hi:i < 100)(h0:-100 < m)(h:m < 100000):itD .rng2 [.int i,.int m]=some ((ñ (m - i).toNat).map λ(k:Nat)=>D.int (i + k)):=by
 show(if inR i=true/\inR m=true then _ else none)=_;rw[if_pos ⟨v90.mpr ∅,v90.mpr ∅⟩]
theorem N70{L:List D}{n:Nat}(f:D->Bool)(h:n < L.length)(ha:L.all f=true):∃ x,L[n]?=some x/\f x=true :=
 ⟨L[n],ù h,æ.mp ha _ (Ã6 h)⟩
def btw(a b:Int):D->Bool
 |.int i=>decide (a<=i)&&decide (i<=b)|_=>false
theorem z21(h:btw a b x=true):∃ i,x=.int i/\a<=i/\i<=b:=by
 cases x with
 |int i =>
  unfold btw at h;rw[Â,decide_eq_true_eq,decide_eq_true_eq] at h;exact⟨i,rfl,h⟩
 |_=>cases h
theorem X60(h1:a<=i)(h2:i<=b):btw a b (.int i)=true:=by
 show(decide (a<=i)&&decide (i<=b))=true;rw[decide_eq_true h1,decide_eq_true h2];rfl
theorem z31{l:List Int}(nd:l.Nodup){i j:Nat}(hi:i < l.length)(hj:j < l.length)(h:i≠j):l[i]≠l[j]:=λe=>h ((List.getElem_inj nd).mp e)
theorem X91(l:List D)(h:0<=n):cutD l none (some n)=l.take n.toNat:=by
 obtain⟨k,rfl⟩:=Í7 h;have h1:HT.sIx l.length l.length (some (k:Int))=min k l.length:=HT.Z40 _ _ k;unfold cutD;rw[h1];show(l.drop 0).take (min k l.length - 0)=_;rw[List.drop_zero,Nat.sub_zero,Ã8];rcases Nat.le_total k l.length with h | h
 ·rw[Ô4 h]
 ·rw[Ó5 h,List.take_length,Ö4 h]
theorem F10(h:∀ p∈ps,OkP m p)(hp:OkP m p):∀ q∈ps++[p],OkP m q:=λq hq=>by
 rcases Ç1.mp hq with hq | hq
 ·exact h q hq
 ·rw[Ä6.mp hq];exact hp
theorem a52{α:Type}{l:List α}{a:α}:(l++[a]).length=l.length + 1:=by rw[ÿ];rfl
theorem z41(a b:Int):(if b < a then b else a)=min a b/\(if b > a then b else a)=max a b:=by
 constructor <;> (split <;> omega)
abbrev I71(mo m:Int)(l:List Int)(wn:Nat)(ps:List (Int × Int))(o6 o7 o8 o9:Option S):Env:=[some .z,some (.d (.int mo)),some (.d (.int m)),some (.d (.tup (l.map D.int))),some (.d (.int wn)),some (.fr (ps.map pr)),o6,o7,o8,o9]
theorem T20:I71 mo m l wn (ps++[p]) o6 o7 o8 o9=[some .z,some (.d (.int mo)),some (.d (.int m)),some (.d (.tup (l.map D.int))),some (.d (.int wn)),some (.fr (ps.map pr++[pr p])),o6,o7,o8,o9]:=by rw[I71,Ã1];rfl
theorem J70(k:Nat){mo:Int}{z:Z}(hz:ZI z)(h0:0<=mo)(h8:mo<=8):W (c70 T (k + 5) r40 [.z,.d (.int mo)]) z (λs z1=>ZI z1/\∃ m ps,s=.d (i40 m ps)/\d60 m ps/\(ps.length:Int)<=mo) NE:=by
 refine a42 hz (ps:=2) (ns:=10) (b:=r80) rfl rfl (-0) ?_
 refine(j90 (k + 1) 8 hz (-0) (-0)).imp λs z1 ⟨hz1,n,e,hn⟩=>?_
 subst e;obtain⟨x,ex,hx⟩:=N70 (L:=[D.int 5,.int 4,.int 6,.int 3,.int 4,.int 2,.int 6,.int 1]) (n:=n) (btw 1 6) (by simp only[Ò,Ã2];omega) (-0)
 obtain⟨m,rfl,m1,m6⟩:=z21 hx;refine(a70 (l51 ex) ?_ :);refine(I41 k hz1 m1 ∅).imp λs z2 ⟨hz2,l,e,ll,lm,nd⟩=>?_
 subst e;refine(j90 (k + 1) 6 hz2 (-0) (-0)).imp λs z3 ⟨hz3,wn,e,hw⟩=>?_
 subst e;refine(a70 (X81 (i:=1) (m:=m) (-0) (-0) ∅ ∅) ?_ :)
 have hll:1<=l.length:=by omega
 refine X40 (λxs ρ z=>ZI z/\(∀ x∈xs,∃ a:Nat,x=.int a/\1<=a/\(a:Int) < m)/\∃ (ps:List (Int × Int)) (o6:Option S),ρ=I71 mo m l wn ps o6 none none none/\(∀ p∈ps,OkP m p)/\ps.length + xs.length<=6) _ ⟨hz3,λx hx=>?_,[],none,rfl,(λp hp=>nomatch hp),by simp;omega⟩ ?_ ?_
 ·obtain⟨i,hi,rfl⟩:=Þ.mp hx;have:=Ê2.mp hi;exact⟨1 + i,by rw[Int.natCast_add];rfl,by omega,by omega⟩
 ·rintro x r ρ z4 ⟨hz4,hx,ps,o6,rfl,hp,hl⟩;obtain⟨an,rfl,a1,a2⟩:=hx x Ó;obtain⟨y,ey,hy⟩:=N70 (L:=[D.int (an - 1),.int (an - 1),.int 0,.int ((an:Int) / 2),.int (an - 1),.int 0]) (n:=wn) (btw 0 (an - 1)) (by simp only[Ò,Ã2];omega) (by
   simp only[Á8,all_nil,Ì4,Â];refine⟨X60 ?_ ?_,X60 ?_ ?_,X60 ?_ ?_,X60 ?_ ?_,X60 ?_ ?_,X60 ?_ ?_⟩ <;> omega)
  obtain⟨v,rfl,v0,v1⟩:=z21 hy;obtain⟨v,rfl⟩:=Í7 v0;have ha:an < l.length:=by omega
  have hvl:v < l.length:=by omega
  refine(a70 (l61 (x80 ha)) ?_ :);refine(a70 (l51 ey) ?_ :);refine(a70 (l61 (x80 hvl)) ?_ :);refine ip ⟨rfl,by rw[É];simp only[most,Ò] at hl ⊢;omega⟩ ?_
  have h1:=lm _ (Ã6 ha);have h2:=lm _ (Ã6 hvl);exact⟨hz4,λx hx'=>hx x (Î _ hx'),ps++[(l[an],l[v])],_,(T20 (p:=(l[an],l[v]))).symm,F10 hp ⟨h1.1,h1.2,h2.1,h2.2,z31 nd ha hvl ∅⟩,by rw[a52];simp only[Ò] at hl;omega⟩
 ·rintro ρ z4 ⟨hz4,_,ps,o6,rfl,hp,hl⟩;have hl':ps.length<=6:=hl;refine I11 (λρ z5=>z5=z4/\∃ ps:List (Int × Int),ρ=I71 mo m l wn ps o6 none none none/\(∀ p∈ps,OkP m p)/\ps.length<=7) ?_ ?_
  ·refine ib (b:=(wn:Int) == 0) (λh1=>ib (b:=decide (2 < m)) (λh2=>?_) λh2=>⟨rfl,ps,rfl,hp,by omega⟩) λh1=>⟨rfl,ps,rfl,hp,by omega⟩
   rw[decide_eq_true_eq] at h2;have i2:m.toNat - 1 < l.length:=by omega
   have e2:m - 1=((m.toNat - 1:Nat):Int):=by omega
   refine(a70 (l61 (j:=0) (x80 hll)) ?_ :);refine(a70 (o:=d81 (.tup (l.map D.int)) (.int (m - 1))) (a:=.int l[m.toNat - 1]) (by rw[e2];exact l61 (x80 i2)) ?_ :)
   refine ip ⟨rfl,by rw[É];simp only[most];omega⟩ ?_
   have h3:=lm _ (Ã6 hll);have h4:=lm _ (Ã6 i2);exact⟨rfl,ps++[(l[0],l[m.toNat - 1])],(T20 (p:=(l[0],l[m.toNat - 1]))).symm,F10 hp ⟨h3.1,h3.2,h4.1,h4.2,z31 nd hll i2 ∅⟩,by rw[a52];omega⟩
  ·rintro ρ z5 ⟨rfl,ps,rfl,hp,hl⟩;refine I11 (λρ z6=>z6=z5/\∃ (ps:List (Int × Int)) (o6:Option S),ρ=I71 mo m l wn ps o6 none none none/\(∀ p∈ps,OkP m p)/\ps.length<=7) ?_ ?_
   ·refine ib (b:=(wn:Int) == 4) (λh1=>⟨rfl,ps.drop 1,y30 (l40 (.fr (cutD (ps.map pr) (some 1) none))) o6,?_,λp hp'=>hp p (List.mem_of_mem_drop hp'),by rw[Ð2];omega⟩) λh1=>⟨rfl,ps,o6,rfl,hp,hl⟩
    have e:(ps.drop 1).map pr=cutD (ps.map pr) (some 1) none:=by rw[List.map_drop];exact(S50 _ 1).symm
    exact Eq.symm (congrArg (λx=>[some S.z,some (.d (.int mo)),some (.d (.int m)),some (.d (.tup (l.map D.int))),some (.d (.int wn)),some (.fr x),y30 (l40 (.fr (cutD (ps.map pr) (some 1) none))) o6,none,none,none]) e)
   ·rintro ρ z6 ⟨rfl,ps,o6,rfl,hp,hl⟩;refine(j90 (k + 1) 5 hz4 (-0) (-0)).imp λs z5 ⟨hz5,t,e,ht⟩=>?_
    subst e;refine(a70 (F00 (m:=t) ∅ ∅) ?_ :)
    refine X40 (λxs ρ z=>ZI z/\∃ (ps:List (Int × Int)) (o6 o7 o8 o9:Option S),ρ=I71 mo m l wn ps o6 o7 o8 o9/\(∀ p∈ps,OkP m p)/\ps.length + xs.length<=11) _ ⟨hz5,ps,_,_,_,_,rfl,hp,by simp;omega⟩ ?_ ?_
    ·rintro x r ρ z2 ⟨hz2,ps,o6,o7,o8,o9,rfl,hp,hl⟩;refine(j90 (k + 1) m hz2 ∅ ∅).imp λs z3 ⟨hz3,a,e,a1⟩=>?_
     subst e;refine(j90 (k + 1) m hz3 ∅ ∅).imp λs z4 ⟨hz4,b,e,b1⟩=>?_
     subst e;refine ib (b:=!((a:Int) == (b:Int))) (λhab=>?_) λhab=>⟨hz4,ps,_,_,_,_,rfl,hp,by simp only[Ò] at hl;omega⟩
     refine ip ⟨rfl,by rw[É];simp only[most,Ò] at hl ⊢;omega⟩ ?_
     exact⟨hz4,ps++[((a:Int),(b:Int))],_,_,_,_,(T20 (p:=((a:Int),(b:Int)))).symm,F10 hp ⟨by omega,a1,by omega,b1,by simpa using hab⟩,by rw[a52];simp only[Ò] at hl;omega⟩
    ·rintro ρ z2 ⟨hz2,ps,o6,o7,o8,o9,rfl,hp,hl⟩;refine I11 (λρ z3=>ZI z3/\∃ ps:List (Int × Int),ρ=I71 mo m l wn ps o6 o7 o8 o9/\(∀ p∈ps,OkP m p)/\ps.length<=12) ?_ ?_
     ·have hl:ps.length<=11:=hl;refine(a70 (ne_nil (I61 ps)) ?_ :);cases ps with
      |nil=>exact⟨hz2,[],rfl,hp,by simp⟩
      |cons p r =>
       refine(j90 (k + 1) 3 hz2 (-0) (-0)).imp λs z3 ⟨hz3,a,e,a1⟩=>?_
       subst e;refine ib (b:=(a:Int) == 0) (λha=>?_) λha=>⟨hz3,p::r,rfl,hp,by omega⟩
       have hll:(((p::r).map pr).length:Int)=((p::r).length:Nat):=by rw[É]
       refine(j90 (k + 1) (((p::r).map pr).length:Int) hz3 (by rw[hll];simp only[Ò];omega) (by rw[hll];omega)).imp λs z4 ⟨hz4,j,e,b1⟩=>?_
       subst e;have hj:j < (p::r).length:=by rw[hll] at b1;omega
       refine(a70 (l51 (l:=(p::r).map pr) (x:=pr (p::r)[j]) (by rw[Ù,ù hj];rfl)) ?_ :)
       refine ip ⟨rfl,by rw[É];simp only[most];omega⟩ ?_
       exact⟨hz4,(p::r)++[(p::r)[j]],(T20 (p:=(p::r)[j])).symm,F10 hp (hp _ (Ã6 hj)),by rw[a52];omega⟩
     ·rintro ρ z3 ⟨hz3,ps,rfl,hp,hl⟩;have e1:cutD (ps.map pr) none (some mo)=(ps.take mo.toNat).map pr:=by rw[X91 _ h0,List.map_take]
      have mm:(cutD (ps.map pr) none (some mo)).map (λx=>match x with | .tup [.int a,.int b]=>pr (min a b,max a b) | x=>x)=((ps.take mo.toNat).map λp=>(min p.1 p.2,max p.1 p.2)).map pr:=by
       rw[e1,À4,À4];rfl
      refine ip (c:=(cutD (ps.map pr) none (some mo)).length<=most) (by rw[e1,É,É2];simp only[most];omega) (N40 (λx=>match x with | .tup [.int a,.int b]=>pr (min a b,max a b) | x=>x) (λd hd=>?_) ?_)
      ·rw[e1] at hd;obtain⟨p,hp',rfl⟩:=Þ.mp hd;exact⟨by show D.tup [.int _,.int _]=pr (min p.1 p.2,max p.1 p.2);rw[(z41 p.1 p.2).1,(z41 p.1 p.2).2];rfl,rfl⟩
      ·rw[mm];refine(a70 (m01 (l:=(ps.take mo.toNat).map λp=>(min p.1 p.2,max p.1 p.2)) (by rw[É,É2];omega)) ?_ :)
       have hperm:=A00 ((ps.take mo.toNat).map λp=>(min p.1 p.2,max p.1 p.2));have hlen:=hperm.length_eq;rw[É,É2] at hlen;refine⟨hz3,m,_,rfl,⟨m1,m6,by omega,λq hq=>?_,S80 _⟩,by omega⟩
       obtain⟨p,hp',rfl⟩:=Þ.mp (hperm.mem_iff.mp hq);obtain⟨a0,a1,b0,b1,hab⟩:=hp p (List.mem_of_mem_take hp');dsimp only;omega
def W20(t b:Int):Int × Int:=(t / gcd t b,b / gcd t b)
def IsC(c:Int × Int):Prop:=1<=c.2/\c.2<=1000/\0<=c.1/\c.1<=c.2/\gcd c.1 c.2=1
theorem IsC.ch(h:IsC c):chD (pr c)=true:=by
 obtain⟨h1,h2,h3,h4,h5⟩:=h;show chI c.1 c.2=true;unfold chI;rw[h5,decide_eq_true h1,decide_eq_true h2,decide_eq_true h3,decide_eq_true h4];rfl
theorem Y01{n:Nat}(f:D->Bool)(h:n < L.length)(ha:L.all f=true)(hp:∀ x,f x=true->P x):Get (d81 (.lst L) (.int n)) P:=by
 obtain⟨x,e,hx⟩:=N70 f h ha;exact a70 (l51 e) (hp x hx)
theorem m21(k:Nat)(hz:ZI z):W (c70 T (k + 4) n70 [.z]) z (λs z1=>ZI z1/\∃ x,s=.d x/\K10 x=false) NE:=by
 refine a42 hz (ps:=1) (ns:=2) (b:=i90) rfl rfl (-0) ?_
 refine(j90 k 22 hz (-0) (-0)).imp λs z1 ⟨hz1,v,e,v1⟩=>?_
 subst e;refine(Y01 (n:=v) (λx=>!K10 x) ?_ ?_ ?_ :)
 ·show v < 22;omega
 ·decide +kernel
 ·exact λx hx=>⟨hz1,x,rfl,by simpa using hx⟩
def b80(n:Nat):D:=.int n
structure Y11(m:Int)(l:List Nat):Prop where
 ne:l≠[]
 up:l.Pairwise (· < ·)
 lt:∀ p∈l,(p:Int) < m
theorem Y11.len(g:Y11 m l)(h6:m<=6):l.length<=6:=by
 have:l.Sublist (ñ 6):=by
  have e:l=(ñ 6).filter λx=>l.contains x:=by
   refine Ó6 (le:=(· < ·)) ?_ g.up (Ó7 _ List.pairwise_lt_range) ?_
   ·intro a b _ _ h1 h2;omega
   ·refine(List.perm_ext_iff_of_nodup (g.up.imp λh e=>by omega) (Ó7 _ List.nodup_range)).mpr λa=>?_
    rw[Î5,Ê2,Î7];exact⟨λh=>⟨by have:=g.lt a h;omega,h⟩,λh=>h.2⟩
  rw[e];exact List.filter_sublist
 simpa using this.length_le
theorem n72(a b:Int):MySort.f80 [a] [b]=decide (a < b):=by
 show(if a=b then false else decide (a < b))=_;by_cases h:a=b
 ·rw[if_pos h,h];simp
 ·rw[if_neg h]
theorem T30(a b:Nat):e30 (b80 a) (b80 b)=true:=by
 show(true&&((some (decide ((a:Int) < b)) == some (MySort.f80 [(a:Int)] [(b:Int)]))&&(((a:Int) == b) || !([(a:Int)] == [(b:Int)]))))=true;rw[n72,beq_self_eq_true,Â5,Â5];by_cases h:(a:Int)=b <;> simp[h]
theorem X70(x y:Nat):bfD .sorted [.lst [b80 x,b80 y]]=some (.fr [b80 (min x y),b80 (max x y)]):=by
 have ok:l70 [b80 x,b80 y]=true:=by
  refine æ.mpr λu hu=>?_;have one:∀ a:Nat,(true&&(true&&[b80 x,b80 y].all (e30 (b80 a))))=true:=λa=>by
   show(e30 (b80 a) (b80 x)&&(e30 (b80 a) (b80 y)&&true))=true;rw[T30,T30];rfl
  simp only[Á7,ú,or_false] at hu;rcases hu with rfl | rfl
  ·exact one x
  ·exact one y
 have e:d70 [b80 x,b80 y]=[b80 (min x y),b80 (max x y)]:=by
  show(if MySort.f80 [(y:Int)] [(x:Int)] then [b80 y,b80 x] else [b80 x,b80 y])=_;rw[n72];by_cases h:(y:Int) < x
  ·rw[decide_eq_true h,if_pos rfl,Ó5 ∅,Nat.max_eq_left ∅]
  ·rw[decide_eq_false h,if_neg (-0),Ô4 ∅,Nat.max_eq_right ∅]
 show(if [b80 x,b80 y].length < 64/\l70 [b80 x,b80 y]=true then some (S.fr (d70 [b80 x,b80 y])) else _)=_;rw[if_pos ⟨by show 2 < 64;decide,ok⟩,e]
theorem eq_self(h:okD x=true)(hs:J81 .seq x=false):q40 .eq x x=some true:=by
 show(if okD x&&okD x then some (eqD x x) else eqE x x)=some true;rw[h];cases x with
 |non=>rfl|bl b=>show some (b == b)=_;rw[beq_self_eq_true]|int i=>show some (i == i)=_;rw[beq_self_eq_true]|str s=>show some (s == s)=_;rw[beq_self_eq_true]|tup l=>cases hs
 |lst l=>cases hs
 |dct=>rfl
theorem T40:∀ {l:List D}{d:D},d∈t20 l l->∃ x∈l,d=.tup [x,x]
 |x::r,d,h=>by
  rcases ý.mp h with h | h
  ·exact⟨x,Ó,h⟩
  ·obtain⟨u,hu,e⟩:=T40 h;exact⟨u,Î _ hu,e⟩
mutual
noncomputable def flat:Nat->D->Bool
 |_,.non=>true|_,.bl _=>true|_,.int _=>true|_,.str _=>false|0,.tup _=>false|d + 1,.tup l=>decide (l.length<=1000)&&N80 d l|_,.lst _=>false|_,.dct=>false
noncomputable def N80:Nat->List D->Bool
 |_,[]=>true|d,x::r=>flat d x&&N80 d r
end
theorem J80:∀ {d:Nat}{l:List D}{x:D},N80 d l=true->x∈l->flat d x=true
 |d,y::r,x,h,hx=>by
  unfold N80 at h;rw[Â] at h;rcases ý.mp hx with rfl | hx
  ·exact h.1
  ·exact J80 h.2 hx
theorem I81:∀ (d k:Nat) (x:D) (z:Z),flat d x=true->c70 T (k + d + 3) f10 [.d x,.d x] z=some (.ok (.d (.bl true)) z):=by
 have one:∀ (k:Nat) (x:D) (z:Z),okD x=true->J81 .seq x=false->c70 T (k + 3) f10 [.d x,.d x] z=some (.ok (.d (.bl true)) z):=λk x z h hs=>by
  refine W.ok (o90 (ps:=2) (ns:=2) (b:=k50) rfl rfl (-0) (ie hs ?_))
  refine(a70 (eq_self h hs) ?_ :);cases x with
  |tup l=>cases hs
  |lst l=>cases hs
  |_=>exact sb rfl
 intro d
 induction d with
 |zero =>
  intro k x z h;cases x with
  |non=>exact one k _ z rfl rfl|bl b=>exact one k _ z rfl rfl|int i=>exact one k _ z rfl rfl|_=>unfold flat at h;cases h
 |succ d ih =>
  intro k x z h;cases x with
  |non=>exact one _ _ z rfl rfl|bl b=>exact one _ _ z rfl rfl|int i=>exact one _ _ z rfl rfl
  |tup l =>
   unfold flat at h;rw[Â,decide_eq_true_eq] at h;refine W.ok (o90 (ps:=2) (ns:=2) (b:=k50) rfl rfl (-0) ?_)
   refine ie (b:=!((l.length:Int) == (l.length:Int))) (by rw[beq_self_eq_true];rfl) ?_
   refine ip (c:=(t20 l l).length<=most) (ë (E90 _ _) (o70 h.1)) (N40 (λ_=>.bl true) (λq hq=>?_) (a70 (k91 (t20 l l) λ_=>true) ?_ :))
   ·obtain⟨x,hx,rfl⟩:=T40 hq;exact Wo (ih k x z (J80 h.2 hx)) ⟨rfl,rfl⟩
   ·exact sb (b:=(t20 l l).all λ_=>true) (æ.mpr λ_ _=>rfl)
  |_=>unfold flat at h;cases h
theorem T50{d:Nat}:∀ {l:List D},(∀ x∈l,flat d x=true)->N80 d l=true
 |[],_=>by unfold N80;rfl
 |x::r,h=>by
  unfold N80;rw[h x Ó,T50 λy hy=>h y (Î _ hy)];rfl
theorem n20{d:Nat}{l:List D}(h:l.length<=1000)(ha:∀ x∈l,flat d x=true):flat (d + 1) (.tup l)=true:=by
 unfold flat;rw[decide_eq_true h,T50 ha];rfl
theorem F20{d:Nat}{i:Int}:flat d (.int i)=true:=by unfold flat;rfl
theorem I91{d:Nat}{p:Int × Int}:flat (d + 1) (pr p)=true:=n20 (by decide:2<=1000) λx hx=>by
 simp only[Á7,ú,or_false] at hx;rcases hx with rfl | rfl <;> exact F20
abbrev pq(ps:List (Int × Int))(i:Nat):Int × Int:=ps.getD i (0,0)
theorem z51{ps:List (Int × Int)}{i:Nat}(h:i < ps.length):ps[i]?=some (pq ps i):=by
 unfold pq;rw[Â8,ù h];rfl
theorem Y21{ps:List (Int × Int)}{i:Nat}(h:i < ps.length):pq ps i∈ps:=Ü (z51 h)
theorem z61{ps:List (Int × Int)}{i:Nat}(h:i < ps.length):d81 (.tup (ps.map pr)) (.int i)=some (pr (pq ps i)):=l61 (by rw[Ù,z51 h];rfl)
theorem T60{n:Nat}(h:n < 100000):itD .rng1 [.int n]=some ((range' 0 n).map b80):=by
 rw[F00 ∅ ∅,Ã8,Ï3];rfl
theorem Y31{a b:List D}(h:a.length + b.length<=1000):W10 .add (.lst a) (.lst b)=some (.fr (a++b)):=by
 show(if a.length + b.length<=most then some (S.fr (a++b)) else none)=_;rw[if_pos (o70 h)]
theorem r90{ps:List (Int × Int)}:o20 (ps.map pr) 0=(ñ ps.length).map λi=>.tup [b80 i,pr (pq ps i)]:=by
 have:∀ (l:List (Int × Int)) (j:Nat),o20 (l.map pr) j=(ñ l.length).map λi=>.tup [b80 (j + i),pr (pq l i)]:=by
  intro l
  induction l with
  |nil=>intro _;rfl
  |cons p r ih =>
   intro j;rw[Ò,List.range_succ_eq_map];show .tup [.int j,pr p]::o20 (r.map pr) (j + 1)=D.tup [b80 (j + 0),pr p]::((ñ r.length).map Nat.succ).map _;rw[ih (j + 1),À4];refine congr (congrArg _ rfl) (Ë5 λi _=>?_);show D.tup [b80 (j + 1 + i),_]=D.tup [b80 (j + (i + 1)),_];rw[show j + 1 + i=j + (i + 1) by omega];rfl
 rw[this ps 0];exact Ë5 λi _=>by rw[zero_add]
abbrev nl(f:Nat->Nat)(M:Nat):List D:=(ñ M).map λi=>b80 (f i)
theorem T70{f:Nat->Nat}{M:Nat}{p:Int}(h0:0<=p)(h:p.toNat < M):d81 (.lst (nl f M)) (.int p)=some (b80 (f p.toNat)):=by
 obtain⟨n,rfl⟩:=Í7 h0;rw[Ã8] at h ⊢;exact l51 (by rw[Ù,List.getElem?_range h];rfl)
abbrev mm(f:Nat->Nat)(p:Int × Int):Int × Int:=(((min (f p.1.toNat) (f p.2.toNat):Nat):Int),((max (f p.1.toNat) (f p.2.toNat):Nat):Int))
abbrev Q3:=(Int × Int) × Nat × Nat
def qD(t:Q3):D:=.tup [pr t.1,b80 t.2.1,b80 t.2.2]
theorem N90:∀ l:List Q3,g20 (l.map qD)=true
 |[]=>rfl|_::r=>N90 r
theorem Y41(p q:Q3):e30 (qD p) (qD q)=true:=by
 have e:ltD (qD p) (qD q)=some (MySort.f80 [p.1.1,p.1.2,(p.2.1:Int),(p.2.2:Int)] [q.1.1,q.1.2,(q.2.1:Int),(q.2.2:Int)]):=by
  show(if ((p.1.1 == q.1.1)&&((p.1.2 == q.1.2)&&true))=true then(if ((p.2.1:Int) == q.2.1)=true then(if ((p.2.2:Int) == q.2.2)=true then some false else some (decide ((p.2.2:Int) < q.2.2))) else some (decide ((p.2.1:Int) < q.2.1))) else ltD (pr p.1) (pr q.1))=some (if p.1.1=q.1.1 then(if p.1.2=q.1.2 then(if (p.2.1:Int)=q.2.1 then(if (p.2.2:Int)=q.2.2 then false else decide ((p.2.2:Int) < q.2.2)) else decide ((p.2.1:Int) < q.2.1)) else decide (p.1.2 < q.1.2)) else decide (p.1.1 < q.1.1));rw[X61];unfold ky;rw[k92];by_cases h1:p.1.1=q.1.1 <;> by_cases h2:p.1.2=q.1.2 <;> by_cases h3:(p.2.1:Int)=q.2.1 <;> by_cases h4:(p.2.2:Int)=q.2.2 <;> simp[h1,h2,h3,h4]
 unfold e30;rw[e];show(true&&((some (MySort.f80 [p.1.1,p.1.2,(p.2.1:Int),(p.2.2:Int)] [q.1.1,q.1.2,(q.2.1:Int),(q.2.2:Int)]) == some (MySort.f80 [p.1.1,p.1.2,(p.2.1:Int),(p.2.2:Int)] [q.1.1,q.1.2,(q.2.1:Int),(q.2.2:Int)]))&&((((p.1.1 == q.1.1)&&((p.1.2 == q.1.2)&&true))&&(((p.2.1:Int) == q.2.1)&&(((p.2.2:Int) == q.2.2)&&true))) || !([p.1.1,p.1.2,(p.2.1:Int),(p.2.2:Int)] == [q.1.1,q.1.2,(q.2.1:Int),(q.2.2:Int)]))))=true;rw[beq_self_eq_true,Â5,Â5,Ì4,Ì4];by_cases h1:p.1.1=q.1.1 <;> by_cases h2:p.1.2=q.1.2 <;> by_cases h3:(p.2.1:Int)=q.2.1 <;> by_cases h4:(p.2.2:Int)=q.2.2 <;> simp[h1,h2,h3,h4]
theorem T80{l:List Q3}(h:l.length < 64):bfD .sorted [.lst (l.map qD)]=some (.fr (d70 (l.map qD))):=by
 have ok:l70 (l.map qD)=true:=by
  refine æ.mpr λx hx=>?_;obtain⟨p,_,rfl⟩:=Þ.mp hx;show(true&&(true&&(l.map qD).all (e30 (qD p))))=true;refine æ.mpr λy hy=>?_;obtain⟨q,_,rfl⟩:=Þ.mp hy;exact Y41 p q
 show(if (l.map qD).length < 64/\l70 (l.map qD)=true then some (S.fr (d70 (l.map qD))) else(d52 (l.map qD)).map S.fr)=_;rw[if_pos ⟨by rw[É];exact h,ok⟩]
theorem j60(k:D):∀ l,(d71 k l).Perm (k::l)
 |[]=>.refl _
 |y::r=>by
  unfold d71;split
  ·exact((j60 k r).cons y).trans (.swap _ _ _)
  ·exact .refl _
theorem e80:∀ l,(d70 l).Perm l
 |[]=>.refl _|k::r=>(j60 k _).trans ((e80 r).cons k)
def f3:D->D
 |.tup [a,_,_]=>a|x=>x
def g3:D->D
 |.tup [_,b,c]=>.tup [b,c]|x=>x
def rws(f:Nat->Nat)(ps qs:List (Int × Int)):List Q3:=((ñ ps.length).map λi=>(pq ps i,0,i))++(ñ qs.length).map λi=>(mm f (pq qs i),1,i)
theorem j00{f:Nat->Nat}{ps qs:List (Int × Int)}:(rws f ps qs).length=ps.length + qs.length:=by unfold rws;simp
def outD(M:Int)(l:List Q3):D:=.tup [.tup [.int M,.tup ((d70 (l.map qD)).map f3)],.tup ((d70 (l.map qD)).map g3)]
theorem o80{l:List Q3}{x:D}(h:x∈d70 (l.map qD)):∃ t,x=qD t:=by
 obtain⟨t,_,e⟩:=Þ.mp ((e80 _).mem_iff.mp h);exact⟨t,e.symm⟩
theorem s00{l:List Q3}:(d70 (l.map qD)).length=l.length:=by rw[(e80 _).length_eq,É]
theorem T90{M:Int}{l:List Q3}(h:l.length<=16):flat 4 (outD M l)=true:=by
 refine n20 (by decide:2<=1000) λx hx=>?_
 simp only[Á7,ú,or_false] at hx;rcases hx with rfl | rfl
 ·refine n20 (by decide:2<=1000) λx hx=>?_
  simp only[Á7,ú,or_false] at hx;rcases hx with rfl | rfl
  ·exact F20
  ·refine n20 (by rw[É,s00];omega) λx hx=>?_
   obtain⟨y,hy,rfl⟩:=Þ.mp hx;obtain⟨t,rfl⟩:=o80 hy;exact I91
 ·refine n20 (by rw[É,s00];omega) λx hx=>?_
  obtain⟨y,hy,rfl⟩:=Þ.mp hx;obtain⟨t,rfl⟩:=o80 hy;refine n20 (by decide:2<=1000) λx hx=>?_
  simp only[Á7,ú,or_false] at hx;rcases hx with rfl | rfl <;> exact F20
theorem n30{l:List Q3}:g20 ((d70 (l.map qD)).map f3)=true/\g20 ((d70 (l.map qD)).map g3)=true/\g20 (d70 (l.map qD))=true:=by
 have all:∀ xs:List D,(∀ x∈xs,∃ t,x=qD t)->g20 (xs.map f3)=true/\g20 (xs.map g3)=true/\g20 xs=true:=by
  intro xs
  induction xs with
  |nil=>intro _;exact⟨rfl,rfl,rfl⟩
  |cons x r ih =>
   intro h;obtain⟨t,rfl⟩:=h x Ó;exact ih λy hy=>h y (Î _ hy)
 exact all _ λx hx=>o80 hx
def tlQ:Sm->Sm
 |.seq _ r=>r|s=>s
theorem X80(k p b:Nat)(z:Z):c70 T (k + 3) x40 [.d (b80 p),.d (b80 b)] z=some (.ok (.d (b80 (if b < p then p - 1 else p))) z):=by
 refine W.ok (o90 (ps:=2) (ns:=2) (b:=o50) rfl rfl (-0) ?_)
 refine ib (b:=decide ((b:Int) < p)) (λh=>?_) λh=>?_
 ·have h:=of_decide_eq_true h;refine sd ?_;show S.d (.int ((p:Int) - 1))=S.d (.int ((if b < p then p - 1 else p:Nat):Int));rw[if_pos ∅,show(((p - 1:Nat)):Int)=(p:Int) - 1 by omega]
 ·have h:=of_decide_eq_false h;refine sd ?_;rw[if_neg ∅];rfl
theorem J01(k x y:Nat)(z:Z):c70 T (k + 3) S40 [.d (b80 x),.d (b80 y)] z=some (.ok (.d (pr (((min x y:Nat):Int),((max x y:Nat):Int)))) z):=by
 refine W.ok (o90 (ps:=2) (ns:=2) (b:=E80) rfl rfl (-0) ?_)
 refine sd ?_;show S.d (.tup [.int (if (y:Int) < x then(y:Int) else x),.int (if (y:Int) > x then(y:Int) else x)])=S.d (.tup [.int ((min x y:Nat):Int),.int ((max x y:Nat):Int)]);rw[show(if (y:Int) < x then(y:Int) else x)=((min x y:Nat):Int) by split <;> omega,show(if (y:Int) > x then(y:Int) else x)=((max x y:Nat):Int) by split <;> omega]
theorem O00(k:Nat){f:Nat->Nat}{M:Nat}{p:Int × Int}(h1:0<=p.1)(h2:p.1.toNat < M)(h3:0<=p.2)(h4:p.2.toNat < M)(z:Z):c70 T (k + 4) J20 [.d (pr p),.d (.lst (nl f M))] z=some (.ok (.d (pr (mm f p))) z):=by
 refine W.ok (o90 (ps:=2) (ns:=4) (b:=x50) rfl rfl (-0) ?_)
 refine(a70 (T70 (f:=f) h1 h2) ?_ :);refine(a70 (T70 (f:=f) h3 h4) ?_ :);exact Wo (J01 k _ _ z) (sd rfl)
def e0:D->D
 |.tup [i,t]=>.tup [t,.int 0,i]|x=>x
def noQ:D->Nat
 |.tup [.int i,_]=>i.toNat|_=>0
section
variable {m1 m2 M:Int}{ps qs:List (Int × Int)}{f:Nat->Nat}
theorem d60.lo(g:d60 m2 qs){i:Nat}(h:i < qs.length):0<=(pq qs i).1/\(pq qs i).1.toNat < m2.toNat/\0<=(pq qs i).2/\(pq qs i).2.toNat < m2.toNat:=by
 have:=g.tie _ (Y21 h);omega
abbrev A10(M:Int)(ps qs:List (Int × Int)):Bool:=decide (6 < M) || decide (8 < ps.length + qs.length)
abbrev Y51(M m1 m2:Int)(ps qs:List (Int × Int))(f:Nat->Nat)(o4 o5:Option S):Env:=[some (.d (.int M)),some (.d (i40 m1 ps)),some (.d (i40 m2 qs)),some (.d (.lst (nl f m2.toNat))),o4,o5]
theorem m31(k:Nat)(g1:d60 m1 ps)(g2:d60 m2 qs)(z:Z){Q:S->Z->Prop}{E:Nat->Z->Prop}(hE:A10 M ps qs=true->E 8 z)(hQ:A10 M ps qs=false->Q (.d (outD M (rws f ps qs))) z):W (c70 T (k + 6) i80 [.d (.int M),.d (i40 m1 ps),.d (i40 m2 qs),.d (.lst (nl f m2.toNat))]) z Q E:=by
 have h8:=g1.len;have h8':=g2.len;refine o90 (ps:=4) (ns:=6) (b:=f30) rfl rfl (-0) ?_
 refine(t40 (.fr (((ñ ps.length).map λi=>((pq ps i,0,i):Q3)).map qD)) (Y51 M m1 m2 ps qs f (some (.fr (((ñ ps.length).map λi=>((pq ps i,0,i):Q3)).map qD))) none) ?_ ?_ ?_ :)
 ·refine ip (by show(o20 (ps.map pr) 0).length<=most;rw[r90,É,õ];exact o70 ∅) ?_
  refine N40 e0 (λx hx=>?_) ?_
  ·rw[r90] at hx;obtain⟨i,_,rfl⟩:=Þ.mp hx;exact⟨rfl,rfl⟩
  ·rw[r90,À4,À4];exact⟨rfl,rfl⟩
 ·rw[l10 (show l40 (.fr (((ñ ps.length).map λi=>((pq ps i,0,i):Q3)).map qD))=true from N90 _)];rfl
 refine(t40 (.fr ((rws f ps qs).map qD)) (Y51 M m1 m2 ps qs f (some (.fr ((rws f ps qs).map qD))) none) ?_ ?_ ?_ :)
 ·refine ip (by show(o20 (qs.map pr) 0).length<=most;rw[r90,É,õ];exact o70 ∅) ?_
  refine N40 (λx=>qD (mm f (pq qs (noQ x)),1,noQ x)) (λx hx=>?_) ?_
  ·rw[r90] at hx;obtain⟨i,hi,rfl⟩:=Þ.mp hx;have hi:=Ê2.mp hi;obtain⟨j1,j2,j3,j4⟩:=g2.lo hi;have eo:noQ (.tup [b80 i,pr (pq qs i)])=i:=Ã8 i;refine Wo (O00 (k + 1) j1 j2 j3 j4 z) ⟨?_,rfl⟩;rw[eo];rfl
  ·rw[r90];refine(a70 (Y31 (a:=((ñ ps.length).map λi=>((pq ps i,0,i):Q3)).map qD) (b:=((ñ qs.length).map λi=>D.tup [b80 i,pr (pq qs i)]).map λx=>qD (mm f (pq qs (noQ x)),1,noQ x)) (by simp only[É,õ];omega)) ?_ :)
   refine⟨?_,rfl⟩;unfold rws;simp only[Ã1,À4];rfl
 ·rw[l10 (show l40 (.fr ((rws f ps qs).map qD))=true from N90 _)];rfl
 have rl:((rws f ps qs).map qD).length=ps.length + qs.length:=by rw[É,j00]
 have rest:A10 M ps qs=false->WS (w00 T (k + 3 + 2)) z.isNone (tlQ (tlQ (tlQ f30))) (Y51 M m1 m2 ps qs f (some (.fr ((rws f ps qs).map qD))) none) z (λo z1=>match o with
  |.nx _=>Q (.d .non) (p50 z z1)
  |.rt s=>Q s (p50 z z1)) λc z1=>E c (p50 z z1):=λhb=>by
  refine(t40 (.fr (d70 ((rws f ps qs).map qD))) (Y51 M m1 m2 ps qs f (some (.fr (d70 ((rws f ps qs).map qD)))) none) ?_ ?_ ?_ :)
  ·refine(a70 (T80 (l:=rws f ps qs) (by rw[j00];omega)) ?_ :)
   exact⟨rfl,rfl⟩
  ·rw[l10 (show l40 (.fr (d70 ((rws f ps qs).map qD)))=true from n30.2.2)];rfl
  refine(t40 (.d (.tup [.int M,.tup ((d70 ((rws f ps qs).map qD)).map f3)])) (Y51 M m1 m2 ps qs f (some (.fr (d70 ((rws f ps qs).map qD)))) (some (.d (.tup [.int M,.tup ((d70 ((rws f ps qs).map qD)).map f3)])))) ?_ ?_ ?_ :)
  ·refine ip (by rw[s00,j00];exact o70 ∅) (N40 f3 (λx hx=>?_) ?_)
   ·obtain⟨t,rfl⟩:=o80 hx;exact⟨rfl,rfl⟩
   ·exact⟨rfl,rfl⟩
  ·rw[l10 (show l40 (.d (.tup [.int M,.tup ((d70 ((rws f ps qs).map qD)).map f3)]))=true from by show(true&&(g20 _&&true))=true;rw[n30.1];rfl)];rfl
  refine ip (by rw[s00,j00];exact o70 ∅) (N40 g3 (λx hx=>?_) ?_)
  ·obtain⟨t,rfl⟩:=o80 hx;exact⟨rfl,rfl⟩
  ·show Q _ (p50 z z);rw[b70];exact hQ hb
 refine ib (b:=decide (6 < M)) (λh=>?_) λh=>?_
 ·show E 8 (p50 z z);rw[b70];exact hE (by unfold A10;rw[h];rfl)
 ·refine ib (b:=decide ((8:Int) < (((rws f ps qs).map qD).length:Int))) (λh2=>?_) λh2=>?_
  ·show E 8 (p50 z z);rw[b70];refine hE ?_;have h2:=of_decide_eq_true h2;rw[rl] at h2;unfold A10;rw[h,decide_eq_true ∅];rfl
  ·refine rest ?_;have h2:=of_decide_eq_false h2;rw[rl] at h2;unfold A10;rw[h,decide_eq_false ∅];rfl
abbrev duE(M m1 m2:Int)(ps qs:List (Int × Int))(f:Nat->Nat)(l:List Q3)(o5 o6 o7:Option S):Env:=[some (.d (i40 m1 ps)),some (.d (i40 m2 qs)),some (.d (.lst (nl f m2.toNat))),some (.d (.int M)),some (.fr (l.map qD)),o5,o6,o7]
abbrev r1J(ps:List (Int × Int))(j:Nat):List Q3:=(ñ j).map λi=>(pq ps i,0,i)
abbrev r2J(f:Nat->Nat)(ps qs:List (Int × Int))(j:Nat):List Q3:=r1J ps ps.length++(ñ j).map λi=>(mm f (pq qs i),1,i)
theorem l02(k:Nat)(g1:d60 m1 ps){z:Z}{tp:Bool}{Q:O->Z->Prop}{E:Nat->Z->Prop}
  (q:∀ o5:Option S,WS (w00 T k) tp (tlQ (tlQ f20)) (duE M m1 m2 ps qs f (r1J ps ps.length) o5 none none) z Q E) :
  WS (w00 T k) tp (tlQ f20) (duE M m1 m2 ps qs f [] none none none) z Q E:=by
 have h8:=g1.len;refine(a70 (T60 (n:=(ps.map pr).length) (by rw[É];omega)) ?_ :)
 refine X40 (λxs ρ z1=>z1=z/\∃ (j r:Nat) (o5:Option S),j + r=ps.length/\xs=(range' j r).map b80/\ρ=duE M m1 m2 ps qs f (r1J ps j) o5 none none) _ ⟨rfl,0,ps.length,_,zero_add _,by rw[É],rfl⟩ ?_ ?_
 ·rintro x r ρ z1 ⟨rfl,j,r',o5,hj,e,rfl⟩;cases r' with
  |zero=>cases e
  |succ r' =>
   rw[Ä2] at e;cases e;refine(a70 (z61 (show j < ps.length by omega)) ?_ :)
   refine ip ⟨rfl,by rw[É,É,õ];exact Â9 (show j<=8 by omega) (-0)⟩ ?_
   refine⟨rfl,j + 1,r',some (.d (b80 j)),by omega,rfl,?_⟩
   unfold duE r1J;rw[range_succ,Ã1,Ã1];rfl
 ·rintro ρ z1 ⟨rfl,j,r',o5,hj,e,rfl⟩;cases r' with
  |zero =>
   have hj:j=ps.length:=hj;subst hj;exact q _
  |succ r'=>rw[Ä2] at e;cases e
theorem l12(k:Nat)(g1:d60 m1 ps)(g2:d60 m2 qs){z:Z}{tp:Bool}{o5:Option S}{Q:O->Z->Prop}{E:Nat->Z->Prop}
  (q:∀ o5 o6:Option S,WS (w00 T k) tp (tlQ (tlQ (tlQ f20))) (duE M m1 m2 ps qs f (rws f ps qs) o5 o6 none) z Q E) :
  WS (w00 T k) tp (tlQ (tlQ f20)) (duE M m1 m2 ps qs f (r1J ps ps.length) o5 none none) z Q E:=by
 have h8:=g1.len;have h8':=g2.len;refine(a70 (T60 (n:=(qs.map pr).length) (by rw[É];omega)) ?_ :)
 refine X40 (λxs ρ z1=>z1=z/\∃ (j r:Nat) (o5 o6:Option S),j + r=qs.length/\xs=(range' j r).map b80/\ρ=duE M m1 m2 ps qs f (r2J f ps qs j) o5 o6 none) _ ⟨rfl,0,qs.length,_,_,zero_add _,by rw[É],by unfold r2J;rw[List.range_zero,map_nil,Ä0];rfl⟩ ?_ ?_
 ·rintro x r ρ z1 ⟨rfl,j,r',o5,o6,hj,e,rfl⟩;cases r' with
  |zero=>cases e
  |succ r' =>
   rw[Ä2] at e;cases e;have hjm:j < qs.length:=by omega
   obtain⟨j1,j2,j3,j4⟩:=g2.lo hjm;refine(t40 (.fr [b80 (min (f (pq qs j).1.toNat) (f (pq qs j).2.toNat)),b80 (max (f (pq qs j).1.toNat) (f (pq qs j).2.toNat))]) (duE M m1 m2 ps qs f (r2J f ps qs j) (some (.d (b80 j))) (some (.fr [b80 (min (f (pq qs j).1.toNat) (f (pq qs j).2.toNat)),b80 (max (f (pq qs j).1.toNat) (f (pq qs j).2.toNat))])) none) ?_ ?_ ?_ :)
   ·refine(a70 (z61 hjm) ?_ :);refine N40 (λx=>match x with | .int i=>b80 (f i.toNat) | x=>x) (λx hx=>?_) ?_
    ·have hx:x∈[D.int (pq qs j).1,D.int (pq qs j).2]:=hx;simp only[Á7,ú,or_false] at hx;rcases hx with rfl | rfl
     ·refine(a70 (T70 (f:=f) j1 j2) ?_ :);exact⟨rfl,rfl⟩
     ·refine(a70 (T70 (f:=f) j3 j4) ?_ :);exact⟨rfl,rfl⟩
    ·refine(a70 (X70 (f (pq qs j).1.toNat) (f (pq qs j).2.toNat)) ?_ :);exact⟨rfl,rfl⟩
   ·rw[l10 rfl];rfl
   ·refine ip ⟨rfl,by rw[É,ÿ,É,õ,É,õ];exact Â9 (show ps.length + j<=16 by omega) (-0)⟩ ?_
    refine⟨rfl,j + 1,r',some (.d (b80 j)),some (.fr [b80 (min (f (pq qs j).1.toNat) (f (pq qs j).2.toNat)),b80 (max (f (pq qs j).1.toNat) (f (pq qs j).2.toNat))]),by omega,rfl,?_⟩
    unfold duE r2J;rw[range_succ,Ã1,Ã1,Ã1,Ã1,È5];rfl
 ·rintro ρ z1 ⟨rfl,j,r',o5,o6,hj,e,rfl⟩;cases r' with
  |zero =>
   have hj:j=qs.length:=hj;subst hj;exact q _ _
  |succ r'=>rw[Ä2] at e;cases e
theorem A20(k:Nat)(g1:d60 m1 ps)(g2:d60 m2 qs)(z:Z):c70 T (k + 3) r50 [.d (i40 m1 ps),.d (i40 m2 qs),.d (.lst (nl f m2.toNat)),.d (.int M)] z=some (.ok (.d (if A10 M ps qs=true then .non else outD M (rws f ps qs))) z):=by
 have h8:=g1.len;have h8':=g2.len;have rl:((rws f ps qs).map qD).length=ps.length + qs.length:=by rw[É,j00]
 refine W.ok (o90 (ps:=4) (ns:=8) (b:=f20) rfl rfl (-0) ?_)
 refine(l02 (k + 2) g1 λo5=>l12 (k + 2) g1 g2 λo5 o6=>?_ :);refine ib (b:=decide (6 < M)) (λh=>?_) λh=>?_
 ·exact sd (by rw[if_pos (by unfold A10;rw[h];rfl)])
 ·refine ib (b:=decide ((8:Int) < (((rws f ps qs).map qD).length:Int))) (λh2=>?_) λh2=>?_
  ·have h2:=of_decide_eq_true h2;rw[rl] at h2;exact sd (by rw[if_pos (by unfold A10;rw[h,decide_eq_true ∅];rfl)])
  ·have h2:=of_decide_eq_false h2;rw[rl] at h2;rw[if_neg (by unfold A10;rw[h,decide_eq_false ∅];decide)]
   refine(t40 (.fr (d70 ((rws f ps qs).map qD))) [some (.d (i40 m1 ps)),some (.d (i40 m2 qs)),some (.d (.lst (nl f m2.toNat))),some (.d (.int M)),some (.fr (d70 ((rws f ps qs).map qD))),o5,o6,none] ?_ ?_ ?_ :)
   ·refine(a70 (T80 (l:=rws f ps qs) (by rw[j00];omega)) ?_ :)
    exact⟨rfl,rfl⟩
   ·rw[l10 (show l40 (.fr (d70 ((rws f ps qs).map qD)))=true from n30.2.2)];rfl
   refine(t40 (.d (.tup ((d70 ((rws f ps qs).map qD)).map g3))) [some (.d (i40 m1 ps)),some (.d (i40 m2 qs)),some (.d (.lst (nl f m2.toNat))),some (.d (.int M)),some (.fr (d70 ((rws f ps qs).map qD))),o5,o6,some (.d (.tup ((d70 ((rws f ps qs).map qD)).map g3)))] ?_ ?_ ?_ :)
   ·refine ip (by rw[s00,j00];exact o70 ∅) (N40 g3 (λx hx=>?_) ?_)
    ·obtain⟨t,rfl⟩:=o80 hx;exact⟨rfl,rfl⟩
    ·exact⟨rfl,rfl⟩
   ·rw[l10 (show l40 (.d (.tup ((d70 ((rws f ps qs).map qD)).map g3)))=true from n30.2.1)];rfl
   refine ip (by rw[s00,j00];exact o70 ∅) (N40 f3 (λx hx=>?_) ?_)
   ·obtain⟨t,rfl⟩:=o80 hx;exact⟨rfl,rfl⟩
   ·exact sd rfl
end
theorem j10(k:Nat){m:Int}{t x:D}(z:Z)(h:d40 x m=true):c70 T (k + 5) g50 [.d (.tup [.int m,t]),.d x] z=some (.ok (.d .non) z) :=
 W.ok (o90 (ps:=2) (ns:=2) (b:=g60) rfl rfl (-0) (Wo (k60 k x m z) (ie (b:=!d40 x m) (by rw[h];rfl) (sd rfl))))
theorem n80(k:Nat){m:Int}{t x:D}(z:Z)(h:d40 x m=false):c70 T (k + 5) g50 [.d (.tup [.int m,t]),.d x] z=some (.er 3 z) :=
 W.er (o90 (ps:=2) (ns:=2) (b:=g60) rfl rfl (-0) (Wo (k60 k x m z) (it (b:=!d40 x m) (by rw[h];rfl) ⟨rfl,b70 z⟩)))
theorem z71{n:Nat}{m:Int}(h:(n:Int) < m):d40 (.int n) m=true:=by
 show(decide (0<=(n:Int))&&decide ((n:Int) < m))=true;rw[decide_eq_true ∅,decide_eq_true h];rfl
abbrev nbF(m1:Int):Nat->Nat:=λi=>m1.toNat + i
abbrev nhF(m1:Int)(p t:Nat):Nat->Nat:=λi=>if i=t then p else m1.toNat + (if t < i then i - 1 else i)
theorem Y61{m1:Int}{p t M:Nat}(h:t < M):H90 (nl (λi=>m1.toNat + (if t < i then i - 1 else i)) M) (t:Int) (b80 p)=some (nl (nhF m1 p t) M):=by
 have hl:(nl (λi=>m1.toNat + (if t < i then i - 1 else i)) M).length=M:=by rw[É,õ]
 have hx:L2.ixN (nl (λi=>m1.toNat + (if t < i then i - 1 else i)) M).length (t:Int)=some t:=by
  rw[hl];unfold L2.ixN;simp;omega
 unfold H90;rw[hx];refine congrArg some (List.ext_getElem (by rw[À6,É,É]) λi h1 h2=>?_)
 rw[List.getElem_set];split
 ·rename_i e;subst e;rw[List.getElem_map,Ñ1];show b80 p=b80 (if t=t then p else _);rw[if_pos rfl]
 ·rename_i e;simp only[List.getElem_map,Ñ1];show _=b80 (if i=t then p else _);rw[if_neg (c:=i=t) (λh=>e h.symm)]
theorem F30{f:Nat->Nat}{M:Nat}:g20 (nl f M)=true:=by
 have:∀ l:List Nat,g20 (l.map λi=>b80 (f i))=true:=by
  intro l
  induction l with
  |nil=>rfl|cons a r ih=>exact ih
 exact this _
section
variable {m1 m2:Int}{ps qs:List (Int × Int)}
theorem A30(k:Nat)(g1:d60 m1 ps)(g2:d60 m2 qs)(z:Z){Q:S->Z->Prop}{E:Nat->Z->Prop}(hE:A10 (m1 + m2) ps qs=true->E 8 z)(hQ:A10 (m1 + m2) ps qs=false->Q (.d (outD (m1 + m2) (rws (nbF m1) ps qs))) z):W (c70 T (k + 9) i10 [.d (i40 m1 ps),.d (i40 m2 qs)]) z Q E:=by
 have a1:=g1.m1;have a2:=g2.m1;have a6:=g2.m6;refine o90 (ps:=2) (ns:=3) (b:=q20) rfl rfl (-0) (Wo (c20 k z g1.web) (Wo (c20 k z g2.web) ?_))
 refine(a70 (F00 (m:=m2) ∅ ∅) ?_ :)
 refine ip (by rw[É,õ];exact o70 ∅) (N40 (λx=>match x with | .int i=>b80 (nbF m1 i.toNat) | x=>x) (λx hx=>?_) ?_)
 ·obtain⟨i,_,rfl⟩:=Þ.mp hx;refine⟨?_,rfl⟩;show D.int (m1 + (i:Int))=D.int ((m1.toNat + i:Nat):Int);rw[show((m1.toNat + i:Nat):Int)=m1 + i by omega]
 ·rw[À4];refine(m31 (k + 2) (f:=nbF m1) g1 g2 z (λh=>?_) λh=>?_ :)
  ·show E 8 (p50 z z);rw[b70];exact hE h
  ·show Q _ (p50 z z);rw[b70];exact hQ h
theorem U00(k:Nat)(g1:d60 m1 ps)(g2:d60 m2 qs){p t:Nat}(hp:(p:Int) < m1)(ht:(t:Int) < m2)(z:Z){Q:S->Z->Prop}{E:Nat->Z->Prop}(hE:A10 (m1 + m2 - 1) ps qs=true->E 8 z)(hQ:A10 (m1 + m2 - 1) ps qs=false->Q (.d (outD (m1 + m2 - 1) (rws (nhF m1 p t) ps qs))) z):W (c70 T (k + 9) j80 [.d (i40 m1 ps),.d (b80 p),.d (i40 m2 qs),.d (b80 t)]) z Q E:=by
 have a1:=g1.m1;have a2:=g2.m1;have a6:=g2.m6;refine o90 (ps:=4) (ns:=5) (b:=x60) rfl rfl (-0) (Wo (c20 k z g1.web) (Wo (c20 k z g2.web) (Wo (j10 (k + 3) z (z71 hp)) (Wo (j10 (k + 3) z (z71 ht)) ?_))))
 refine(a70 (F00 (m:=m2) ∅ ∅) ?_ :)
 refine ip (by rw[É,õ];exact o70 ∅) (N40 (λx=>match x with | .int i=>b80 (m1.toNat + (if t < i.toNat then i.toNat - 1 else i.toNat)) | x=>x) (λx hx=>?_) ?_)
 ·obtain⟨i,_,rfl⟩:=Þ.mp hx;refine Wo (X80 (k + 5) i t z) ⟨?_,rfl⟩;show D.int (m1 + ((if t < i then i - 1 else i:Nat):Int))=D.int ((m1.toNat + (if t < i then i - 1 else i):Nat):Int);rw[show((m1.toNat + (if t < i then i - 1 else i):Nat):Int)=m1 + ((if t < i then i - 1 else i:Nat):Int) by omega]
 ·rw[À4];refine(a70 (Y61 (m1:=m1) (p:=p) (t:=t) (M:=m2.toNat) ∅) ?_ :)
  refine(m31 (k + 2) (f:=nhF m1 p t) g1 g2 z (λh=>?_) λh=>?_ :)
  ·show E 8 (p50 z z);rw[b70];exact hE h
  ·show Q _ (p50 z z);rw[b70];exact hQ h
abbrev laE(m1 m2:Int)(ps qs:List (Int × Int))(p t:Nat)(l:List D)(n:Nat)(o6:Option S):Env:=[some (.d (i40 m1 ps)),some (.d (b80 p)),some (.d (i40 m2 qs)),some (.d (b80 t)),some (.fr l),some (.d (b80 n)),o6]
theorem J90(k:Nat)(g1:d60 m1 ps)(g2:d60 m2 qs)(p t:Nat)(z:Z):c70 T (k + 3) s80 [.d (i40 m1 ps),.d (b80 p),.d (i40 m2 qs),.d (b80 t)] z=some (.ok (.fr (nl (nhF m1 p t) m2.toNat)) z):=by
 have a1:=g1.m1;have a2:=g2.m1;have a6:=g2.m6;refine W.ok (o90 (ps:=4) (ns:=7) (b:=m30) rfl rfl (-0) ?_)
 refine(a70 (F00 (m:=m2) ∅ ∅) ?_ :)
 refine X40 (λxs ρ z1=>z1=z/\∃ (j r:Nat) (o6:Option S),j + r=m2.toNat/\xs=(range' j r).map b80/\ρ=laE m1 m2 ps qs p t (nl (nhF m1 p t) j) (m1.toNat + (if t < j then j - 1 else j)) o6) _ ⟨rfl,0,m2.toNat,none,zero_add _,by rw[Ï3];rfl,?_⟩ ?_ ?_
 ·unfold laE;rw[if_neg (Ð1 _),show(b80 (m1.toNat + 0):D)=.int m1 from congrArg D.int ∅];rfl
 ·rintro x r ρ z1 ⟨rfl,j,r',o6,hj,e,rfl⟩;cases r' with
  |zero=>cases e
  |succ r' =>
   rw[Ä2] at e;cases e;have hlen:(nl (nhF m1 p t) j).length < most:=by rw[É,õ];exact Â9 (show j<=8 by omega) (-0)
   have hs:∀ v,v=nhF m1 p t j->nl (nhF m1 p t) j++[b80 v]=nl (nhF m1 p t) (j + 1):=λv e=>by
    unfold nl;rw[range_succ,Ã1,e];rfl
   refine ib (b:=(j:Int) == (t:Int)) (λhb=>?_) λhb=>?_
   ·have hb:=eq_of_beq hb;have hb:j=t:=by omega
    refine ip ⟨rfl,hlen⟩ ?_;refine⟨rfl,j + 1,r',some (.d (b80 j)),by omega,rfl,?_⟩
    unfold laE;rw[← hs p (by show p=if j=t then p else _;rw[if_pos hb]),show(m1.toNat + if t < j + 1 then j + 1 - 1 else j + 1)=(m1.toNat + if t < j then j - 1 else j) by rw[if_pos ∅,if_neg ∅];omega]
    rfl
   ·have hb:=ne_of_beq_false hb;have hb:j≠t:=by omega
    refine ip ⟨rfl,hlen⟩ ?_;refine⟨rfl,j + 1,r',some (.d (b80 j)),by omega,rfl,?_⟩
    unfold laE;rw[← hs (m1.toNat + if t < j then j - 1 else j) (by show _=if j=t then p else _;rw[if_neg hb]),show(b80 (m1.toNat + if t < j + 1 then j + 1 - 1 else j + 1):D)=.int (((m1.toNat + if t < j then j - 1 else j:Nat):Int) + 1) from congrArg D.int (by split <;> split <;> omega)]
    rfl
 ·rintro ρ z1 ⟨rfl,j,r',o6,hj,e,rfl⟩;cases r' with
  |zero =>
   have hj:j=m2.toNat:=hj;subst hj;exact sd rfl
  |succ r'=>rw[Ä2] at e;cases e
end
theorem k70(h:W30 ρ capt=some ss)(he:WE (Q.W20 F) a (ss.map some) z (λ_ _=>False) (λd z2=>d=c/\z2=z))(hc:c < 12)(hr:o30 F ρ r z=some (cs,z)):o30 F ρ ((capt,a)::r) z=some (c::cs,z):=by
 have e:=W.er (d00.mp he);unfold o30;rw[h];show(match ev (Q.W20 F) a (ss.map some) z with | some (.er c z1)=>if c < 12 then(o30 F ρ r z1).map λ(p:List Nat × Z)=>(c::p.1,p.2) else none | _=>none)=_
 rw[e];show(if c < 12 then(o30 F ρ r z).map λ(p:List Nat × Z)=>(c::p.1,p.2) else none)=_;rw[if_pos hc,hr];rfl
theorem J11(h:o30 F ρ ls z=some (cs,z))(he:WE F e ρ z (λl z1=>Get (pl l) λd=>z1=z/\q40 .ne (.lst (cs.map x01)) d=some false) NE)(hr:WS F tp r ρ z Q E):W (D10 F ls e (ex F tp t) (ex F tp r) ρ) z Q E:=by
 obtain⟨l,e1,e2⟩:=d00.mp he;cases l with
 |er c z1=>exact e2.elim
 |ok l z1 =>
  obtain⟨d,e3,rfl,e4⟩:=q10 (show Get (pl l) _ from e2);obtain⟨o,e5,e6⟩:=z60.mp hr;refine⟨o,?_,e6⟩;unfold D10;rw[h];show M.bind (ev F e ρ) _ z1=some o;simp only[M.bind,e1,M.of,e3,M.ret,e4];exact e5
theorem z81(il:i < ρ.length)(h:o30 F (ρ.set i none) ls z=some (cs,z))(he:WE F e (ρ.set i none) z (λl z1=>Get (pl l) λd=>z1=z/\q40 .ne (.lst (cs.map x01)) d=some false) NE)(hr:WS F tp r (ρ.set i none) z Q E):WS F tp (.lams i ls none e t r) ρ z Q E:=by
 show W (if i < ρ.length then D10 F ls e (ex F tp t) (ex F tp r) (ρ.set i none) else M.no) z Q E;rw[if_pos il];exact J11 h he hr
abbrev grP:List (Int × Int):=ã 8 (0,1)
theorem O10:d60 6 grP:=⟨by decide,by decide,by decide,λp hp=>by rw[Õ8 hp];decide,by refine⟨?_,?_,?_,?_,?_,?_,?_,trivial⟩ <;> decide⟩
theorem U10{m:Int}(h1:1<=m)(h6:m<=6):d60 m []:=⟨h1,h6,by decide,λp hp=>(nomatch hp),trivial⟩
theorem m41{p q:Int × Int}:HT.leB (ky p) (ky q)=true↔p.1 < q.1∨(p.1=q.1/\p.2<=q.2):=by
 unfold HT.leB ky;rw[k92];by_cases h1:q.1=p.1
 ·rw[if_pos h1];by_cases h2:q.2=p.2
  ·rw[if_pos h2];simp;omega
  ·rw[if_neg h2];simp;omega
 ·rw[if_neg h1];simp;omega
theorem z91:∀ {l:List (Int × Int)},Ch l->l.Pairwise λp q=>HT.leB (ky p) (ky q)=true
 |[],_=>.nil|[a],_=>Ö3 _ _
 |a::b::r,h=>by
  have ih:=z91 h.2;refine .cons (λq hq=>?_) ih;rcases ý.mp hq with rfl | hq
  ·exact h.1
  ·have h1:=m41.mp h.1;have h2:=m41.mp (Õ5 ih hq);rw[m41];omega
theorem A01:∀ {l:List (Int × Int)},l.Pairwise (λp q=>HT.leB (ky p) (ky q)=true)->Ch l
 |[],_=>trivial|[a],_=>trivial|a::b::r,h=>⟨Õ5 h Ó,A01 h.of_cons⟩
theorem d60.less{m c:Int}{ps:List (Int × Int)}(g:d60 m ps)(h1:1<=c)(h6:c<=6):d60 c (ps.filter λp=>decide (p.2 < c)) :=
 ⟨h1,h6,ë (List.length_filter_le _ _) g.len,λp hp=>by
  obtain⟨h2,h3⟩:=Î5.mp hp;have h3:=of_decide_eq_true h3;have:=g.tie p h2;omega,A01 ((z91 g.ch).sublist List.filter_sublist)⟩
theorem m51{k:Nat}{ρ:Env}{capt:List Nat}{ss:List S}{a:Ex}{z:Z}{out d:D}{big:Bool}{R:List S->Z->Prop}{E:Nat->Z->Prop}(hc:W30 ρ capt=some ss)(hd:d=if big=true then .non else out)(ho:h90 out=false)(fl:flat 4 out=true)
  (ha:WE (Q.W20 (w00 T (k + 37 + 2))) a (ss.map some) z (λl z1=>big=false/\l=[.d out]/\z1=z) λc z1=>big=true/\c=8/\z1=z) (q:R [.d (.bl true)] z) :
  W (s01 (W30 ρ capt) d (λρ'=>ev (Q.W20 (w00 T (k + 37 + 2))) a ρ') λs=>(w00 T (k + 37 + 2)) true f10 [plS s,.d d]) z R E:=by
 obtain⟨r,e,h⟩:=d00.mp ha;cases r with
 |ok l z1 =>
  obtain⟨rfl,rfl,rfl⟩:=h;subst hd;exact W81 ho hc e (I81 4 (k + 30) _ z1 fl) q
 |er c z1 =>
  obtain⟨rfl,rfl,rfl⟩:=h;subst hd;exact W71 rfl hc e (-0) q
abbrev lE(ns:List Int)(j:Nat)(m1 m2:Int)(ps qs:List (Int × Int))(o5 o6 o7 o8 o9 o10 o11 o12 o13:Option S):Env:=[some (.d (.lst (ns.map D.int))),some (.d (.int j)),some .z,some (.d (i40 m1 ps)),some (.d (i40 m2 qs)),o5,o6,o7,o8,o9,o10,o11,o12,o13]
abbrev bIn(n:Nat):Sm:=match u61 with
 |.seq (.fr _ _ _ b) _=>Nat.rec b (λ_ r=>tlQ r) n|_=>.nil
section
variable {m1 m2:Int}{ps qs:List (Int × Int)}
theorem Y71(k:Nat){w x v y:D}(hw:K10 w=false)(z:Z):c70 T (k + 9) j80 [.d w,.d x,.d v,.d y] z=some (.er 0 z) :=
 W.er (o90 (ps:=4) (ns:=5) (b:=x60) rfl rfl (-0) (We (i30 k z hw) ⟨rfl,b70 z⟩))
theorem J21(k:Nat){w x v y:D}(hv:K10 v=true)(hw:K10 w=false)(z:Z):c70 T (k + 9) j80 [.d v,.d x,.d w,.d y] z=some (.er 0 z) :=
 W.er (o90 (ps:=4) (ns:=5) (b:=x60) rfl rfl (-0) (Wo (c20 k z hv) (We (i30 k z hw) ⟨rfl,b70 z⟩)))
theorem u91(k:Nat){w v:D}(hw:K10 w=false)(z:Z):c70 T (k + 9) i10 [.d w,.d v] z=some (.er 0 z) :=
 W.er (o90 (ps:=2) (ns:=3) (b:=q20) rfl rfl (-0) (We (i30 k z hw) ⟨rfl,b70 z⟩))
theorem m61(k:Nat){w v:D}(hv:K10 v=true)(hw:K10 w=false)(z:Z):c70 T (k + 9) i10 [.d v,.d w] z=some (.er 0 z) :=
 W.er (o90 (ps:=2) (ns:=3) (b:=q20) rfl rfl (-0) (Wo (c20 k z hv) (We (i30 k z hw) ⟨rfl,b70 z⟩)))
theorem A11(k:Nat){x y:D}(g1:d60 m1 ps)(g2:d60 m2 qs)(hx:d40 x m1=false)(z:Z):c70 T (k + 9) j80 [.d (i40 m1 ps),.d x,.d (i40 m2 qs),.d y] z=some (.er 3 z) :=
 W.er (o90 (ps:=4) (ns:=5) (b:=x60) rfl rfl (-0) (Wo (c20 k z g1.web) (Wo (c20 k z g2.web) (We (n80 (k + 3) z hx) ⟨rfl,b70 z⟩))))
theorem J31(k:Nat){x y:D}(g1:d60 m1 ps)(g2:d60 m2 qs)(hx:d40 x m1=true)(hy:d40 y m2=false)(z:Z):c70 T (k + 9) j80 [.d (i40 m1 ps),.d x,.d (i40 m2 qs),.d y] z=some (.er 3 z) :=
 W.er (o90 (ps:=4) (ns:=5) (b:=x60) rfl rfl (-0) (Wo (c20 k z g1.web) (Wo (c20 k z g2.web) (Wo (j10 (k + 3) z hx) (We (n80 (k + 3) z hy) ⟨rfl,b70 z⟩)))))
theorem J41(k:Nat){ns:List Int}{j:Nat}{z:Z}(g1:d60 m1 ps)(g2:d60 m2 qs){bt bw:D}(b1:d40 bt 6=false)(hw:K10 bw=false){o5 o6 o7 o8 o9 o13:Option S}{Q:O->Z->Prop}{E:Nat->Z->Prop}
  (q:∀ (z:Z) (m1 m2:Int) (ps qs:List (Int × Int)) (o5 o6 o7 o8 o9 o10 o11 o12 o13:Option S),Q (.nx (lE ns j m1 m2 ps qs o5 o6 o7 o8 o9 o10 o11 o12 o13)) z) :
  WS (w00 T (k + 37 + 2)) true (bIn 11) (lE ns j m1 m2 ps qs o5 o6 o7 o8 o9 (some (.d (i40 6 grP))) (some (.d bw)) (some (.d bt)) o13) z Q E:=by
 refine z81 (cs:=[3,3,3]) (by show 13 < 14;decide) (k70 (ss:=[.d (i40 6 grP),.d bt]) rfl (We (A11 (k + 28) O10 O10 (x:=.int 6) rfl z) ⟨rfl,rfl⟩) (-0) (k70 (ss:=[.d (i40 6 grP),.d bt]) rfl (We (A11 (k + 28) O10 O10 b1 z) ⟨rfl,rfl⟩) (-0)
  (k70 (ss:=[.d (i40 m2 qs),.d (i40 6 grP)]) rfl (We (J31 (k + 28) O10 g2 (x:=.int 0) (y:=.int m2) rfl (by show(decide (0<=m2)&&decide (m2 < m2))=false;rw[decide_eq_false (show ¬ m2 < m2 by omega),Bool.and_false]) z) ⟨rfl,rfl⟩) (-0) rfl))) ⟨rfl,rfl⟩ ?_
 refine z81 (cs:=[0,0,0,0]) (by show 13 < 14;decide) (k70 (ss:=[.d (i40 6 grP),.d bw,.d bt]) rfl (We (Y71 (k + 28) hw z) ⟨rfl,rfl⟩) (-0) (k70 (ss:=[.d (i40 6 grP),.d bw,.d bt]) rfl (We (J21 (k + 28) O10.web hw z) ⟨rfl,rfl⟩) (-0)
  (k70 (ss:=[.d (i40 6 grP),.d bw]) rfl (We (u91 (k + 28) hw z) ⟨rfl,rfl⟩) (-0) (k70 (ss:=[.d (i40 6 grP),.d bw]) rfl (We (m61 (k + 28) O10.web hw z) ⟨rfl,rfl⟩) (-0) rfl)))) ⟨rfl,rfl⟩ ?_
 exact q _ _ _ _ _ _ _ _ _ _ _ _ _ _
theorem Y81(k:Nat){ns:List Int}{j:Nat}{z:Z}(hz:ZI z)(g1:d60 m1 ps)(g2:d60 m2 qs){p t:Nat}(hp:(p:Int) < m1)(ht:(t:Int) < m2){o5 o8 o9 o10 o11 o12 o13:Option S}{R:O->Z->Prop}{E:Nat->Z->Prop}
  (q:∀ (z:Z) (m1 m2:Int) (ps qs:List (Int × Int)) (o5 o6 o7 o8 o9 o10 o11 o12 o13:Option S),R (.nx (lE ns j m1 m2 ps qs o5 o6 o7 o8 o9 o10 o11 o12 o13)) z) :
  WS (w00 T (k + 37 + 2)) true (bIn 4) (lE ns j m1 m2 ps qs o5 (some (.d (b80 p))) (some (.d (b80 t))) o8 o9 o10 o11 o12 o13) z R E:=by
 have a1:=g1.m1;have a6:=g1.m6;have b1:=g2.m1;have b6:=g2.m6;have l1:=g1.len;have l2:=g2.len;refine(t40 (.fr (nl (nbF m1) m2.toNat)) (lE ns j m1 m2 ps qs o5 (some (.d (b80 p))) (some (.d (b80 t))) (some (.fr (nl (nbF m1) m2.toNat))) o9 o10 o11 o12 o13) ?_ ?_ ?_ :)
 ·refine(a70 (F00 (m:=m2) ∅ ∅) ?_ :)
  refine ip (by rw[É,õ];exact o70 ∅) (N40 (λx=>match x with | .int i=>b80 (nbF m1 i.toNat) | x=>x) (λx hx=>?_) ?_)
  ·obtain⟨i,_,rfl⟩:=Þ.mp hx;refine⟨?_,rfl⟩;show D.int (m1 + (i:Int))=D.int ((m1.toNat + i:Nat):Int);rw[show((m1.toNat + i:Nat):Int)=m1 + i by omega]
  ·rw[À4];exact⟨rfl,rfl⟩
 ·rw[l10 (show l40 (.fr (nl (nbF m1) m2.toNat))=true from F30)];rfl
 refine Wo (A20 (k + 36) (f:=nbF m1) (M:=m1 + m2) g1 g2 z) ?_;refine(m51 (k:=k) (ρ:=lE ns j m1 m2 ps qs o5 (some (.d (b80 p))) (some (.d (b80 t))) (some (.fr (nl (nbF m1) m2.toNat))) o9 o10 o11 o12 o13) (capt:=[3,4]) (a:=.call i10 (c2 v0 v1)) (z:=z) (ss:=[.d (i40 m1 ps),.d (i40 m2 qs)]) (out:=outD (m1 + m2) (rws (nbF m1) ps qs)) (big:=A10 (m1 + m2) ps qs) rfl rfl rfl (T90 (by rw[j00];omega)) ?_ ?_ :)
 ·exact(A30 (k + 28) g1 g2 z (λh=>⟨h,rfl,rfl⟩) λh=>⟨h,rfl,rfl⟩)
 refine(t40 (.fr (nl (nhF m1 p t) m2.toNat)) (lE ns j m1 m2 ps qs o5 (some (.d (b80 p))) (some (.d (b80 t))) (some (.fr (nl (nhF m1 p t) m2.toNat))) o9 o10 o11 o12 o13) ?_ ?_ ?_ :)
 ·exact Wo (J90 (k + 36) g1 g2 p t z) ⟨rfl,rfl⟩
 ·rw[l10 (show l40 (.fr (nl (nhF m1 p t) m2.toNat))=true from F30)];rfl
 have bo:l40 (.d (if A10 (m1 + m2 - 1) ps qs=true then .non else outD (m1 + m2 - 1) (rws (nhF m1 p t) ps qs)))=true:=by
  split
  ·rfl
  ·show((true&&(g20 _&&true))&&(g20 _&&true))=true;rw[n30.1,n30.2.1];rfl
 refine(t40 (.d (if A10 (m1 + m2 - 1) ps qs=true then .non else outD (m1 + m2 - 1) (rws (nhF m1 p t) ps qs))) (lE ns j m1 m2 ps qs o5 (some (.d (b80 p))) (some (.d (b80 t))) (some (.fr (nl (nhF m1 p t) m2.toNat))) (some (.d (if A10 (m1 + m2 - 1) ps qs=true then .non else outD (m1 + m2 - 1) (rws (nhF m1 p t) ps qs)))) o10 o11 o12 o13) ?_ ?_ ?_ :)
 ·exact Wo (A20 (k + 36) (f:=nhF m1 p t) (M:=m1 + m2 - 1) g1 g2 z) ⟨rfl,rfl⟩
 ·rw[l10 bo];rfl
 refine(m51 (k:=k) (ρ:=lE ns j m1 m2 ps qs o5 (some (.d (b80 p))) (some (.d (b80 t))) (some (.fr (nl (nhF m1 p t) m2.toNat))) (some (.d (if A10 (m1 + m2 - 1) ps qs=true then .non else outD (m1 + m2 - 1) (rws (nhF m1 p t) ps qs)))) o10 o11 o12 o13) (capt:=[3,4,6,7]) (a:=.call j80 (c4 v0 v2 v1 v3)) (z:=z) (ss:=[.d (i40 m1 ps),.d (i40 m2 qs),.d (b80 p),.d (b80 t)]) (out:=outD (m1 + m2 - 1) (rws (nhF m1 p t) ps qs)) (big:=A10 (m1 + m2 - 1) ps qs) rfl rfl rfl (T90 (by rw[j00];omega)) ?_ ?_ :)
 ·exact(U00 (k + 28) g1 g2 hp ht z (λh=>⟨h,rfl,rfl⟩) λh=>⟨h,rfl,rfl⟩)
 refine((m21 (k + 35) hz).imp λs z3 ⟨hz3,bw,e,hbw⟩=>?_ :);subst e;refine((j90 (k + 36) 7 hz3 (-0) (-0)).imp λs z4 ⟨hz4,v,e,v1⟩=>?_ :)
 subst e;refine(Y01 (n:=v) (λx=>!d40 x 6) ?_ ?_ ?_ :)
 ·show v < 7;omega
 ·have h9:¬ (((10:Int) ^ (29:Int).toNat) < 6):=by
   have:(10:Int) ^ (29:Int).toNat=100000000000000000000000000000:=by decide
   omega
  show List.all [.int (-1),.bl true,.non,.str "0",.tup [.int 0],.int ((10:Int) ^ (29:Int).toNat),.bl false] (λx=>!d40 x 6)=true;simp[d40,h9]
 ·exact λx hx=>J41 k g1 g2 (by simpa using hx) hbw q
theorem m71(k:Nat){ns:List Int}{j:Nat}{z:Z}(hz:ZI z)(g1:d60 m1 ps)(g2:d60 m2 qs){o5 o6 o7 o8 o9 o10 o11 o12 o13:Option S}{R:O->Z->Prop}{E:Nat->Z->Prop}
  (q:∀ (z:Z) (m1 m2:Int) (ps qs:List (Int × Int)) (o5 o6 o7 o8 o9 o10 o11 o12 o13:Option S),R (.nx (lE ns j m1 m2 ps qs o5 o6 o7 o8 o9 o10 o11 o12 o13)) z) :
  WS (w00 T (k + 37 + 2)) true (bIn 3) (lE ns j m1 m2 ps qs o5 o6 o7 o8 o9 o10 o11 o12 o13) z R E:=by
 have a1:=g1.m1;have a6:=g1.m6;have b1:=g2.m1;have b6:=g2.m6;have l1:=g1.len;have l2:=g2.len;refine((j90 (k + 36) m1 hz ∅ ∅).imp λs z1 ⟨hz1,p,e,hp⟩=>?_ :)
 subst e;refine((j90 (k + 36) m2 hz1 ∅ ∅).imp λs z2 ⟨hz2,t,e,ht⟩=>?_ :)
 subst e;exact Y81 k hz2 g1 g2 hp ht q
theorem J51(k:Nat){ns:List Int}{j:Nat}{z:Z}(hz:ZI z)(g1:d60 m1 ps)(g2:d60 m2 qs){o5 o6 o7 o8 o9 o10 o11 o12 o13:Option S}{R:O->Z->Prop}{E:Nat->Z->Prop}
  (q:∀ (z:Z) (m1 m2:Int) (ps qs:List (Int × Int)) (o5 o6 o7 o8 o9 o10 o11 o12 o13:Option S),R (.nx (lE ns j m1 m2 ps qs o5 o6 o7 o8 o9 o10 o11 o12 o13)) z) :
  WS (w00 T (k + 37 + 2)) true (bIn 2) (lE ns j m1 m2 ps qs o5 o6 o7 o8 o9 o10 o11 o12 o13) z R E:=by
 have b1:=g2.m1;have b6:=g2.m6;have l2:=g2.len;have c1':1<=(if m2 < 2 then m2 else 2)/\(if m2 < 2 then m2 else 2)<=6:=by split <;> omega
 have c2':((if m2 < 2 then m2 else 2).toNat:Int)=if m2 < 2 then m2 else 2:=by split <;> omega
 refine((j90 (k + 36) 2 hz (-0) (-0)).imp λs z1 ⟨hz1,v,e,_⟩=>?_ :)
 subst e;refine ib (b:=(v:Int) == 0) (λ_=>?_) λ_=>m71 k hz1 g1 g2 q;refine(t40 (.fr ((ñ (if m2 < 2 then m2 else 2).toNat).map b80)) (lE ns j m1 m2 ps qs (some (.fr ((ñ (if m2 < 2 then m2 else 2).toNat).map b80))) o6 o7 o8 o9 o10 o11 o12 o13) ?_ ?_ ?_ :)
 ·refine(a70 (F00 (m:=if m2 < 2 then m2 else 2) ∅ ∅) ?_ :)
  refine ip (by rw[É,õ];exact o70 ∅) (N40 (λx=>x) (λx hx=>⟨rfl,rfl⟩) ?_)
  rw[List.map_id'];exact⟨rfl,rfl⟩
 ·rw[l10 (show l40 (.fr ((ñ (if m2 < 2 then m2 else 2).toNat).map b80))=true from F30 (f:=λi=>i))];rfl
 have hl:((((ñ (if m2 < 2 then m2 else 2).toNat).map b80).length:Nat):Int)=if m2 < 2 then m2 else 2:=by rw[É,õ];exact c2'
 refine(t40 (.d (i40 (if m2 < 2 then m2 else 2) (qs.filter λp=>decide (p.2 < if m2 < 2 then m2 else 2)))) (lE ns j m1 (if m2 < 2 then m2 else 2) ps (qs.filter λp=>decide (p.2 < if m2 < 2 then m2 else 2)) (some (.fr ((ñ (if m2 < 2 then m2 else 2).toNat).map b80))) o6 o7 o8 o9 o10 o11 o12 o13) ?_ ?_ ?_ :)
 ·refine ip (by rw[É];exact o70 ∅) (t92 (λx=>match x with | .tup [_,.int b]=>decide (b < ((((ñ (if m2 < 2 then m2 else 2).toNat).map b80).length:Nat):Int)) | _=>false) (λx=>x) (λx hx=>?_) ?_)
  ·obtain⟨p,_,rfl⟩:=Þ.mp hx;exact⟨rfl,rfl,λ_=>⟨rfl,rfl⟩⟩
  ·rw[List.map_id',List.filter_map];refine⟨?_,rfl⟩;show S.d (.tup [.int ((((ñ (if m2 < 2 then m2 else 2).toNat).map b80).length:Nat):Int),.tup ((qs.filter λp=>decide (p.2 < ((((ñ (if m2 < 2 then m2 else 2).toNat).map b80).length:Nat):Int))).map pr)])=_;rw[hl];rfl
 ·rw[l10 (show l40 (.d (i40 (if m2 < 2 then m2 else 2) (qs.filter λp=>decide (p.2 < if m2 < 2 then m2 else 2))))=true from by show(true&&(g20 (List.map pr _)&&true))=true;rw[T10];rfl)];rfl
 exact m71 k hz1 g1 (g2.less c1'.1 c1'.2) q
end
abbrev a62(L:Int):Int:=if (if (8:Int) < L then 8 else L) > 1 then(if (8:Int) < L then 8 else L) else 1
theorem Y91(k:Nat)(ns:List Int):c70 T (k + 40) X31 [.d (.lst (ns.map D.int))] none=some (.ok (.d (.bl true)) none):=by
 refine W.ok (o90 (k:=k + 37) (ps:=1) (ns:=14) (b:=u61) rfl rfl (-0) ?_)
 have hN:0<=a62 ((ns.map D.int).length:Int)/\a62 ((ns.map D.int).length:Int) < 100000:=by
  unfold a62;split <;> (try split) <;> omega
 refine(a70 (F00 (m:=a62 ((ns.map D.int).length:Int)) hN.1 hN.2) ?_ :);refine X40 (λxs ρ z=>(∀ x∈xs,∃ j:Nat,x=.int j)/\∃ o1 o2 o3 o4 o5 o6 o7 o8 o9 o10 o11 o12 o13:Option S,ρ=[some (.d (.lst (ns.map D.int))),o1,o2,o3,o4,o5,o6,o7,o8,o9,o10,o11,o12,o13]) _ ⟨λx hx=>?_,_,_,_,_,_,_,_,_,_,_,_,_,_,rfl⟩ ?_ ?_
 ·obtain⟨i,_,rfl⟩:=Þ.mp hx;exact⟨i,rfl⟩
 ·rintro x r ρ z1 ⟨hx,o1,o2,o3,o4,o5,o6,o7,o8,o9,o10,o11,o12,o13,rfl⟩;obtain⟨j,rfl⟩:=hx x Ó;obtain⟨sn,sb,hz1,hst⟩:=u71 (k + 35) ns j z1;refine Wo hst ?_;refine((J70 (k + 34) hz1 (-0) (by decide:(4:Int)<=8)).imp λs z2 ⟨hz2,m1,ps,e,g1,_⟩=>?_ :)
  subst e;refine((J70 (k + 34) hz2 (-0) (by decide:(5:Int)<=8)).imp λs z3 ⟨hz3,m2,qs,e,g2,_⟩=>?_ :)
  subst e;exact J51 k hz3 g1 g2 λ_ _ _ _ _ _ _ _ _ _ _ _ _ _=>⟨λx hx'=>hx x (Î _ hx'),_,_,_,_,_,_,_,_,_,_,_,_,_,rfl⟩
 ·rintro ρ z1 ⟨_,o1,o2,o3,o4,o5,o6,o7,o8,o9,o10,o11,o12,o13,rfl⟩;refine((A30 (k + 30) (m1:=3) (m2:=3) (U10 (-0) (-0)) (U10 (-0) (-0)) z1 (λh=>by cases h) λ_=>?_) :)
  refine((U00 (k + 30) (m1:=6) (m2:=1) (p:=5) (t:=0) (U10 (-0) (-0)) (U10 (-0) (-0)) (-0) (-0) z1 (λh=>by cases h) λ_=>?_) :)
  exact⟨rfl,rfl⟩
theorem pure:∀ ns:List Int,ns.length<=63->c70 (tabOf rows) 40 X31 [.d (.lst (ns.map D.int))] none=some (.ok (.d (.bl true)) none):=λns _=>by
 rw[u02];exact Y91 0 ns
end K3
namespace K3
open PySem L2 Q
theorem ok:rows.all (K31 (y40 rows) nums)=true:=by decide +kernel
theorem bd:m00 rows:=⟨λ_ _ _ _ _ _ us hl=>by obtain⟨_,rfl⟩:=us1 hl;rfl,
 λ_ _ _ _ _ _ us hl=>by obtain⟨_,_,rfl⟩:=us2 hl;rfl,
 λ_ _ _ _ _ _ us hl=>by obtain⟨_,_,rfl⟩:=us2 hl;rfl,
 λ_ _ _ _ _ _ us hl=>by obtain⟨_,_,rfl⟩:=us2 hl;rfl,
 λ_ _ _ _ _ _ us hl=>by obtain⟨_,rfl⟩:=us1 hl;rfl,
 λ_ _ _ _ _ _ us hl=>by obtain⟨_,rfl⟩:=us1 hl;rfl,
 λ_ _ _ _ _ _ us hl=>by obtain⟨_,_,rfl⟩:=us2 hl;rfl,
 λ_ _ _ _ _ _ us hl=>by obtain⟨_,_,rfl⟩:=us2 hl;rfl,
 λ_ _ _ _ _ _ us hl=>by obtain⟨_,_,rfl⟩:=us2 hl;rfl,
 λ_ _ _ _ _ _ us hl=>by obtain⟨_,_,rfl⟩:=us2 hl;rfl,
 λ_ _ _ _ _ _ us hl=>by obtain⟨_,_,_,_,rfl⟩:=us4 hl;rfl,
 λ_ _ _ _ _ _ us hl=>by obtain⟨_,_,rfl⟩:=us2 hl;rfl,
 λ_ _ _ _ _ _ us hl=>by obtain⟨_,_,_,_,rfl⟩:=us4 hl;rfl,
 λ_ _ _ _ _ _ us hl=>by obtain⟨_,_,rfl⟩:=us2 hl;rfl,
 λ_ _ _ _ _ _ us hl=>by obtain⟨_,_,rfl⟩:=us2 hl;rfl,
 λ_ _ _ _ _ _ us hl=>by obtain⟨_,_,rfl⟩:=us2 hl;rfl,
 λ_ _ _ _ _ _ us hl=>by obtain⟨_,_,rfl⟩:=us2 hl;rfl,
 λ_ _ _ _ _ _ us hl=>by obtain⟨_,_,rfl⟩:=us2 hl;rfl,
 λ_ _ _ _ _ _ us hl=>by obtain⟨_,_,rfl⟩:=us2 hl;rfl,
 λ_ _ _ _ _ _ us hl=>by obtain⟨_,rfl⟩:=us1 hl;rfl,
 λ_ _ _ _ _ _ us hl=>by obtain⟨_,_,_,_,rfl⟩:=us4 hl;rfl,
 λ_ _ _ _ _ _ us hl=>by obtain⟨_,_,_,_,rfl⟩:=us4 hl;rfl,
 λ_ _ _ _ _ _ us hl=>by obtain⟨_,rfl⟩:=us1 hl;rfl,trivial⟩
theorem hQ:a22 (top 42):=⟨E50 (by decide +kernel),by decide +kernel,by decide +kernel,by decide +kernel,⟨_,_,_,_,_,_,_,_,_,_,_,_,_,_,_,_,_,rfl⟩⟩
theorem hR:W21 rows ["law"] [("_law_refused",top 32),("_law_right",top 42)]:=λr hr hlm=>by
 have h:=æ.mp (show rows.all (λr=>!r.lm || (["law"]:List Str).contains r.nm)=true from by decide +kernel) r hr
 rw[hlm] at h;exact⟨Î7.mp h,top 32,88,.head _,rfl,rfl,λ_ _ _ _ _ _ us hl=>by obtain⟨_,rfl⟩:=us1 hl;rfl,top 42,.tail _ (.head _),hQ,λ_ _ _ _ _ _ us hl=>by obtain⟨_,_,rfl⟩:=us2 hl;rfl⟩
def asks:l30:=z40 rows nums ["law"] [("_law_refused",top 32),("_law_right",top 42)]
def prg:Program:=ç
def vq:Program:=view prg [43]
def loose:List Str:=prg.boundNames.filter λx=>!(x == ("law":Str))
def runL(w:ì)(os:OsState):=(x30 PySem.W.through (PySem.W.stepOk 11 (some (.ref 6))) (PySem.W.stepT (denote treeTable) prg w) 20000 (H41 w os) (PySem.W.topStub prg)).map (λs =>
   (PySem.W.staticsOk (Ê5 prg.main.body) (PySem.W.boot_heap w.params) s.abs.heap&&PySem.W.namesBound prg s.abs.heap&&PySem.W.gensDone s.abs&&PySem.W.laidKept (PySem.W.boot_heap w.params) s.abs.heap,
    PySem.W.openSeen vq loose (Ê5 prg.main.body) (λ_=>true) true s.abs,asks.obs s.abs))
def runR(w:ì):=some (true,PySem.W.openGood vq loose,asks.due w)
def _root_.PySem.W.Fast.tw12665885201206945550:PySem.Program:=ç
theorem _root_.PySem.W.Fast.te12665885201206945550:ç=PySem.W.Fast.tw12665885201206945550:=rfl
theorem twins:(λ(_:runL=runL/\runR=runR)=>true) ⟨rfl,rfl⟩=true:=by k_qdec
theorem run_eq:∀ (w:ì) (os:OsState),PySem.W.Fast.tw14075725262101462980 w os=PySem.W.Fast.tw18139657281711212703 w:=λw os=>by kernel_rfl
theorem left:PySem.W.LeftO ç vq loose (λ_=>true) asks.hook.obs asks.hook.val 20000:=H51 (by kernel_rfl) rfl (λ_=>by kernel_rfl) λw os =>
 (congrFun (congrFun PySem.W.Fast.te14075725262101462980 w) os).trans ((run_eq w os).trans (congrFun PySem.W.Fast.te18139657281711212703 w).symm)
end K3
open PySem PySem.W PyProof.Rows
set_option maxRecDepth 100000 in
set_option maxHeartbeats 0 in
theorem PySem.Challenge.cw_tiechances_k85_webs_beside_and_hung_holds : PySem.Challenge.rw_tiechances_k85_webs_beside_and_hung.Holds := by
 w_on;o_law
 refine holds_open (q:=K3.vq) (loose:=K3.loose) (Xt:=λ_=>true) (XP:=λ_ _=>True) (Yf:=K3.asks.hook.obs) (Ya:=K3.asks.hook.val) (YP:=K3.asks.hook.says) K3.left K3.asks.hook.of K3.asks.hook.keeps (λ_ _=>trivial) (λ_ _ _ _ _=>trivial) (by rfl) (by rfl) (by rfl) (λs _=>recFacts_of rfl) rfl (by first | assumption | decide +kernel) (by decide +kernel) ⟨rfl,rfl,rfl,rfl,rfl,by decide +kernel⟩ ?hw ?hc
 case hw=>w_witness2
 case hc=>exact Q.u51 (l:=PySem.Challenge.rw_tiechances_k85_webs_beside_and_hung) (n:=63) (k:=80) (x:="_law_script") rfl (-0) rfl ⟨rfl,by decide,by decide⟩ (Q.H91 (k:=37) (iL:=22) K3.ok K3.bd rfl rfl rfl (-0) K3.hR K3.pure)