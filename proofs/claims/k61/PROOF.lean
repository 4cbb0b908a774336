import PyProof.Rows.All
import Wide.FinOn
import OpenK.KQuick
import KE.KNest
import OpenK.KRaise
import KE.LcSums
import Lean
import PyProof.EqAt
import PyProof.EqKinds
import PyProof.TupleCall
import KE.KSortTup
import OpenK.KOwn
import PyProof.ExcBaseAll.ValueError
import KE.KIsAll
import PyProof.ExcAttrAll.ValueError
import PyProof.NsDelKeeps
import PyProof.RulesAs
import KE.KTryMore
import KE.KLam
import KE.KNestM
import OpenK.KEqL
import PyProof.Rows.EqDataRows
import PyProof.NeKinds
import PyProof.FactsAll.dict
import PyProof.FactsAll.subtypes
import PyProof.ListRange
import PyProof.TupleOfGen
import PyProof.TupleOfSeq
import KE.KTupSum
import PyProof.Rows.SumAny
import PyProof.Rows.SetFrom
import KE.KRevSl
import PyProof.WalksMore
import PyProof.SetRoads
import PySem.Challenge.RW_tiechances_k61_best_papers
set_option tactic.hygienic false
local macro_rules
|`(tactic|let($a,$b,*):=$e)=>do
  let c<-([a].toArray++b.getElems).mapM fun|`(_)=>`(rcasesPat|_)|x=>`(rcasesPat|$(⟨x⟩):ident)
  `(tactic|obtain⟨$[$c],*⟩:=$e)
local macro_rules
|`(#[$x,*])=>`(⟨$x,*⟩)
local macro_rules
|`(∅)=>`(by omega)
|`(-0)=>`(by decide)
local macro_rules
|`(tactic|omega)=>`(tactic|lia)
local macro_rules
|`(↑$x)=>`(some $x)
|`(⇑$x)=>`(List $x)
|`(↥$x)=>`(.ref $x)
|`(~~~$x)=>`(.int $x)
|`(⋯)=>`(by simp)
open Eq renaming symm->_a,trans->_g
open Nat renaming lt_succ_of_le->_b,lt_of_lt_of_eq->_c,le_of_succ_le->_f,le_add_left->_h,min_le_right->_j,sub_lt->_k,le_antisymm->_m,sub_le->_o,lt_of_succ_le->_r,min_le_left->_s,add_lt_add_left->_t,sub_lt_sub_left->_u,succ_pos->_v,lt_add_right->_w,add_right_cancel->_y,sub_eq_zero_of_le->_z,sub_one_lt_of_lt->_A,add_right_comm->_B,le_sub_of_add_le->_H,add_sub_assoc->_I,add_assoc->_J,lt_add_of_pos_right->_K,add_comm->_L,sub_add_cancel->_M,not_le_of_lt->_N,lt_add_left->_O,add_le_add->_P,add_left_cancel->_Q,le_of_lt_add_one->_R
open Int renaming natCast_nonneg->_e,lt_of_lt_of_le->_p,lt_of_le_of_lt->_C,le_of_eq->_D,le_refl->_E,lt_of_not_ge->_G
theorem _x{a b c:Nat}(h:a<b-c):c+a<b:=Nat.add_lt_of_lt_sub' h
theorem _U{a b c:Nat}(h:c+a<=b):a<=b-c:=Nat.le_sub_of_add_le (Nat.add_comm c a▸h)
theorem _q{a b c:Nat}(h:b+c=a):a-b=c:=h▸Nat.add_sub_cancel_left ..
theorem _T{a b:Nat}(k:a<b):a-1<b:=Nat.lt_of_le_of_lt (Nat.sub_le _ _) k
theorem _l{a b c:Nat}(h:c=a+1+b):a+b<c:=h▸Nat.add_lt_add_right (Nat.lt_succ_self _) _
theorem _F{a b:Nat}(h:0<a-b):b<a:=Nat.lt_of_sub_pos h
theorem _d{a b:Nat}(h:¬0<a-b):a<=b:=Nat.le_of_sub_eq_zero (Nat.eq_zero_of_not_pos h)
theorem _W{a:Int}{n m:Nat}(h:n<a)(k:a<=m):n<m:=Int.ofNat_lt.1 (Int.lt_of_lt_of_le h k)
theorem _n{m n:Nat}(h:n<m):(n:Int)<m:=Int.ofNat_lt.2 h
theorem _i{m n:Nat}(h:(n:Int)<m):n<m:=Int.ofNat_lt.1 h
theorem _S{m n:Nat}(h:(n:Int)<=m):n<=m:=Int.ofNat_le.1 h
theorem _X{m n:Nat}(h:(n:Int)=m):n=m:=Int.ofNat.inj h
theorem _V{a b c d:Nat}(h:a+b<=c+d):a+1+b<=c+(d+1):=by omega
open PySem renaming wpAny_bind->À,Value->Ä,wpAny_pure->Æ,Shared->É,Addr->Ê,model->Ü,Expr->Þ,wpAny->â,mem_of_lookup->î,Program->ð,mainGlobals->ñ,World->ú,Scope->ý,Heap->þ,bootBuiltins->Vk,Around->Vl,wpAny_newObj_type->Vn,wpAny_call_entry->Vt,wpAny_holding->Vw,wpAny_callSpecial?_slot->VB,starEach->VC,sizeLine_eq->VD,Paired->VX,wpAny_mono->VY,compareOp->VZ,FuncData->V2,Stmt->V9,wpAny_field->Wh,wpAny_truthy_bool->Wi,rawInt->Wj,swappedStores->Wq,codeAny_builtin->Wr,binaryOp->Wu,call_meets->Wv,foldedSetIterable->Ww,codeAny->Wy,wpAny_setField_rec->WI,wpAny_pyIter_tuple->WJ,builtinsNs->WK,wpAny_loadName_local->WM,cLine->WN,wpAny_standAt->WT,wpAny_storeName_local->W7,wpAny_typeOf->Xe,wpAny_comprehension_free->Xf,codeAny_mono->Xg,Builtin->Xh,Env->Xw,wpAny_Call_Name_kw->Xx,wpAny_assign_Name->XM,wpAny_rule->XQ,assignEach->XR,wpAny_seqItems->X2,wpAny_Name->X9,IsPair->Yd,wpAny_passesOwn->Yg,NameKind->Yh,swapsWith->Yi,Arguments->Yl,wpAny_pyIter_list->Yn,isSubtype_type->YE,wpAny_askSetting->YH,codeAmong->YI,wpAny_binaryOp_repeat_ref->YN,wpAny_newList->YW,wpAny_getItem_list_slice->YX,getItem->Y2,typeIs_int->Y6
open Bool renaming and_eq_true->Á,false_ne_true->ï,not_eq_true'->ò,eq_iff_iff->My,or_eq_true->Wk,true_and->Xr,not_eq_false'->Yb
open PySem.Heap renaming get?_push_of_some->Â,get?_push_size->Ï,lt_size->é,size_push->Xz,get?_update_self->X7,SameBut->Yw,get?_update_other->Y5
open List renaming length_map->Ã,mem_map->Ç,mem_cons_self->È,mem_singleton->Ë,getD_eq_getElem?_getD->Ì,mem_cons_of_mem->Î,mem_append->Ð,length_append->Ó,mem_append_right->Ô,append_assoc->Ø,all_eq_true->Ù,getElem?_set_ne->Ý,getElem?_eq_getElem->ß,map_map->à,size_toArray->á,length_cons->ã,mem_append_left->ä,getElem?_map->å,getElem?_eq_some_iff->ç,take_append_drop->è,pairwise_append->ê,mem_of_getElem?->ë,mem_cons->ì,getElem?_set_self->í,append_nil->ó,length_take->õ,range->ø,mem_range->û,replicate->ÿ,map_append->gV,getElem?_append_right->Vm,not_mem_nil->Vp,length_drop->Vq,length_set->Vs,length_range->Vu,mem_iff_getElem->Vv,map_congr_left->Vx,filter_congr->VG,drop_eq_getElem_cons->VI,getElem?_take->VL,filterMap_cons->VM,contains_iff_mem->VN,mem_cons->VP,contains_iff_mem->VR,all_eq_true->VT,pairwise_singleton->VV,filter_map->VW,mem_of_mem_take->V1,getElem_mem->V3,all_cons->V4,pairwise_cons->V5,getElem?_drop->V6,length_filter_le->Wb,sublist_append_left->Wc,lookup_cons->Wf,mem_of_mem_drop->Wl,eq_nil_of_length_eq_zero->Wx,take_sublist->WB,length_nil->WD,dropLast_concat_getLast->WH,pairwise_lt_range->WQ,range_eq_range'->WW,mem_of_find?_eq_some->WY,getElem?_append_left->WZ,perm_ext_iff_of_nodup->W3,pairwise_map->W8,flatten_cons->W9,map_cons->Xc,length_reverse->Xd,nodup_cons->Xi,mem_filter->Xj,take_of_length_le->Xk,drop_of_length_le->Xl,filter_sublist->Xv,filter_eq_nil_iff->XE,drop_sublist->XF,mem_flatten->XO,length_singleton->XW,length_replicate->XX,lookup->X1,take_length->X3,getElem?_append->Yj,nil_append->Yr,flatten_append->Ys,filter_cons->Yt,mem_reverse->Yu,map_id'->YB,find?_some->YK,zip_cons_cons->YM,contains_eq_mem->YS,getElem?_cons_zero->YT,mem_filter->YU,isEmpty_map->YY,isEmpty_iff->YZ,drop_append->Y1,nodup_append->Y3,filter_eq_nil_iff->Y4
open PySem.W renaming Frag->Å,codeHdIn->Vy,tabObj->W4,kas_item->Xo,kia_one->X0,keepIn->Yc,excIn->Yy
open Nat renaming le_trans->Í,lt_of_lt_of_le->Ñ,le_refl->Ò,ne_of_lt->Û,le_of_lt->so,lt_of_le_of_lt->VA,lt_irrefl->VH,le_add_right->VO,lt_of_le_of_ne->VU,lt_succ_of_lt->Wa,min_eq_left->Wd,zero_le->Wg,le_of_eq->WA,sub_one_lt_of_le->W5,add_le_add_right->W6,add_sub_of_le->Xa,lt_succ_self->Xs,add_le_add_left->XA,succ_le_succ->XC,ne_of_gt->XD,zero_add->X6,pos_of_ne_zero->Yp,not_lt_zero->Yq,not_lt_of_le->YA,le_of_lt_succ->YQ,mul_comm->Y8,le_of_not_lt->Y9
open Option renaming bind_eq_some_iff->Õ,map_eq_some_iff->Ö
open PyProof.Rows renaming wpS_bind->Ú,wpS_pure->æ,slot_tuple_getitem->ô,callWith_type1->Vo,SortSt->VJ,seqObj->V0,wpS_forRange->V8,pendingOf->XJ,SortKind->XN,IntsAre->Yv,wpS_mono->YC,wpS_modify->YD,args_tuple_getitem->Y7
open PySem.Value renaming none->ö,ref->Wn,type->Wz,int->Xq,bool->YJ
open Option.some renaming inj->ù,injEq->XZ
open Ne renaming symm->ü
open False renaming elim->tv
open PySem.NameKind renaming free->Vj,cell->WG
open Int renaming le_of_lt->Vz,le_trans->VS,toNat_natCast->WO,mul_le_mul_of_nonneg_left->Xb,toNat_of_nonneg->Xn,eq_ofNat_of_zero_le->Xp,emod_lt_of_pos->XY,mul_comm->X4,emod_eq_of_lt->YR,emod_nonneg->Y0
open List.Nodup renaming length_le_of_subset->VE
open PySem.Obj renaming mapSeq->VF
open PySem.Challenge renaming pw_tiechances_k61_best_papers->VQ
open PySem.Builtin.Range renaming rangeSize->V7
open List.Perm renaming eq_of_pairwise->Ws,trans->XU,append_left->YV
open Array renaming getElem?_toList->Wt,getElem?_eq_getElem->WU,toList_inj->Ym,length_toList->YO
open PySem.Heap.SameBut renaming update->WC
open PyProof.Rows.SortSt renaming mk'->WL
open List.Pairwise renaming filter->WR
open PySem.AutoSeq1 renaming wpAny_loadPart'->W0,wpAny_loadPart'->Xm
open ForInStep renaming done->W2
open Classical renaming byContradiction->Xu
open PySem.F renaming args_tuple_add_2->Xy,slot_int_rmul->XG,entry_tuple_add->XH,slot_tuple_add->XT,args_tuple_mul_2->X5,entry_tuple_mul->Yk,slot_tuple_iterator_next->Yz,slot_tuple_mul->YF,called_set->YG
open PySem.Str renaming ofString->XB
open PySem.Calls renaming spliced_nil->X8,call_function_entry->Yx,spliced_cons->YL
open PySem.Heap.IsSliceOf renaming new->Ye
open PySem.Builtin.Slice renaming slicePlaces->Yo
theorem Zu{h:Decidable c}(k:c){t e:α}:ite c t e=t:=if_pos k
theorem Zv{h:Decidable c}(k:¬c){t e:α}:ite c t e=e:=if_neg k
theorem Zw[Decidable p]:(decide p)=p:=decide_eq_true_eq
theorem Zx{c:Type u}[BEq c][LawfulBEq c]{a b:c}:a==b↔a=b:=beq_iff_eq
theorem Zy[h:Decidable p](k:p):decide p:=decide_eq_true k
theorem Zz[h:Decidable p](k:¬p):decide p=false:=decide_eq_false k
theorem ZA[h:Decidable p](k:decide p):p:=of_decide_eq_true k
theorem ZC{c:Type u}[BEq c][LawfulBEq c]{a b:c}(h:a==b):a=b:=eq_of_beq h
theorem ZD{h:Decidable p}:decide p=false↔¬p:=decide_eq_false_iff_not
theorem ZE(p:Prop):(p\/False)=p:=or_false p
abbrev Zh:=⇑Nat
abbrev Zi:=⇑Ä
abbrev Zj:=⇑PySem.Str
abbrev Zk:=Option Ê
abbrev Zl:=⇑Int
abbrev Zm:=⇑Þ
abbrev Zn:=Option Ä
abbrev Zo:=Array Ä
abbrev Zp:=⇑Ê
abbrev Zq:=Option Int
abbrev Zr:=Option Bool
abbrev Zs:=Option Nat
abbrev Zt:=Option Þ
local macro_rules
|`(command|def $i:declId $s:optDeclSig $v)=>`(noncomputable def $i:declId $s:optDeclSig $v)
|`(command|abbrev $i:declId $s:optDeclSig $v)=>`(noncomputable abbrev $i:declId $s:optDeclSig $v)
open PySem.Heap (lt_size size_push)
open List (range filterMap_cons mem_cons_self mem_cons_of_mem mem_append_left mem_append_right append_nil of_mem_zip replicate take_sublist mem_of_getElem? length_append length_map length_replicate length_take size_toArray length_drop length_set reverse_cons foldl replicate_succ flatten_cons append_assoc length_singleton lookup_cons toArray push_toArray mem_cons not_mem_nil pairwise_singleton take_append_drop mem_of_mem_take mem_of_mem_drop drop_sublist map_drop map_take length_reverse drop_append drop_of_length_le drop_drop dropLast_concat_getLast take_of_length_le length_cons take_left take_length drop_eq_getElem_cons drop_length take_take eq_nil_of_length_eq_zero nil_append drop_left getLast? map_append cons_append length_range map_toArray pairwise_map zip_cons_cons length_nil map_cons all_eq_true map_congr_left take_succ flatten_append mem_filter mem_range length_filter_le getElem_mem map_id all_nil mapM_cons any_eq_true all_cons pairwise_lt_range range' range_eq_range' range_succ filter_congr contains_iff_mem head? map_nil filter_cons perm_ext_iff_of_nodup nodup_range filter_sublist map_id' filter_map contains_eq_mem eraseIdx_sublist isEmpty_iff filter_eq_nil_iff sublist_append_left any_map foldl_append flatten_nil isEmpty_map filter_append filter)
open PySem.W (hideAll hideAll_get of_hideAll callWith_K cellsFrom_some fnOf codeRec_of ki_setAt ki_setBack krv_pick kitx_none kitx_bool kitx_int kitx_str kitx_tuple kitx_list kitx_dict kitAny kia_tup envX kla_fn kla_eval codeHd_of_K kla_obj mg_none_of mg_of view)
open Array (length_toList toList toList_append toArray_toList)
open Nat (ne_of_gt le_succ succ_le_succ le_of_not_lt add_le_add_left zero_le le_add_right lt_or_ge sub_sub add_sub_of_le min_eq_left not_lt_of_le add_comm sub_le sub_pos_of_lt sub_self sub_one_lt_of_le lt_of_not_le add_le_add_right min_eq_right not_lt_zero le_of_lt_succ lt_succ_self zero_add pos_of_ne_zero add_assoc lt_succ_of_lt ble succ_pos rec)
open Int (mul_one toNat_natCast toNat_of_nonneg emod_nonneg emod_lt_of_pos gcd gcd_comm eq_ofNat_of_zero_le emod_eq_of_lt le_of_dvd natCast_pow mul_nonneg mul_le_mul mul_pos pow_add natAbs_mul one_mul mul_assoc sub_mul)
open PyProof.Rows (lt_int zipApart_new)
open PySem.Builtin.Slice (sliceAdjust slicePlaces sliceApplied)
open PySem.Builtin.Tuple (tupleItemsOf tupleExact tupleCompareSizes tupleTooMany tupleIsExact)
open Bool (and_eq_true false_eq_true not_eq_true' or_eq_true not_eq_false' eq_false_iff)
open Option (getD_none map_some map_eq_some_iff)
open ForInStep (yield)
open PySem.Builtin.SmallTypes (nextOf)
set_option bootstrap.genMatcherCode false
set_option compiler.extract_closed false
set_option genInjectivity false
set_option genSizeOf false
set_option autoImplicit true
set_option relaxedAutoImplicit true
set_option Elab.async false
set_option linter.all false
set_option maxRecDepth 100000
namespace L2
open PySem PySem.Spec PyProof.Rows
abbrev Key:=Sum Int Str
def MJ:Key->Ä->Bool
 |.inl k,v=>Value.isInt k v|.inr x,v=>Ä.isStrOf x v
def SR(w:ú):Key->Int
 |.inl k=>hashInt k|.inr x=>hashStr w x
theorem cN:∀ {k:Key}{v:Ä},MJ k v->(∃ i t,k=Sum.inl i/\v=Xq i t)\/(∃ x t,k=Sum.inr x/\v=Ä.str x t)
 |.inl i,v,h=>by
  let(t,e):=Value.isInt_shape   h;exact .inl #[i,t,rfl,e]
 |.inr x,v,h=>by
  let(t,e):=Value.isStrOf_shape   h;exact .inr #[x,t,rfl,e]
theorem ND(a b:Int):decide ((Sum.inl a:Key)=Sum.inl b)=(a == b):=by grind
theorem NF(a b:Str):decide ((Sum.inr a:Key)=Sum.inr b)=decide (a=b):=by grind
theorem NG(a:Int)(b:Str):decide ((Sum.inl a:Key)=Sum.inr b)=false:=Zz (λq=>nomatch q)
theorem NH(a:Str)(b:Int):decide ((Sum.inr a:Key)=Sum.inl b)=false:=Zz (λq=>nomatch q)
def Dr(c:ð)(w:ú):PySem.KeyKind c w Key where
 is:=MJ
 hash:=SR w
 inj:=λv a b d f=>by
  rcases cN d with ⟨i,t,rfl,rfl⟩ | ⟨x,t,rfl,rfl⟩
  .rcases cN f with ⟨j,u,rfl,e⟩ | ⟨y,u,rfl,e⟩
   .injection e with g _;rw[g]
   .exact nomatch e
  .rcases cN f with ⟨j,u,rfl,e⟩ | ⟨y,u,rfl,e⟩
   .exact nomatch e
   .injection e with g _;rw[g]
 byValue:=λk v h=>by
  rcases cN h with ⟨i,t,rfl,rfl⟩ | ⟨x,t,rfl,rfl⟩ <;> rfl
 pyHash:=λl h=>by
  rcases cN l with ⟨i,t,rfl,rfl⟩ | ⟨x,t,rfl,rfl⟩
  .exact wpAny_pyHash_int h
  .exact wpAny_pyHash_str h
 eqBool:=λm l h=>by
  rcases cN m with ⟨i,t,rfl,rfl⟩ | ⟨x,t,rfl,rfl⟩
  .rcases cN l with ⟨j,u,rfl,rfl⟩ | ⟨y,u,rfl,rfl⟩
   .rw[ND] at h;exact wpAny_eqBool_int h
   .rw[NG] at h;exact SeqAt.EqAt.int_str i t y u _ _ _ _ h
  .rcases cN l with ⟨j,u,rfl,rfl⟩ | ⟨y,u,rfl,rfl⟩
   .rw[NH] at h;exact SeqAt.EqAt.str_int x t j u _ _ _ _ h
   .rw[NF] at h;exact wpAny_eqBool_str h
 «strs»:=λk x t v h=>by
  rcases cN h with ⟨i,u,rfl,e⟩ | ⟨y,u,rfl,e⟩
  .exact nomatch e
  .injection e with g _;subst g;cases v <;> rfl
inductive V where
 |cq | bl (b:Bool) | int (i:Int) | str (x:Str) | byt (b:Array UInt8) | iO (b:UInt64) | ref (a:Addr) | ty (n:String)
 deriving DecidableEq
def RelV:V->Ä->Prop
 |.cq,u=>u=ö|.bl b,u=>u=YJ b|~~~i,u=>∃ t,u=Xq i t|.str x,u=>∃ t,u=Ä.str x t|.byt b,u=>∃ t,u=Ä.bytes b t|.iO b,u=>∃ t,u=Ä.float b t|↥a,u=>u=Wn a|.ty n,u=>u=Wz n
abbrev Vals:⇑V->Zi->Prop:=VX RelV
theorem Vals.length{xs:⇑V}(r:Vals xs us):xs.length=us.length:=VX.length r
theorem Vals.get:∀ {a:⇑V}{c:Zi}{i:Nat}{x:V},Vals a c->a[i]?=↑x->∃ u,c[i]?=↑u/\RelV x u
 |_,_,_,_,.nil,e=>by simp at e|_,_,0,_,.cons r _,e=>by simp at e;subst e;exact#[_,rfl,r]
 |_,_,i + 1,x,.cons _ t,e=>by
  let(u,d,f):=Vals.get   t (e);exact#[u,d,f]
theorem Vals.set{x:V}(r:RelV x u):∀ {a:⇑V}{c:Zi} (i:Nat),Vals a c->Vals (a.set i x) (c.set i u)
 |_,_,_,.nil=>.nil|_,_,0,.cons _ t=>.cons r t|_,_,i + 1,.cons q t=>.cons q (Vals.set r i t)
theorem Vals.append:∀ {a c:⇑V}{d e:Zi},Vals a d->Vals c e->Vals (a++c) (d++e):=by
 intro a c d e h s;induction h with
 |nil=>exact s|cons r _ i=>exact .cons r i
theorem Vals.take:∀ {a:⇑V}{c:Zi} (n:Nat),Vals a c->Vals (a.take n) (c.take n)
 |_,_,0,_=>.nil|_,_,_ + 1,.nil=>.nil|_,_,n + 1,.cons r t=>.cons r (Vals.take n t)
theorem Vals.drop:∀ {a:⇑V}{c:Zi} (n:Nat),Vals a c->Vals (a.drop n) (c.drop n)
 |_,_,0,r=>r|_,_,_ + 1,.nil=>.nil|_,_,n + 1,.cons _ t=>Vals.drop n t
def Ql:Option V->Zn->Prop
 |↑v,↑u=>RelV v u|none,none=>True|_,_=>False
def KV{a:Type}:⇑(a × V)->⇑(a × Ä)->Prop:=VX λ(p:a × V) (q:a × Ä)=>p.1=q.1/\RelV p.2 q.2
def kV:Key->V
 |.inl i=>~~~i|.inr x=>.str x
inductive HO where
 |lst (xs:⇑V)
 |tup (xs:⇑V)
 |dK (kvs:⇑(Key × V)) | dT (kvs:⇑(⇑Key × V))
 |set (S:Int->Bool) (n:Nat)
 |ins (C dx:Addr) (fs:⇑(Str × V))
 |own (x:Addr)
 |xd (fs:⇑(Str × V))
 |met (f x:Addr)
 |Kh (lo hi:Int)
 |frz (o:Obj) (u:HO)
 |dk (ps:Array Value)
 |ext (φ:Heap->Prop)
abbrev Hp:=Ê->Option HO
def upd(H:Hp)(a:Ê)(o:HO):Hp:=λb=>if b=a then ↑o else H b
theorem aB:upd H a o a=↑o:=by delta upd;rw[Zu rfl]
theorem ah{H:Hp}{a b:Ê}(h:b≠a):upd H a o b=H b:=by delta upd;rw[Zv h]
theorem aD{H:Hp}{a b:Ê}{o:HO}(h:H a=↑o)(c:H b=none):a≠b:=by
 intro e;simp_all
section
variable (P:ð) (w:ú)
def cO(H:Hp)(h:þ)(a:Ê):HO->Prop
 |.lst c=>c.length<=sizeLine/\∃ (d:Zi) (n:Nat),Vals c d/\h.get? a=↑{ cls:=.type "list",data:=.seq d.toArray n }|.tup c=>c.length<=sizeLine/\∃ d:Zi,Vals c d/\IsTup h a d.toArray|.dK e=>e.length<=sizeLine/\(a == sysModules)=false/\∃ g,KV e g/\h.DictOf (Dr P w) a g
 |.dT e=>e.length<=sizeLine/\(a == sysModules)=false/\∃ c:⇑(⇑Key × Ê × Ä),
   VX (λ(p:⇑Key × V) (q:⇑Key × Ê × Ä)=>p.1=q.1/\H q.2.1=↑(.tup (p.1.map kV))/\RelV p.2 q.2.2) e c /\
   ∃ o i j,h.get? a=↑o/\o.ExactDict/\o.data=.dict i j/\i.toList=c.map (entryOfKey (tupleKind (Dr P w)))/\(c.map (·.1)).Nodup
 |.set S n=>h.SetOf (intKind P w) a S n
 |.ins C k fs=>H k=↑(.own a)/\fs.length<=1000/\k≠a/\h.get? a=↑(PySem.W.instObj C k) /\
   ∃ l,h.Ns1 k l/\(∀ f,Ql (fs.lookup f) (l f))/\PySem.Within l (fs.map (·.1))
 |.own _=>∃ o,h.get? a=↑o|.xd fs=>∃ l,h.Ns1 a l/\∀ f,Ql (fs.lookup f) (l f)|.Kh m r=>∃ t u v,h.get? a=↑{ cls:=.type "range",data:=.fields [.int m t,.int r u,.int 1 v].toArray }|.frz o u=>h.get? a=↑o/\cO H h a u|.dk s=>h.get? a=↑{ cls:=.none,data:=.fields s }|.met f x=>h.get? a=↑(PySem.W.methodObj ↥f ↥x)|.ext y=>y h/\(∃ o,h.get? a=↑o)/\∀ z A:þ,y z->(∀ o,z.get? a=↑o->A.get? a=↑o)->y A
def jV(H:Hp)(h:þ):Prop:=∀ a o,H a=↑o->cO P w H h a o
end
section
variable {P:ð}{w:ú}{H H':Hp}{h h':þ}{a:Ê}{o:HO}
theorem cO.lt(x:cO P w H h a o):a < h.objs.size:=by
 cases o with
 |lst c=>let(_,_,_,_,e):=x;exact é e
 |tup c=>let(_,_,_,p):=x;exact p.lt
 |dK d=>let(_,_,_,_,o,_,_,e,_):=x;exact é e
 |dT d=>let(_,_,_,_,o,_,_,e,_):=x;exact é e
 |set S n=>let(o,_,_,_,e,_):=x;exact é e
 |ins C g fs=>let(_,_,_,e,_):=x;exact é e
 |own y=>let(_,e):=x;exact é e
 |xd fs=>obtain⟨_,⟨_,_,_,e,_⟩,_⟩:=x;exact é e
 |Kh i j=>let(_,_,_,e):=x;exact é e
 |frz k u=>let(e,_):=x;exact é e
 |dk l=>exact é (show h.get? a=↑_ from x)|met f y=>exact é (show h.get? a=↑_ from x)|ext m=>obtain⟨_,⟨_,e⟩,_⟩:=x;exact é e
theorem VX.An{F G:α->β->Prop}:∀ {c:⇑α}{d:⇑β},VX F c d->(∀ a b,F a b->G a b)->VX G c d:=by
 intro c d h f;induction h with
 |nil=>exact .nil|cons r _ i=>exact .cons (f _ _ r) i
theorem cO.jv(x:cO P w H h a o)(k:∀ b u,(b=a\/H b=↑(.own a))->h.get? b=↑u->h'.get? b=↑u)
  (g:∀ b,H b=↑(.own a)->H' b=↑(.own a)) (i:∀ b j,H b=↑(.tup j)->H' b=↑(.tup j)):cO P w H' h' a o:=by
 induction o with
 |lst j=>let(z,l,n,r,e):=x;exact#[z,l,n,r,k _ _ (.inl rfl) e]
 |tup j=>let(z,l,r,m,e,c):=x;exact#[z,l,r,m,k _ _ (.inl rfl) e,c]
 |dK s=>let(z,y,A,r,m,B,E,e,c):=x;exact#[z,y,A,r,m,B,E,k _ _ (.inl rfl) e,c]
 |dT s =>
  let(z,y,j,r,m,B,E,e,c):=x;exact#[z,y,j,VX.An r λp q z=>#[z.1,i _ _ z.2.1,z.2.2],m,B,E,k _ _ (.inl rfl) e,c]
 |set S n=>let(m,B,E,t,e,c):=x;exact#[m,B,E,t,k _ _ (.inl rfl) e,c]
 |ins C F fs =>
  obtain⟨d,z,ne,e,G,⟨I,B,E,J,c⟩,r⟩:=x;exact#[g _ d,z,ne,k _ _ (.inl rfl) e,G,#[I,B,E,k _ _ (.inr d) J,c],r]
 |own y=>let(m,e):=x;exact#[m,k _ _ (.inl rfl) e]
 |xd fs=>obtain⟨G,⟨I,B,E,e,c⟩,r⟩:=x;exact#[G,#[I,B,E,k _ _ (.inl rfl) e,c],r]
 |Kh K L=>let(t,u,v,e):=x;exact#[t,u,v,k _ _ (.inl rfl) e]
 |frz m u N=>let(e,q):=x;exact#[k _ _ (.inl rfl) e,N q]
 |dk U =>
  exact k a _ (.inl rfl) x
 |met f y =>
  exact k a _ (.inl rfl) x
 |ext X=>obtain⟨p,⟨o,e⟩,Y⟩:=x;exact#[Y _ _ p λo q=>k _ _ (.inl rfl) q,#[o,k _ _ (.inl rfl) e],Y]
theorem jV.lt(x:jV P w H h)(e:H a=↑o):a < h.objs.size:=(x a o e).lt
theorem jV.fresh(x:jV P w H h)(e:h.objs.size<=a):H a=none:=by
 cases q:H a with
 |none=>rfl|some u=>exact absurd (Ñ (x.lt q) e) (VH _)
theorem jV.kept(x:jV P w H h)(k:∀ b u,h.get? b=↑u->h'.get? b=↑u):jV P w H h':=λa o e =>
 (x a o e).jv (λb u _ q=>k b u q) (λ_ q=>q) λ_ _ q=>q
theorem jV.laid(x:jV P w H h)(k:∀ b u,h.get? b=↑u->h'.get? b=↑u)(d:h.objs.size<=a)(new:cO P w (upd H a o) h' a o):jV P w (upd H a o) h':=λb u e=>by
 have f:=x.fresh d;by_cases g:b=a
 .subst g;rw[aB] at e;cases e;exact new
 .rw[ah g] at e;exact(x b u e).jv (λc v _ q=>k c v q) (λc q=>by rw[ah (aD q f)];exact q) λc i q=>by rw[ah (aD q f)];exact q
end
def Rd(H:Hp)(a:Ê)(u:HO):Prop:=H a=↑u\/∃ o,H a=↑(.frz o u)
theorem Rd.ok{P:ð}{w:ú}{a:Ê}(r:Rd H a u)(x:jV P w H h):cO P w H h a u:=by
 rcases r with r | ⟨o,r⟩
 .exact x a u r
 .let(_,q):=x a _ r;exact q
def NI:Option HO->Prop
 |↑(.lst _)=>True|↑(.dK _)=>True|↑(.dT _)=>True|↑(.set _ _)=>True|↑(.ins _ _ _)=>True|↑(.ext _)=>True|_=>False
section
variable {P:ð}{w:ú}{H:Hp}{h h':þ}{x e:Ê}{o':HO}
theorem jV.write(ok:jV P w H h)(a:NI (H x))(d:e=x\/H e=↑(.own x))(k:∀ b u,b≠e->h.get? b=↑u->h'.get? b=↑u)(f:∃ u,h'.get? e=↑u)
  (new:cO P w (upd H x o') h' x o'):jV P w (upd H x o') h':=λb u q=>by
 have g:∀ c y,H c=↑(.own y)->c≠x:=λc y r z=>by subst z;rw[r] at a;exact a
 by_cases l:b=x
 .subst l;rw[aB] at q;cases q;exact new
 .rw[ah l] at q;by_cases m:b=e
  .have n:H b=↑(.own x):=by simp_all
   rw[q] at n;cases n;let(v,o):=f;exact#[v,by rw[m];exact o]
  .refine(ok b u q).jv (λc v p r=>k c v ?_ r) (λc r=>by rw[ah (g c b r)];exact r) λc j r=>by rw[ah ((λc j r z=>by subst z;rw[r] at a;exact a) c j r)];exact r
   rcases p with rfl | p
   .exact m
   .rintro rfl;rcases d with z | z
    .exact g c b p z
    .rw[p] at z;cases z;exact l rfl
end
structure Un(fs ex:⇑Addr)(H H':Hp)(h h':Heap):Prop where
 keep:∀ b o,h.get? b=↑o->H b=none->b ∉ fs->b ∉ ex->h'.get? b=↑o
 slot:∀ b o,h.get? b=↑o->H b=none->b∈fs->b ∉ ex->∃ sl,h'.get? b=↑{ o with slots:=sl }
 free:∀ b o,h.get? b=↑o->H b=none->b ∉ ex->H' b=none
 there:∀ b o,h.get? b=↑o->b ∉ ex->∃ o',h'.get? b=↑o'
 tups:∀ b xs,H b=↑(.tup xs)->H' b=↑(.tup xs)
 frzs:∀ b o u,H b=↑(.frz o u)->H' b=↑(.frz o u)
 tbls:∀ b ps,H b=↑(.dk ps)->∃ more,H' b=↑(.dk (ps++more))
section
variable {fs fs' ex ex':Zp}{H H1 H2:Hp}{h h1 h2 h':þ}{a x e:Ê}{o:HO}
theorem Un.any(u:Un fs ex H H1 h h1){b:Ê}(q:h.get? b=↑c)(n:H b=none)(d:b ∉ ex):∃ sl,h1.get? b=↑{ c with slots:=sl }:=by
 by_cases f:b∈fs
 .exact u.slot b c q n f d
 .exact#[c.slots,u.keep b c q n f d]
theorem Un.trans(a:Un fs ex H H1 h h1)(b:Un fs ex H1 H2 h1 h2):Un fs ex H H2 h h2 where
 keep:=λc ob q n hc hx=>b.keep c ob (a.keep c ob q n hc hx) (a.free c ob q n hx) hc hx
 slot:=λc ob q n hc hx=>by
  let(sl,e1):=a.slot c ob q n hc hx;let(sl',e2):=b.slot c _ e1 (a.free c ob q n hx) hc hx;exact#[sl',e2]
 free:=λc ob q n hx=>by
  let(o',e1):=a.there c ob q hx;exact b.free c o' e1 (a.free c ob q n hx) hx
 there:=λc ob q hx=>by
  let(o',e1):=a.there c ob q hx;exact b.there c o' e1 hx
 tups:=λc xs q=>b.tups c xs (a.tups c xs q)
 frzs:=λc ob xs q=>b.frzs c ob xs (a.frzs c ob xs q)
 tbls:=λc ps q=>by
  let(m1,e1):=a.tbls c ps q;let(m2,e2):=b.tbls c _ e1;exact#[m1++m2,by rw[e2,Array.append_assoc]]
theorem Un.kept(k:∀ b u,h.get? b=↑u->h'.get? b=↑u):Un fs ex H H h h' :=
 #[λb c q _ _ _=>k b c q,λb c q _ _ _=>#[c.slots,k b c q],λ_ _ _ n _=>n,λb c q _=>#[c,k b c q],λ_ _ q=>q,λ_ _ _ q=>q,λ_ d q=>#[[].toArray,by simp_all]]
theorem Un.refl:Un fs ex H H h h:=Un.kept λ_ _ q=>q
theorem Un.laid(k:∀ b u,h.get? b=↑u->h'.get? b=↑u)(hp:h.objs.size<=a)(hn:H a=none):Un fs ex H (upd H a o) h h' where
 keep:=λb u q _ _ _=>k b u q
 slot:=λb u q _ _ _=>#[u.slots,k b u q]
 free:=λb u q n _=>by rw[ah (Û (Ñ (é q) hp))];exact n
 there:=λb u q _=>#[u,k b u q]
 tups:=λb xs q=>by rw[ah (aD q hn)];exact q
 frzs:=λb u xs q=>by rw[ah (aD q hn)];exact q
 tbls:=λb ps q=>#[[].toArray,by rw[ah (aD q hn),q];simp]
theorem Un.write(c:NI (H x))(d:e=x\/H e=↑(.own x))(k:∀ b u,b≠e->h.get? b=↑u->h'.get? b=↑u)(f:∃ u,h'.get? e=↑u):Un fs ex H (upd H x o) h h':=by
 have g:∀ b,H b=none->b≠x:=λb n z=>by subst z;rw[n] at c;exact c
 have i:∀ b,H b=none->b≠e:=λb n z=>by simp_all
 have j:∀ b u,H b=↑u->¬ NI ↑u->b≠x:=λb u q l z=>by simp_all
 refine#[λb u q n _ _=>k b u (i b n) q,λb u q n _ _=>#[u.slots,k b u (i b n) q],λb u q n _=>by rw[ah (g b n)];exact n,λb u q _=>?_,
  λb m q=>by rw[ah (j b _ q λz=>z)];exact q,λb u m q=>by rw[ah (j b _ q λz=>z)];exact q,λb p q=>#[[].toArray,by rw[ah (j b _ q λz=>z),q];simp]]
 by_cases r:b=e
 .subst r;exact f
 .exact#[u,k b u r q]
theorem Un.mono(u:Un fs ex H H1 h h1)(hs:∀ b∈fs,b∈fs')(c:∀ b∈ex,b∈ex'):Un fs' ex' H H1 h h1 :=
 #[λb d q n f g=>u.keep b d q n (λz=>f (hs b z)) λz=>g (c b z),λ_ _ q n _ g=>u.any q n λz=>g (c _ z),λb d q n g=>u.free b d q n λz=>g (c b z),λb d q g=>u.there b d q λz=>g (c b z),u.tups,u.frzs,u.tbls]
end
def MK(h:þ)(H:Hp):⇑Addr:=(ø h.objs.size).filter λa=>(H a).isSome
def ux(h:þ)(H:Hp):Heap:=hideAll h (MK h H)
theorem xg(h:þ)(H:Hp):(ux h H).objs.size=h.objs.size:=PySem.W.hideAll_size _ _
theorem jw{b:Ê}(e:h.get? b=↑o)(n:H b=none):(ux h H).get? b=↑o :=
 hideAll_get _ e λa=>by
  have q :=(Xj.mp a).2;rw[n] at q;simp at q
theorem Ds{b:Ê}(e:(ux h H).get? b=↑o):h.get? b=↑o/\H b=none:=by
 have a :=of_hideAll _ e;refine#[a,?_];cases q:H b with
 |none=>rfl
 |some x =>
  have z:(ux h H).get? b=none:=PySem.W.hideAll_none _ (Xj.mpr #[û.mpr (é a),by simp[q]]);rw[z] at e;cases e
structure Mod(K:PySem.W.Frag)(mg:Str->Option Value)(base:Heap):Prop where
 kin:K.In base
 glob:base.Ns mainGlobals mg
 blt:∃ mb,base.Ns builtinsNs mb/\∀ x:Str,x≠"__name__"->mb x=bootBuiltins x
 nolimit:base.NoLimit
structure Cx where
 prog:Program
 w:World
 K:PySem.W.Frag
 mg:Str->Option Value
 base:Heap
 A:Around
 N:⇑Str
 s₀:Shared
 H₀:Hp
 env:Env
 outer:⇑Env
 stack:⇑Env
 ex:⇑Addr
 fn:Str->Bool
 calm:Bool
 pn:⇑(Addr × Obj)
 xe:Value->Shared->Prop
def fw(l:⇑Env):⇑Addr:=l.filterMap (·.frame)
abbrev Cx.fs(X:Cx):⇑Addr:=fw X.outer
def Fx(a:ý)(x:Str):Prop:=a.names.lookup x=↑.local\/a.names.lookup x=↑.cell\/a.names.lookup x=↑.free
def Loc(a:ý)(x:Str):Prop:=a.names.lookup x=↑.local\/a.names.lookup x=↑.cell
def Look(a:Env)(h:þ)(m:Str->Zn)(x:Str)(u:Ä):Prop :=
 (a.kindOf x=↑.local/\m x=↑u)\/((a.kindOf x=↑.cell\/a.kindOf x=↑.free)/\∃ c,a.cells.lookup x=↑c/\h.IsCell c ↑u)
structure Cx.Ok(X:Cx):Prop where
 mod:Mod X.K X.mg X.base
 kind:X.env.scope.kind=.function
 glob:X.env.globals=mainGlobals
 blt:X.env.builtins=builtinsNs
 above:X.s₀.heap.objs.size<=X.env.locals
 inj:∀ x y c,X.env.cells.lookup x=↑c->X.env.cells.lookup y=↑c->x=y
 has:∀ x,(X.env.kindOf x=↑.cell\/X.env.kindOf x=↑.free)->∃ c,X.env.cells.lookup x=↑c
 cab:∀ x c,X.fn x=true->X.env.cells.lookup x=↑c->X.s₀.heap.objs.size<=c
 hd:X.calm=true->X.A.handled=none
 frames:X.A.frames=↑X.stack
 stk:X.stack=X.outer\/(X.stack=X.env::X.outer/\X.env.frame=↑X.env.locals)
 exf:∀ b∈X.ex,b≠X.env.locals/\∀ x c,X.env.cells.lookup x=↑c->c≠b
 bs:∀ b o,X.base.get? b=↑o->X.s₀.heap.get? b=↑o/\X.H₀ b=none
 bsz:X.base.objs.size<=X.s₀.heap.objs.size
 noex:∀ b o,X.base.get? b=↑o->b ∉ X.ex
 exfs:∀ b∈X.ex,b ∉ X.fs
 ll:X.s₀.heap.FunFrames X.base X.outer
 frf:∀ b∈X.fs,X.H₀ b=none
structure Inv(X:Cx)(aa:⇑(Addr × Obj))(σ:⇑(Option V))(H:Hp)(s:Shared):Prop where
 ok:X.Ok
 os:s.os=X.s₀.os
 bare:AllBare s.gens
 base:Un X.fs X.ex X.H₀ H X.s₀.heap s.heap
 loc:∃ m,s.heap.Ns X.env.locals m/\∀ (i:Nat) (x:Str) (v:V),X.N[i]?=↑x->σ[i]?=↑↑v->Fx X.env.scope x->∃ u,RelV v u/\Look X.env s.heap m x u
 cell:∀ x c,X.env.cells.lookup x=↑c->∃ v,s.heap.IsCell c v
 free:H X.env.locals=none
 freeC:∀ x c,X.env.cells.lookup x=↑c->H c=none
 pin:∀ p∈X.pn++aa,s.heap.get? p.1=↑p.2/\H p.1=none/\p.1≠X.env.locals/\p.1 ∉ X.fs/\∀ v,p.2.data≠.cell v
 aX:jV X.prog X.w H s.heap
 len:σ.length=X.N.length
section
variable {X:Cx}{aa:⇑(Ê × Obj)}{σ:⇑(Option V)}{H H':Hp}{s:É}{h':þ}
theorem Cx.Ok.SU(ok:X.Ok){b:Ê}(e:X.base.get? b=↑o):b ∉ X.fs:=λa=>by
 have:=(ok.ll.mem a).1
 grind
theorem Inv.bs(I:Inv X aa σ H s):∀ b o,X.base.get? b=↑o->s.heap.get? b=↑o/\H b=none:=λb o e =>
 #[I.base.keep b o (I.ok.bs b o e).1 (I.ok.bs b o e).2 (I.ok.SU e) (I.ok.noex b o e),I.base.free b o (I.ok.bs b o e).1 (I.ok.bs b o e).2 (I.ok.noex b o e)]
theorem Inv.bk(I:Inv X aa σ H s):∀ b o,X.base.get? b=↑o->s.heap.get? b=↑o:=λb o e=>(I.bs b o e).1
theorem Inv.mod(I:Inv X aa σ H s):Mod X.K X.mg X.base:=I.ok.mod
theorem Inv.mW(I:Inv X aa σ H s):X.K.In s.heap:=I.ok.mod.kin.keeps I.bk
theorem Inv.lt(I:Inv X aa σ H s):X.env.locals < s.heap.objs.size:=let #[_,a,_]:=I.loc;a.lt
theorem Inv.sz(I:Inv X aa σ H s):X.s₀.heap.objs.size<=s.heap.objs.size:=Í I.ok.above (so I.lt)
theorem Inv.Qm(I:Inv X aa σ H s)(h:s.heap.objs.size<=a):a ∉ X.fs:=λc=>by
 let(_,o,d,_):=I.ok.ll.mem c;exact absurd (Ñ (é d) (Í I.sz h)) (VH _)
theorem Inv.Fy(I:Inv X aa σ H s):∀ x c,X.env.cells.lookup x=↑c->c≠X.env.locals:=λx c e z=>by
 let(v,o,a,d):=I.cell x c e;obtain⟨m,⟨f,g,h,i,j,_⟩,_⟩:=I.loc
 grind
theorem Inv.ll(I:Inv X aa σ H s):s.heap.FunFrames X.base X.outer:=by
 exact (by
  intro l
  induction l with
  |nil=>intro _ _;trivial
  |cons a r c =>
   intro hs d;obtain⟨f,⟨L,o,g,h,i,j⟩,k⟩:=d;have m :=hs L (by delta fw;rw[VM,g];exact È)
   let(sl,e):=I.base.slot L o i (I.ok.frf L m) m λz=>I.ok.exfs L z m;exact#[f,#[L,_,g,h,e,j],c (λb n=>hs b (by delta fw;rw[VM,g];exact Î _ n)) k]:∀ (l:⇑Env),(∀ b∈fw l,b∈X.fs)->X.s₀.heap.FunFrames X.base l->s.heap.FunFrames X.base l) X.outer (λ_ n=>n) I.ok.ll
theorem Inv.stack(I:Inv X aa σ H s):s.heap.FunFrames X.base X.stack:=by
 rcases I.ok.stk with e | ⟨e,a⟩
 .rw[e];exact I.ll
 .rw[e];let(m,c,_):=I.loc;refine .cons (by rw[I.ok.kind];decide) a c ?_ I.ll
  exact Heap.get?_none_of_le (Í I.ok.bsz I.ok.above)
theorem Inv.Cb(I:Inv X aa σ H s):∀ b∈fw X.stack,b∈X.env.locals::X.fs:=λb a=>by
 rcases I.ok.stk with e | ⟨e,c⟩
 .simp_all
 .rw[e] at a;unfold fw at a;rw[VM,c] at a;exact a
theorem Inv.gU(I:Inv X aa σ H s):∀ b∈fw X.stack,H b=none:=λb a=>by
 rcases ì.mp (I.Cb b a) with e | a
 .rw[e];exact I.free
 .let(_,o,c,_):=I.ok.ll.mem a;exact I.base.free b o c (I.ok.frf b a) λz=>I.ok.exfs b z a
theorem Inv.step{g':Array GenState}{d':Drawn}{ch:Zp}(I:Inv X aa σ H s)
  (a:∀ b∈ch,(b∈X.ex\/X.s₀.heap.objs.size<=b)/\b≠X.env.locals/\(∀ x c,X.env.cells.lookup x=↑c->c≠b)/\∀ p∈X.pn++aa,p.1≠b)
  (keep:∀ b o,b≠X.env.locals->b ∉ X.fs->b ∉ ch->s.heap.get? b=↑o->H b=none->h'.get? b=↑o)
  (f:∀ b o,b≠X.env.locals->b∈X.fs->b ∉ ch->s.heap.get? b=↑o->H b=none->∃ sl,h'.get? b=↑{ o with slots:=sl }) (free:∀ b o,b ∉ ch->s.heap.get? b=↑o->H b=none->H' b=none)
  (there:∀ b o,b ∉ ch->s.heap.get? b=↑o->∃ g,h'.get? b=↑g)
  (h:∀ b j,H b=↑(.tup j)->H' b=↑(.tup j)) (y:∀ b o u,H b=↑(.frz o u)->H' b=↑(.frz o u)) (A:∀ b B,H b=↑(.dk B)->∃ C,H' b=↑(.dk (B++C)))
  (ns:∀ m,s.heap.Ns X.env.locals m->h'.Ns X.env.locals m) (aX:jV X.prog X.w H' h') (hg:AllBare g') :
  Inv X aa σ H' { s with heap:=h',gens:=g',drawn:=d',toks:=t' }:=by
 have E:∀ b o,X.s₀.heap.get? b=↑o->b≠X.env.locals:=λb o e=>Û (Ñ (é e) I.ok.above);have F:∀ b o,X.s₀.heap.get? b=↑o->b ∉ X.ex->b ∉ ch:=λb o e G J=>by
  rcases (a b J).1 with z | z
  .exact G z
  .exact absurd (Ñ (é e) z) (VH _)
 have K:∀ x c,X.env.cells.lookup x=↑c->∀ v,s.heap.IsCell c v->h'.IsCell c v:=λx c e v #[o,L,N]=>by
  have P :=λz=>(a c z).2.2.1 x c e rfl;by_cases hc:c∈X.fs
  .let(sl,q):=f c o (I.Fy x c e) hc P L (I.freeC x c e);exact#[_,q,N]
  .exact#[o,keep c o (I.Fy x c e) hc P L (I.freeC x c e),N]
 refine#[I.ok,I.os,hg,#[λb o e n J G=>?_,λb o e n J G=>?_,λb o e n G=>?_,λb o e G=>?_,λb j e=>h b j (I.base.tups b j e),λb o j e=>y b o j (I.base.frzs b o j e),λb B e=>?_],?_,λx c e=>?_,?_,λx c e=>?_,λp hp=>?_,aX,I.len]
 .exact keep b o (E b o e) J (F b o e G) (I.base.keep b o e n J G) (I.base.free b o e n G)
 .let(sl,U):=I.base.slot b o e n J G;let(sl',Y):=f b _ (E b o e) J (F b o e G) U (I.base.free b o e n G);exact#[sl',Y]
 .let(g,U):=I.base.there b o e G;exact free b g (F b o e G) U (I.base.free b o e n G)
 .let(g,U):=I.base.there b o e G;exact there b g (F b o e G) U
 .let(m1,U):=I.base.tbls b B e;let(m2,Y):=A b _ U;exact#[_,by rw[Y,Array.append_assoc]]
 .let(m,hn,hl):=I.loc;refine#[m,ns m hn,λi x v U Y e3=>?_];let(u,r,l):=hl i x v U Y e3;refine#[u,r,?_];rcases l with l | ⟨k,c,e,z⟩
  .exact .inl l
  .exact .inr #[k,c,e,K x c e _ z]
 .let(v,z):=I.cell x c e;exact#[v,K x c e v z]
 .obtain⟨m,⟨o,_,_,L,_⟩,_⟩:=I.loc;exact free _ o (λz=>(a _ z).2.1 rfl) L I.free
 .let(v,o,L,N):=I.cell x c e;exact free c o (λz=>(a c z).2.2.1 x c e rfl) L (I.freeC x c e)
 .let(e,n,ne,nf,d):=I.pin p hp;have P:p.1 ∉ ch:=λz=>(a p.1 z).2.2.2 p hp rfl;exact#[keep p.1 p.2 ne nf P e n,free p.1 p.2 P e n,ne,nf,d]
theorem Inv.un(I:Inv X aa σ H s)(u:Un X.fs [] H H' s.heap h')(a:jV X.prog X.w H' h'):Inv X aa σ H' { s with heap:=h',toks:=t' }:=by
 obtain⟨m,⟨o,c,d,f,r⟩,_⟩:=id I.loc;let(sl,g):=u.any f I.free ⋯
 exact I.step   (ch:=[]) (λ_ z=>nomatch z) (λb o _ h _ e n=>u.keep b o e n h ⋯) (λb o _ h _ e n=>u.slot b o e n h ⋯) (λb o _ e n=>u.free b o e n ⋯) (λb o _ e=>u.there b o e ⋯) u.tups u.frzs u.tbls (λi j=>by
  let(k,l,p,q,v):=j;rw[f] at q;cases q;exact#[_,l,p,g,v]) a I.bare
theorem Inv.call{ch:Zp}(I:Inv X aa σ H s)(u:Un (fw X.stack) ch H H' s.heap h')(a:jV X.prog X.w H' h')(d:AllBare g')
  (f:∀ b∈ch,(b∈X.ex\/X.s₀.heap.objs.size<=b)/\b≠X.env.locals/\(∀ x c,X.env.cells.lookup x=↑c->c≠b)/\∀ p∈X.pn++aa,p.1≠b) :
  Inv X aa σ H' { s with heap:=h',gens:=g',drawn:=d',toks:=t' }:=by
 obtain⟨m,⟨o,g,h,i,r⟩,_⟩:=id I.loc;let(sl,j):=u.any i I.free λz=>(f _ z).2.1 rfl;exact I.step  f (λb o j k l e n=>u.keep b o e n (λz=>(ì.mp (I.Cb b z)).elim j k) l) (λb o _ _ l e n=>u.any e n l) (λb o l e n=>u.free b o e n l) (λb o l e=>u.there b o e l) u.tups u.frzs u.tbls (λq v=>by
  let(y,A,B,C,E):=v;rw[i] at C;cases C;exact#[_,A,B,j,E]) a d
theorem Inv.turned{t':Nat}{it:Ê}(I:Inv X aa σ H s)(k:∀ b o,b≠it->s.heap.get? b=↑o->h'.get? b=↑o)(a:H it=none)(d:it≠X.env.locals)
  (f:it∈X.ex\/X.s₀.heap.objs.size<=it) (g:∀ x c,X.env.cells.lookup x=↑c->c≠it) (h:∀ p∈X.pn++aa,p.1≠it):Inv X aa σ H { s with heap:=h',toks:=t' }:=by
 have i:∀ b u,H b=↑u->b≠it:=λb u e z=>by simp_all
 refine I.step   (ch:=[it]) (λb j=>?_) (λb o _ _ l e _=>k b o (λz=>l (by simp[z])) e) (λb o _ _ l e _=>#[o.slots,k b o (λz=>l (by simp[z])) e]) (λ_ _ _ _ n=>n)
  (λb o l e=>#[o,k b o (λz=>l (by simp[z])) e]) (λ_ _ e=>e) (λ_ _ _ e=>e) (λb w e=>#[[].toArray,by simp_all]) (λm y=>?_) (λb u e=>?_) I.bare
 .have e :=by simpa using j
  subst e;exact#[f,d,g,h]
 .let(o,A,B,C,r):=y;exact#[o,A,B,k _ o (ü d) C,r]
 .refine(I.aX b u e).jv (λc v l q=>k c v ?_ q) (λ_ q=>q) λ_ _ q=>q;rcases l with z | z
  .rw[z];exact i b u e
  .exact i c _ z
theorem Inv.tok(I:Inv X aa σ H s)(t:Nat):Inv X aa σ H { s with toks:=t }:=I.un   Un.refl I.aX
theorem Inv.kept{t':Nat}(I:Inv X aa σ H s)(k:∀ b u,s.heap.get? b=↑u->h'.get? b=↑u):Inv X aa σ H { s with heap:=h',toks:=t' }:=I.un (Un.kept k) (I.aX.kept k)
theorem Inv.laid{o:HO}{t':Nat}(I:Inv X aa σ H s)(k:∀ b u,s.heap.get? b=↑u->h'.get? b=↑u)(c:s.heap.objs.size<=a)(new:cO X.prog X.w (upd H a o) h' a o) :
  Inv X aa σ (upd H a o) { s with heap:=h',toks:=t' }:=I.un (Un.laid k c (I.aX.fresh c)) (I.aX.laid k c new)
theorem Inv.write(I:Inv X aa σ H s)(a:NI (H x))(c:e=x\/H e=↑(.own x))(k:∀ b u,b≠e->s.heap.get? b=↑u->h'.get? b=↑u)(d:∃ u,h'.get? e=↑u)
  (new:cO X.prog X.w (upd H x o) h' x o):Inv X aa σ (upd H x o) { s with heap:=h',toks:=t' }:=I.un (Un.write a c k d) (I.aX.write a c k d new)
theorem Inv.mX(I:Inv X aa σ H s)(h:∀ p∈a,s.heap.get? p.1=↑p.2/\H p.1=none/\p.1≠X.env.locals/\p.1 ∉ X.fs/\∀ v,p.2.data≠.cell v):Inv X a σ H s :=
 #[I.ok,I.os,I.bare,I.base,I.loc,I.cell,I.free,I.freeC,λp c=>(Ð.mp c).elim (λz=>I.pin p (ä _ z)) (h p),I.aX,I.len]
theorem oT{N:Zj}(c:N.Nodup){i j:Nat}{x:Str}(a:N[i]?=↑x)(b:N[j]?=↑x):i=j:=by
 let(d,e):=ç.mp a;let(f,g):=ç.mp b;exact(List.getElem_inj c).mp (e.trans g.symm)
theorem mY{M:Model}{v:V}{Q:Unit->É->Prop}(I:Inv X aa σ H s)(hN:X.N.Nodup)(f:X.N[i]?=↑x)(g:Loc X.env.scope x)(r:RelV v u)
  (h:∀ s',Inv X aa (σ.set i ↑v) H s'->(∃ a,Yw a s.heap s'.heap/\(a=X.env.locals\/X.env.cells.lookup x=↑a))->Q () s') (hf:X.fn x=true\/X.env.scope.names.lookup x=↑.local:=by first | exact .inl rfl | exact .inr rfl | assumption):â M A (storeName X.env x u) Q E s:=by
 let(m,hn,hl):=id I.loc;have B:i < σ.length:=by rw[I.len];exact(ç.mp f).1
 have Fy:=I.Fy;have C:∀ {a:Ê}{h':þ},(∃ o,s.heap.get? a=↑o/\H a=none)->Yw a s.heap h'->jV X.prog X.w H h':=λ{a h'} ha hs b ob e=>by
  let(_,_,hfree):=ha;refine(I.aX b ob e).jv (λc w' F q=>(hs.2 c ?_).trans q) (λ_ q=>q) λ_ _ q=>q
  grind
 rcases g with G | G
 .refine W7 G hn (λh' hn' hs=>?_) (by rw[I.ok.kind];rfl);let(oL,_,_,hoL,_):=id hn;refine h _ #[I.ok,I.os,I.bare,#[λb o e n J g=>?_,λb o e n J g=>?_,I.base.free,λb o e g=>?_,I.base.tups,I.base.frzs,I.base.tbls],#[_,hn',λj y v' K L e3=>?_],λy c e=>?_,I.free,I.freeC,λp hp=>?_,C #[oL,hoL,I.free] hs,by simpa using I.len] #[_,hs,.inl rfl]
  .exact(hs.2 b (Û (Ñ (é e) I.ok.above))).trans (I.base.keep b o e n J g)
  .let(sl,K):=I.base.slot b o e n J g;exact#[sl,(hs.2 b (Û (Ñ (é e) I.ok.above))).trans K]
  .let(o',K):=I.base.there b o e g;exact#[o',(hs.2 b (Û (Ñ (é e) I.ok.above))).trans K]
  .by_cases P:j=i
   .subst P;rw[f] at K;cases K;rw[í B] at L;cases L;exact#[u,r,.inl #[G,⋯]]
   .rw[Ý (ü P)] at L;let(u',r',q):=hl j y v' K L e3;refine#[u',r',?_];rcases q with ⟨k,e⟩ | ⟨k,c,e,z⟩
    .refine .inl #[k,?_];have:y≠x:=λe=>P (oT hN K (e ▸ f));simp[this,e]
    .exact .inr #[k,c,e,z.sameBut hs (Fy y c e)]
  .let(w',z):=I.cell y c e;exact#[w',z.sameBut hs (Fy y c e)]
  .let(e,n,ne,nf,d):=I.pin p hp;exact#[(hs.2 p.1 ne).trans e,n,ne,nf,d]
 .have U:X.fn x=true:=by simp_all
  let(c,F):=I.ok.has x (.inl G);let(w',z):=I.cell x c F;refine wpAny_storeName_cell I.ok.kind G F z (λh' Y hs=>?_);let(oc,hoc,hocd):=id z;refine h _ #[I.ok,I.os,I.bare,#[λb o e n J g=>?_,λb o e n J g=>?_,I.base.free,λb o e g=>?_,I.base.tups,I.base.frzs,I.base.tbls],#[m,hn.sameBut hs (ü (Fy x c F)),λj y v' K L e3=>?_],λy c' e=>?_,I.free,I.freeC,λp hp=>?_,C #[oc,hoc,I.freeC x c F] hs,by simpa using I.len] #[c,hs,.inr F]
  .exact(hs.2 b (Û (Ñ (é e) (I.ok.cab x c U F)))).trans (I.base.keep b o e n J g)
  .let(sl,K):=I.base.slot b o e n J g;exact#[sl,(hs.2 b (Û (Ñ (é e) (I.ok.cab x c U F)))).trans K]
  .let(o',K):=I.base.there b o e g;exact#[o',(hs.2 b (Û (Ñ (é e) (I.ok.cab x c U F)))).trans K]
  .by_cases P:j=i
   .subst P;rw[f] at K;cases K;rw[í B] at L;cases L;exact#[u,r,.inr #[.inl G,c,F,Y]]
   .rw[Ý (ü P)] at L;let(u',r',q):=hl j y v' K L e3;refine#[u',r',?_];rcases q with q | ⟨k,c',e,z'⟩
    .exact .inl q
    .refine .inr #[k,c',e,z'.sameBut hs ?_];rintro rfl;exact P (oT hN K (I.ok.inj _ _ _ e F ▸ f))
  .by_cases hcc:c'=c
   .subst hcc;exact#[_,Y]
   .let(w2,z2):=I.cell y c' e;exact#[w2,z2.sameBut hs hcc]
  .let(e,n,ne,nf,d):=I.pin p hp;refine#[(hs.2 p.1 ?_).trans e,n,ne,nf,d];intro q;rw[q,hoc] at e;have q':oc=p.2:=ù e;exact d w' (by rw[<-q'];exact hocd)
theorem lu{M:Model}{Q:Unit->É->Prop}(I:Inv X aa σ H s)(a:X.N.Nodup)(c:X.N[i]?=↑x)(d:Loc X.env.scope x)(r:RelV v u)
  (h:∀ e,Inv X aa (σ.set i ↑v) H e->Q () e) (f:X.fn x=true\/X.env.scope.names.lookup x=↑.local:=by first | exact .inl rfl | exact .inr rfl | assumption):â M A (storeName X.env x u) Q E s :=
 mY I a c d r (λe g _=>h e g) f
theorem Inv.G6{s':É}{ch:Zp}(I:Inv X aa σ H s)(a:s'.os=s.os)(u:Un (fw X.stack) ch H H' s.heap s'.heap)(d:jV X.prog X.w H' s'.heap)(f:AllBare s'.gens)
  (g:∀ b∈ch,(b∈X.ex\/X.s₀.heap.objs.size<=b)/\b≠X.env.locals/\(∀ x c,X.env.cells.lookup x=↑c->c≠b)/\∀ p∈X.pn++aa,p.1≠b):Inv X aa σ H' s':=by
 let(h',h,i,j,k):=s';subst a;exact I.call    u d f g
end
abbrev XK:=Ä->Zk->Hp->Prop
abbrev St:=⇑(Option V)
abbrev VK:=V->Hp->Prop
abbrev TE:=St->Hp->VK->Prop
abbrev TT:=St->Hp->(Bool->Hp->Prop)->Prop
abbrev TA:=St->Hp->(⇑V->Hp->Prop)->Prop
structure Ends where
 nx:St->Hp->Prop
 rt:VK
 bk:St->Hp->Prop:=λ_ _=>False
 ct:St->Hp->Prop:=λ_ _=>False
abbrev TS:=Ends->St->Hp->Prop
inductive EP (X:Cx) (aa:⇑(Addr × Obj)) (σ:St) (Q:VK) (u:Value) (s':Shared):Prop where
 |mk (v H') (h0:Inv X aa σ H' s') (h1:RelV v u) (h2:Q v H'):EP X aa σ Q u s'
inductive TP (X:Cx) (aa:⇑(Addr × Obj)) (σ:St) (Q:Bool->Hp->Prop) (b:Bool) (s':Shared):Prop where
 |mk (H') (h0:Inv X aa σ H' s') (h1:Q b H'):TP X aa σ Q b s'
inductive AP (X:Cx) (aa:⇑(Addr × Obj)) (σ:St) (Q:⇑V->Hp->Prop) (us:⇑Value) (s':Shared):Prop where
 |mk (vs H') (h0:Inv X aa σ H' s') (h1:Vals vs us) (h2:Q vs H'):AP X aa σ Q us s'
def SP(X:Cx)(a:⇑(Ê × Obj))(D:Ends)(f:Flow)(c:É):Prop :=
 match f with
 |.next=>∃ d e,Inv X a d e c/\D.nx d e
 |.brk=>∃ d e,Inv X a d e c/\D.bk d e|.cont=>∃ d e,Inv X a d e c/\D.ct d e|.ret u=>∃ v d e,Inv X a d e c/\RelV v u/\D.rt v e
def PE(X:Cx)(e:Þ)(t:TE):Prop :=
 ∀ (a:⇑(Ê × Obj)) (s:É) (c:St) (H:Hp) (Q:VK),Inv X a c H s->t c H Q->â (Ü X.prog X.w) X.A (eval e X.env) (EP X a c Q) X.xe s
def PT(X:Cx)(e:Þ)(t:TT):Prop :=
 ∀ (a:⇑(Ê × Obj)) (s:É) (c:St) (H:Hp) (Q:Bool->Hp->Prop),Inv X a c H s->t c H Q->â (Ü X.prog X.w) X.A (isTrue e X.env (eval e X.env)) (TP X a c Q) X.xe s
def PW(X:Cx)(e:Þ)(t:TT):Prop :=
 ∀ (a:Sem Ä) (c:⇑(Ê × Obj)) (s:É) (d:St) (H:Hp) (Q:Bool->Hp->Prop),Inv X c d H s->t d H Q->â (Ü X.prog X.w) X.A (isTrue e X.env a) (TP X c d Q) X.xe s
theorem PW.pt{t:TT}(h:PW X e t):PT X e t:=h _
def PA(X:Cx)(a:Zm)(t:TA):Prop :=
 ∀ (pos:Pos) (c:⇑(Ê × Obj)) (s:É) (d:St) (H:Hp) (Q:⇑V->Hp->Prop),Inv X c d H s->t d H Q->â (Ü X.prog X.w) X.A (spliced (backTo pos (VC a X.env))) (AP X c d Q) X.xe s
def PS(X:Cx)(a:V9)(t:TS):Prop :=
 ∀ (c:⇑(Ê × Obj)) (s:É) (d:St) (H:Hp) (D:Ends),Inv X c d H s->t D d H->â (Ü X.prog X.w) X.A (exec a X.env) (SP X c D) X.xe s
def eV(X:Cx)(a:⇑V9)(t:TS):Prop :=
 ∀ (c:⇑(Ê × Obj)) (s:É) (d:St) (H:Hp) (D:Ends),Inv X c d H s->t D d H->â (Ü X.prog X.w) X.A (execs a X.env) (SP X c D) X.xe s
theorem cF{t:Sem α}{Q c:α->É->Prop}{M:Model}{s:É}(h:â M A t Q E s)(d:∀ a s,Q a s->c a s):â M A t c E s:=VY h d λ_ _ x=>x
section
variable {X:Cx}
def KQ(i:Nat):TE:=λa H Q=>∃ v,a[i]?=↑↑v/\Q v H
def tC(v:V):TE:=λ_ H Q=>Q v H
theorem eE{i:Nat}{x:Str}{pos:Pos}(a:X.N[i]?=↑x)(d:Fx X.env.scope x)(f:(x == ("__debug__":Str))=false:=by decide)(g:(x == ("__classdict__":Str))=false:=by decide):PE X (.Name x pos) (KQ i):=by
 intro j s k H Q I h;let(v,e,h):=h;let(m,n,o):=I.loc;let(u,r,l):=o i x v a e d;have p:EP X j k Q u s:=#[v,H,I,r,h];rcases l with ⟨q,w⟩ | ⟨q,c,y,z⟩
 .exact X9 (WM I.ok.kind q n w p) f
 .rcases q with q | q
  .exact X9 (wpAny_loadName_cell I.ok.kind q y z p) f
  .exact X9 (wpAny_loadName_free I.ok.kind q y z p g) f
theorem uy{i j pos}:PE X (.Constant (~~~i) j pos) (tC (~~~i)):=λ_ _ _ H _ I h=>wpAny_Constant_int #[~~~i,H,I.tok _,#[_,rfl],h]
theorem Qn{b j pos}:PE X (.Constant (.bool b) j pos) (tC (.bl b)):=λ_ _ _ H _ I h=>Constant_bool #[.bl b,H,I,rfl,h]
theorem Cc{j pos}:PE X (.Constant .none j pos) (tC .cq):=λ_ _ _ H _ I h=>Constant_none #[.cq,H,I,rfl,h]
theorem G7{x j pos}:PE X (.Constant (.str x) j pos) (tC (.str x)):=λ_ _ _ H _ I h=>Calls.Constant_str #[.str x,H,I.tok _,#[_,rfl],h]
def Gl(X:Cx)(x:Str):Prop:=X.env.kindOf x=↑.globalImplicit
theorem mZ{pos:Pos}{Q:Ä->É->Prop}(I:Inv X a σ H s)(c:Gl X x)(d:X.mg x=↑u)(h:Q u s)
  (e:(x == ("__debug__":Str))=false:=by decide):â (Ü X.prog X.w) X.A (eval (.Name x pos) X.env) Q E s :=
 Calls.Name_function_global I.ok.kind c (Calls.loadGlobal_global (by rw[I.ok.glob];exact I.mod.glob.keeps I.bk) d h) e
theorem gI{s:É}{pos:Pos}{Q:Ä->É->Prop}(I:Inv X a σ H s)(c:Gl X x)(d:X.mg x=none)(e:Vk x=↑u)(h:Q u s)
  (f:x≠"__name__":=by decide) (g:(x == ("__debug__":Str))=false:=by decide):â (Ü X.prog X.w) X.A (eval (.Name x pos) X.env) Q E s:=by
 let(i,j,k):=I.mod.blt;exact Calls.Name_function_global I.ok.kind c (Calls.loadGlobal_builtin (by rw[I.ok.glob];exact I.mod.glob.keeps I.bk) d (by rw[I.ok.blt];exact j.keeps I.bk) ((k x f).trans e) h) g
theorem dS{v:V}{pos:Pos}(a:Gl X x)(c:X.mg x=↑u)(r:RelV v u)(d:(x == ("__debug__":Str))=false:=by decide):PE X (.Name x pos) (tC v) :=
 λ_ _ _ H _ I h=>mZ I a c #[v,H,I,r,h] d
theorem s9{v:V}{pos:Pos}(a:Gl X x)(c:X.mg x=none)(d:Vk x=↑u)(r:RelV v u)(e:x≠"__name__":=by decide)(f:(x == ("__debug__":Str))=false:=by decide):PE X (.Name x pos) (tC v) :=
 λ_ _ _ H _ I h=>gI I a c d #[v,H,I,r,h] e f
variable {a b:Þ}{ta tb:TE}{pos:Pos}
def tB(t:TE):TT:=λd H Q=>t d H λx e=>∃ c,x=.bl c/\Q c e
theorem yu{t:TE}(h:PE X e t)(c:∀ f,isTrue e X.env f=(do let v <-f;standAt e.pos;holding [v] (truthy v)):=by intro _;rfl):PT X e (tB t):=by
 intro g s i H Q I hw;refine isTrue_plain (cF (h g s i H _ I hw) λv s1 #[x,H1,j,k,l]=>?_) (c _);let(d,rfl,q):=l;subst k;exact Wi #[H1,j,q]
variable {tA tB':TT}{rest:Zm}
def SV(t u:TT):TT:=λd H Q=>t d H λc e=>if c=true then u d e Q else Q false e
def UW(t u:TT):TT:=λd H Q=>t d H λc e=>if c=true then Q true e else u d e Q
def SW(t:TT):TT:=λd H Q=>t d H λc e=>Q (!c) e
theorem Dt(d:PT X a tA):PW X (.BoolOp .And [a] pos) tA:=by
 intro f g s i H Q I h;refine isTrue_and (cF (d g s i H Q I h) λc s1 e=>?_);cases c with
 |true=>exact isTrue_and_nil e|false=>exact e
theorem NJ(d:PT X a tA):PW X (.BoolOp .Or [a] pos) tA:=by
 intro f g s i H Q I h;refine isTrue_or (cF (d g s i H Q I h) λc s1 e=>?_);cases c with
 |false=>exact isTrue_or_nil e|true=>exact e
theorem G8(d:PT X a tA)(e:PW X (.BoolOp .And (b::rest) pos) tB'):PW X (.BoolOp .And (a::b::rest) pos) (SV tA tB'):=by
 intro f g s i H Q I h;refine isTrue_and (cF (d g s i H _ I h) λc s1 #[H1,j,k]=>?_);cases c with
 |true=>exact e f g s1 i H1 Q j k|false=>exact#[H1,j,k]
theorem Qo(d:PT X a tA)(e:PW X (.BoolOp .Or (b::rest) pos) tB'):PW X (.BoolOp .Or (a::b::rest) pos) (UW tA tB'):=by
 intro f g s i H Q I h;refine isTrue_or (cF (d g s i H _ I h) λc s1 #[H1,j,k]=>?_);cases c with
 |true=>exact#[H1,j,k]|false=>exact e f g s1 i H1 Q j k
theorem Cd(d:PT X a tA):PT X (.UnaryOp .Not a pos) (SW tA):=by
 intro e s f H Q I h;exact isTrue_not (cF (d e s f H _ I h) λ_ _ #[g,i,j]=>#[g,i,j])
def Qp(ta tb:TE):TE:=λd H Q=>ta d H λx e=>∃ c,x=.bl c/\if c=true then tb d e Q else Q (.bl false) e
def SX(ta tb:TE):TE:=λd H Q=>ta d H λx e=>∃ c,x=.bl c/\if c=true then Q (.bl true) e else tb d e Q
def Qq(ta:TE):TE:=λd H Q=>ta d H λx e=>∃ c,x=.bl c/\Q (.bl (!c)) e
theorem NK{t:TE}(h:PE X a t):PE X (.BoolOp op [a] pos) t:=λc s d H Q I hw=>BoolOp_one (h c s d H Q I hw)
theorem NL(d:PE X a ta)(e:PE X (.BoolOp .And (b::rest) pos) tb):PE X (.BoolOp .And (a::b::rest) pos) (Qp ta tb):=by
 intro f s g H Q I h;refine BoolOp_and (cF (d f s g H _ I h) λv s1 #[x,H1,i,j,k]=>?_);let(c,rfl,k):=k;subst j;apply Wi;cases c with
 |true=>exact e f s1 g H1 Q i k|false=>exact#[.bl false,H1,i,rfl,k]
theorem Qr(d:PE X a ta)(e:PE X (.BoolOp .Or (b::rest) pos) tb):PE X (.BoolOp .Or (a::b::rest) pos) (SX ta tb):=by
 intro f s g H Q I h;refine BoolOp_or (cF (d f s g H _ I h) λv s1 #[x,H1,i,j,k]=>?_);let(c,rfl,k):=k;subst j;apply Wi;cases c with
 |false=>exact e f s1 g H1 Q i k|true=>exact#[.bl true,H1,i,rfl,k]
theorem G9(d:PE X a ta):PE X (.UnaryOp .Not a pos) (Qq ta):=by
 intro e s f H Q I h;refine UnaryOp_ (cF (d e s f H _ I h) λv s1 #[x,H1,g,i,j]=>?_);let(c,rfl,j):=j;subst i;exact not_of (Wi #[.bl _,H1,g,rfl,j])
def UX(t:TT)(ta tb:TE):TE:=λd H Q=>t d H λc e=>if c=true then ta d e Q else tb d e Q
theorem Hc(e:PT X c tA)(f:PE X a ta)(g:PE X b tb):PE X (.IfExp c a b pos) (UX tA ta tb):=by
 intro i s j H Q I h;refine wpAny_IfExp (cF (e i s j H _ I h) λd s1 #[H1,k,l]=>?_);cases d with
 |true=>exact f i s1 j H1 Q k l|false=>exact g i s1 j H1 Q k l
end
def jX(K:Å)(H:Hp)(a:Ê)(c:⇑V):Prop :=
 Rd H a (.lst c) \/
  ∃ (o:Obj) (d:Zo) (n:Nat),K.lookup a=↑o/\o.cls=.type "list"/\o.dict=none/\o.data=.seq d n/\d.size<=sizeLine/\Vals c d.toList
def dU(K:Å)(H:Hp)(a:Ê)(c:⇑V):Prop :=
 Rd H a (.tup c) \/
  ∃ (o:Obj) (d:Zo) (n:Nat),K.lookup a=↑o/\o.cls=.type "tuple"/\o.data=.seq d n/\d.size<=sizeLine/\Vals c d.toList
def SY:Ä->Option V
 |.none=>↑.cq|.bool b=>↑(.bl b)|.int i _=>↑(~~~i)|.str x _=>↑(.str x)|.bytes b _=>↑(.byt b)|.float b _=>↑(.iO b)|↥a=>↑↥a|.type n=>↑(.ty n)|_=>none
theorem RelV.abs(r:RelV x u):SY u=↑x:=by
 cases x with
 |cq=>subst r;rfl|bl _=>subst r;rfl|int _=>let(t,rfl):=r;rfl
 |str _=>let(t,rfl):=r;rfl
 |byt _=>let(t,rfl):=r;rfl
 |iO _=>let(t,rfl):=r;rfl
 |ref _=>subst r;rfl|ty _=>subst r;rfl
theorem RelV.inj(r:RelV x u)(q:RelV y u):x=y:=ù (r.abs.symm.trans q.abs)
theorem Vals.inj:∀ {a c:⇑V}{d:Zi},Vals a d->Vals c d->a=c:=by
 intro a c d h;induction h generalizing c with
 |nil=>intro k;cases k;rfl
 |cons r _ i =>
  intro k;cases k with
  |cons e f=>rw[r.inj e,i f]
section
variable {X:Cx}{aa:⇑(Ê × Obj)}{σ:St}{H:Hp}{s:É}{a:Ê}{xs ys:⇑V}
theorem jX.of{K:Å}(h:H a=↑(.lst xs)):jX K H a xs:=.inl (.inl h)
theorem dU.of{K:Å}(h:H a=↑(.tup xs)):dU K H a xs:=.inl (.inl h)
theorem Inv.list(I:Inv X aa σ H s)(h:jX X.K H a xs):∃ aw:Zi,Vals xs aw/\PlainL s.heap a aw.toArray/\xs.length<=sizeLine:=by
 rcases h with h | ⟨o,aw,n,c,d,f,hs,hz,r⟩
 .let(z,aw,n,r,e):=h.ok I.aX;exact#[aw,r,#[_,n,e,rfl,rfl,rfl],z]
 .refine#[aw.toList,r,#[o,n,I.mW a o c,d,f,hs],?_];have e:=r.length
  grind
theorem Inv.tuple(I:Inv X aa σ H s)(h:dU X.K H a xs):∃ aw:Zi,Vals xs aw/\IsTup s.heap a aw.toArray/\xs.length<=sizeLine:=by
 rcases h with h | ⟨o,aw,n,c,d,hs,hz,r⟩
 .let(z,aw,r,p):=h.ok I.aX;exact#[aw,r,p,z]
 .refine#[aw.toList,r,#[o,I.mW a o c,d,n,hs],?_];have e:=r.length
  simp_all
theorem Inv.Ao(I:Inv X aa σ H s)(h:jX X.K H a xs)(c:jX X.K H a ys):xs=ys:=by
 obtain⟨f,r,⟨o,n,e,_,_,d⟩,_⟩:=I.list h;obtain⟨g,i,⟨j,k,l,_,_,m⟩,_⟩:=I.list c;rw[e] at l;cases l;rw[d] at m;injection m with p _;have :=by simpa using congrArg toList p
 subst this;exact r.inj i
theorem Inv.xh(I:Inv X aa σ H s)(h:dU X.K H a xs)(c:dU X.K H a ys):xs=ys:=by
 obtain⟨f,r,⟨o,e,_,n,d⟩,_⟩:=I.tuple h;obtain⟨g,i,⟨j,k,_,l,m⟩,_⟩:=I.tuple c;rw[e] at k;cases k;rw[d] at m;injection m with p _;have :=by simpa using congrArg toList p
 subst this;exact r.inj i
end
abbrev Cx.wJ(X:Cx)(E:Ä->É->Prop):Cx:={ X with xe:=E }
abbrev Cx.Sz(X:Cx):Cx:=X.wJ λ_ _=>False
theorem Cx.Ok.wJ{X:Cx}(ok:X.Ok)(E:Ä->É->Prop):(X.wJ E).Ok :=
 #[ok.mod,ok.kind,ok.glob,ok.blt,ok.above,ok.inj,ok.has,ok.cab,ok.hd,ok.frames,ok.stk,ok.exf,ok.bs,ok.bsz,ok.noex,ok.exfs,ok.ll,ok.frf]
theorem Cx.Ok.ly{X:Cx}{E:Ä->É->Prop}(ok:(X.wJ E).Ok):X.Ok :=
 #[ok.mod,ok.kind,ok.glob,ok.blt,ok.above,ok.inj,ok.has,ok.cab,ok.hd,ok.frames,ok.stk,ok.exf,ok.bs,ok.bsz,ok.noex,ok.exfs,ok.ll,ok.frf]
section
variable {X:Cx}{aa:⇑(Ê × Obj)}{σ:St}{H:Hp}{s:É}{E:Ä->É->Prop}
theorem Inv.wJ(I:Inv X aa σ H s)(E:Ä->É->Prop):Inv (X.wJ E) aa σ H s:=#[I.ok.wJ E,I.os,I.bare,I.base,I.loc,I.cell,I.free,I.freeC,I.pin,I.aX,I.len]
theorem Inv.ly(I:Inv (X.wJ E) aa σ H s):Inv X aa σ H s:=#[I.ok.ly,I.os,I.bare,I.base,I.loc,I.cell,I.free,I.freeC,I.pin,I.aX,I.len]
theorem SP.ly{D:Ends}{f:Flow}{s':É}(h:SP (X.wJ E) aa D f s'):SP X aa D f s':=by
 cases f with
 |next=>let(σ',H',I,q):=h;exact#[σ',H',I.ly,q]
 |brk=>let(σ',H',I,q):=h;exact#[σ',H',I.ly,q]
 |cont=>let(σ',H',I,q):=h;exact#[σ',H',I.ly,q]
 |ret u=>let(v,σ',H',I,r,q):=h;exact#[v,σ',H',I.ly,r,q]
theorem eV.Sz{a:⇑V9}{t:TS}(h:eV X.Sz a t):eV X a t:=λaa s σ H D I hw =>
 VY (h aa s σ H D (I.wJ _) hw) (λ_ _ q=>q.ly) λ_ _ z=>tv z
end
section
variable {X:Cx}{st:V9}{rest:⇑V9}{t u:TS}{e:Þ}{te:TE}{pos:Pos}
def Qs:TS:=λD a H=>D.nx a H
def S0(t u:TS):TS:=λD a H=>t { D with nx:=u D } a H
theorem td:eV X [] Qs:=λ_ _ a H _ I h=>wpAny_execs_nil #[a,H,I,h]
theorem cg(a:PS X st t)(c:eV X rest u):eV X (st::rest) (S0 t u):=by
 intro d s g H D I h;refine wpAny_execs_cons (cF (a d s g H _ I h) λf s1 q=>?_);cases f with
 |next =>
  let(i,j,k,q):=q;exact c d s1 i j D k q
 |ret v=>exact q|brk=>exact q|cont=>exact q
theorem Dw(a:PS X st t):eV X [st] t:=by
 intro c s d H D I h;refine wpAny_execs_cons (cF (a c s d H D I h) λf s1 q=>?_);cases f with
 |next=>exact wpAny_execs_nil q
 |ret v=>exact q|brk=>exact q|cont=>exact q
theorem Inv.quiet(I:Inv X a σ H s):interactive X.env=false:=by simp[interactive,I.ok.kind]
def Qt(te:TE):TS:=λD a H=>te a H λ_ c=>D.nx a c
theorem tf(a:PE X e te)(hs:Yi e none pos.line X.env=pure false:=by rfl):PS X (.Expr e pos) (Qt te):=by
 intro c s d H D I h;exact wpAny_Expr_any (cF (a c s d H _ I h) λv s1 #[x,H1,f,g,i]=>#[d,H1,f,i]) I.quiet hs
def S1(te:TE):TS:=λD a H=>te a H D.rt
theorem yv(a:PE X e te):PS X (.Return ↑e pos) (S1 te):=by
 intro c s d H D I h;exact wpAny_Return_some (cF (a c s d H _ I h) λv s1 #[x,H1,f,g,i]=>#[x,d,H1,f,g,i])
def Qu:TS:=λD _ H=>D.rt .cq H
theorem KR:PS X (.Return none pos) Qu:=λ_ _ a H _ I h=>wpAny_Return_none #[.cq,a,H,I,rfl,h]
def S2(c:TT)(t u:TS):TS:=λD a H=>c a H λb d=>if b=true then t D a d else u D a d
theorem Dx{a b:⇑V9}(f:PT X c g)(i:eV X a t)(j:eV X b u):PS X (.If c a b pos) (S2 g t u):=by
 intro k s l H D I h;refine wpAny_If (cF (f k s l H _ I h) λd s1 #[H1,m,n]=>?_);cases d with
 |true=>exact i k s1 l H1 D m n|false=>exact j k s1 l H1 D m n
end
abbrev TG:=V->St->Hp->(St->Hp->Prop)->Prop
abbrev MM:=⇑V->St->Hp->(St->Hp->Prop)->Prop
def PG(X:Cx)(a:Þ)(t:TG):Prop :=
 ∀ (c:⇑(Ê × Obj)) (s:É) (d:St) (H:Hp) (v:V) (u:Ä) (Q:St->Hp->Prop),Inv X c d H s->RelV v u->t v d H Q ->
  â (Ü X.prog X.w) X.A (assign a X.env u) (λ_ e=>∃ f g,Inv X c f g e/\Q f g) X.xe s
def Qw(X:Cx)(a:Zm)(t:MM):Prop :=
 ∀ (c:⇑(Ê × Obj)) (s:É) (d:St) (H:Hp) (e:⇑V) (f:Zi) (Q:St->Hp->Prop),Inv X c d H s->Vals e f->t e d H Q ->
  â (Ü X.prog X.w) X.A (assignInOrder ((XR a X.env).map (·.2)) f) (λ_ g=>∃ h i,Inv X c h i g/\Q h i) X.xe s
abbrev KS:=V->V->V->Hp->(Hp->Prop)->Prop
def NM(X:Cx)(t:KS):Prop :=
 ∀ (a:⇑(Ê × Obj)) (s:É) (c:St) (H:Hp) (o i v:V) (d e u:Ä) (Q:Hp->Prop),Inv X a c H s->RelV o d->RelV i e->RelV v u->t o i v H Q ->
  â (Ü X.prog X.w) X.A (setItem d e u) (λ_ f=>∃ g,Inv X a c g f/\Q g) X.xe s
section
variable {X:Cx}{pos:Pos}
def lB(i:Nat):TG:=λv a H Q=>Q (a.set i ↑v) H
theorem tm{i:Nat}{x:Str}(a:X.N.Nodup)(c:X.N[i]?=↑x)(d:Loc X.env.scope x)(e:X.fn x=true\/X.env.scope.names.lookup x=↑.local:=by first | exact .inl rfl | exact .inr rfl | assumption):PG X (.Name x pos) (lB i):=by
 intro f s g H v u Q I r h;exact XM (lu I a c d r (λj k=>#[_,H,k,h]) e)
def Qy:MM:=λa c H Q=>a=[]/\Q c H
def MN(t:TG)(u:MM):MM:=λa c H Q=>∃ v r,a=v::r/\t v c H λd e=>u r d e Q
theorem KU:Qw X [] Qy:=by
 intro a s c H d f Q I r h;let(e,h):=h;exact assignInOrder_nil #[c,H,I,h]
theorem He{t:TG}(a:PG X e t)(c:Qw X d u)
  (hs:(XR (e::d) X.env).map (·.2)=assign e X.env::(XR d X.env).map (·.2):=by rfl):Qw X (e::d) (MN t u):=by
 intro f s g H i j Q I r h;let(v,k,l,h):=h;subst l;cases r with
 |cons r m =>
  rw[hs];refine assignInOrder_cons (cF (a f s g H _ _ _ I r h) λ_ s1 #[n,H1,o,p]=>?_);exact c f s1 n H1 _ _ Q o m p
def Qz(K:Å)(n:Nat)(t:MM):TG:=λv c H Q=>∃ a d,v=↥a/\dU K H a d/\d.length=n/\t d c H Q
theorem NN{k:Nat}{t:MM}{n:Nat}(c:X.calm)(h:Qw X d t)
  (f:(XR d X.env).length=n:=by rfl) (g:(XR d X.env).findIdx? (·.1)=none:=by rfl):PG X (.Tuple d k pos) (Qz X.K n t):=by
 intro i s j H v u Q I r hw;let(a,l,m,p,q,hw):=hw;subst m;subst r;let(w,x,y,hz):=I.tuple p;refine assign_Tuple_tuple (I.ok.hd c) y (by simp[f,<-q,x.length]) g λz A=>?_
 exact h i _ j H l _ Q (I.kept  λb o e=>A b o (Û (é e)) e) (by simp_all) hw
def S3(a c:TE)(t:KS):TG:=λv d H Q=>a d H λo e=>c d e λi f=>t o i v f λg=>Q d g
theorem NO{t:KS}(a:PE X o to)(c:PE X i d)(hs:NM X t)
  (e:∀ v,assign (.Subscript o i pos) X.env v=(do
   let f <-holding [v] (eval o X.env)
   let g <-holding [v,f] (eval i X.env)
   standAt pos
   holding [v,f,g] (setItem f g v)
   release [v,f,g] []):=by intro _;rfl):PG X (.Subscript o i pos) (S3 to d t):=by
 intro j s k H v u Q I r h;rw[e];refine À (Vw (cF (a j s k H _ I h) λf s1 #[x,H1,l,m,n]=>?_));refine À (Vw (cF (c j s1 k H1 _ l n) λg s2 #[y,p,q,w,z]=>?_));refine À (WT (À (Vw (cF (hs j s2 k p x y v f g u _ q m w r z) λ_ s3 #[A,B,C]=>?_))));exact wpAny_release #[k,A,B,C]
def Ce(a:TE)(g:TG):TS:=λD c H=>a c H λx d=>g x c d D.nx
theorem Hg(a:PE X e c)(d:PG X f g)(hs:swapsWithSole [f] e pos.line X.env=pure false:=by rfl)(hw:Wq [f] e X.env=pure none:=by rfl)
  (i:(XR [f] X.env).map (·.2)=[assign f X.env]:=by rfl):PS X (.Assign [f] e pos) (Ce c g):=by
 intro j s k H D I h;refine wpAny_Assign_stores (cF (a j s k H _ I h) λv s1 #[x,H1,l,m,n]=>?_) hs hw;rw[i];exact cF (d j s1 k H1 x v _ l m n) λ_ o q=>q
theorem fY{i:Nat}(a:X.N.Nodup)(c:X.N[i]?=↑x)(d:Loc X.env.scope x)(f:PE X e g)(hs:Yi e ↑(.Name x pos') pos.line X.env=pure false:=by rfl)(j:X.fn x=true\/X.env.scope.names.lookup x=↑.local:=by first | exact .inl rfl | exact .inr rfl | assumption) :
  PS X (.Assign [.Name x pos'] e pos) (Ce g (lB i)):=by
 intro k s l H D I h;refine wpAny_Assign_Name (cF (f k s l H _ I h) λv s1 #[y,H1,m,n,o]=>?_) hs;exact lu m a c d n (λp q=>#[_,H1,q,o]) j
def S4(i j:Nat)(a:TA):TS:=λD c H=>a c H λd e=>∃ v w,d=[v,w]/\D.nx ((c.set i ↑v).set j ↑w) e
theorem Hh{a b:Þ}{c d pt:Pos}(f:X.calm)(g:X.N.Nodup)(k:X.N[i]?=↑x)(l:X.N[j]?=↑y)(m:i≠j)
  (n:X.env.scope.names.lookup x=↑.local) (r:X.env.scope.names.lookup y=↑.local) (u:PA X [a,b] z)
  (hw:Wq [.Tuple [.Name x c,.Name y d] kt pt] (.Tuple [a,b] B C) X.env=pure ↑[x,y])
  (hs:swapsWithSole [.Tuple [.Name x c,.Name y d] kt pt] (.Tuple [a,b] B C) pos.line X.env=pure false:=by rfl) :
  PS X (.Assign [.Tuple [.Name x c,.Name y d] kt pt] (.Tuple [a,b] B C) pos) (S4 i j z):=by
 intro E s F H D I h;refine À (WT ?_);refine À (Æ ?_);refine À (Tuple_ (cF (u _ E s F H _ I h) λus s1 #[vs,H1,G,r1,J]=>?_));let(v,w,e1,J):=J;subst e1;obtain⟨K,L,rfl,rv,P⟩:∃ K L,us=[K,L]/\RelV v K/\RelV w L:=by
  cases r1 with
  |cons p q =>
   cases q with
   |cons p' q' =>
    cases q';exact#[_,_,rfl,p,p']
 refine Vn ?_ (by show 2<=sizeLine;decide)
 have I2:Inv X E F H1 { s1 with heap:=s1.heap.push { cls:=.type "tuple",data:=.seq [K,L].toArray } }:=G.kept  λb o e=>Â _ e;rw[hw];show â _ X.A (do rule _;let items <-unpackItems _ 2 none;assignInOrder _ items.reverse;pure Flow.next) _ _ _;refine À (XQ (À (unpackItems_tuple (items:=[K,L].toArray) (I.ok.hd f) (IsTup.new s1.heap _) λh' U=>?_)));have I3:=I2.kept  (t':=s1.toks) λb o e=>U b o (Û (é e)) e;refine À (assignInOrder_cons (wpAny_bindName (lu I3 g l (.inl r) P (λs2 I4=>?_) (.inr r))));refine assignInOrder_cons (wpAny_bindName (lu I4 g k (.inl n) rv (λs3 Y=>assignInOrder_nil (Æ ?_)) (.inr n)));rw[List.set_comm _ _ (ü m)] at Y;exact#[_,H1,Y,J]
def NP(c:TT)(a:TS):TS:=λD d H=>∃ W:Nat->St->Hp->Prop,(∃ m,W m d H)/\∀ m d H,W m d H ->
 c d H λb e=>if b=true then ∃ N:St->Hp->Prop,(∀ f g,N f g->∃ h,h < m/\W h f g)/\a { D with nx:=N,ct:=N,bk:=D.nx } d e else D.nx d e
theorem Hi{c:Þ}{body:⇑V9}{tc:TT}{tb:TS}(hp:PassesOwn (Ü X.prog X.w) X.A X.env X.xe)(hc:PT X c tc)(hb:eV X body tb):PS X (.While c body [] pos) (NP tc tb):=by
 intro aa s σ H D I h;obtain⟨W,⟨m0,w0⟩,turn⟩:=h;refine wpAny_While (codeAny_whileLoop (λn s'=>∃ σ' H',Inv X aa σ' H' s'/\W n σ' H') ?_ m0 #[σ,H,I,w0]);rintro n s1 ⟨σ1,H1,I1,w1⟩;refine Yg hp (cF (hc aa s1 σ1 H1 _ I1 (turn n σ1 H1 w1)) λb s2 #[H2,I2,q2]=>?_);cases b with
 |true =>
  let(N,hN,q2):=q2;refine Yg hp (cF (hb aa s2 σ1 H2 _ I2 q2) λf s3 q3=>?_);cases f with
  |next =>
   let(σ3,H3,I3,n3):=q3;let(m',hm,w3):=hN σ3 H3 n3;exact#[m',hm,σ3,H3,I3,w3]
  |cont =>
   let(σ3,H3,I3,n3):=q3;let(m',hm,w3):=hN σ3 H3 n3;exact#[m',hm,σ3,H3,I3,w3]
  |brk=>exact q3|ret v=>exact q3
 |false =>
  exact wpAny_execs_nil #[σ1,H2,I2,q2]
end
structure It where
 go:Nat->Hp->Prop
 yld:Nat->Hp->V->Hp->Prop
 stop:Nat->Hp->Prop
def lC(X:Cx)(a:⇑(Ê × Obj))(H:Hp)(b:Ê):Prop :=
 H b=none/\b≠X.env.locals/\b ∉ X.fs/\(b∈X.ex\/X.s₀.heap.objs.size<=b)/\(∀ x c,X.env.cells.lookup x=↑c->c≠b)/\∀ p∈X.pn++a,p.1≠b
theorem Inv.oh{b:Ê}(I:Inv X a σ H s)(d:s.heap.objs.size<=b)(f:g b=none):lC X a g b:=by
 refine#[f,XD (Ñ I.lt d),I.Qm d,.inr (Í I.sz d),λx c e z=>?_,λp h z=>?_]
 .let(v,q):=I.cell x c e;exact absurd (Ñ q.lt (by simp_all)) (VH _)
 .exact absurd (Ñ (é (I.pin p h).1) (by simp_all)) (VH _)
structure Turn(P:Program)(w:World)(K:PySem.W.Frag)(tg:Expr)(J:It)(fp:⇑Addr)(it:Addr)(tn:Nat->Heap->Prop):Prop where
 mem:it∈fp
 obj:∀ i h,tn i h->∀ b∈fp,∃ o,h.get? b=↑o/\∀ v,o.data≠.cell v
 keep:∀ i h h',tn i h->(∀ b∈fp,∀ o,h.get? b=↑o->h'.get? b=↑o)->tn i h'
 item:∀ (X:Cx),X.prog=P->X.w=w->X.K=K->X.calm=true->∀ (i:Nat) (aa:⇑(Addr × Obj)) (s:Shared) (σ:St) (H:Hp) (E:Value->Shared->Prop),Inv X aa σ H s->(∀ b∈fp,lC X aa H b)->tn i s.heap->J.go i H ->
  wpAny (model P w) X.A (pyNext ↥it) (λr s1=>∃ u,r=↑u /\
   wpAny (model P w) X.A (letOwnedTupleGo tg ↥it u) (λ_ s2=>∃ x H',Inv X aa σ H' s2/\RelV x u/\J.yld i H x H'/\tn (i + 1) s2.heap/\∀ b∈fp,H' b=none) E s1) E s
 done:∀ (X:Cx),X.prog=P->X.w=w->X.K=K->X.calm=true->∀ (i:Nat) (aa:⇑(Addr × Obj)) (s:Shared) (σ:St) (H:Hp) (E:Value->Shared->Prop),Inv X aa σ H s->(∀ b∈fp,lC X aa H b)->tn i s.heap->J.stop i H ->
  wpAny (model P w) X.A (pyNext ↥it) (λr s1=>r=none/\Inv X aa σ H s1) E s
 self:∀ (A:Around) (i:Nat) (s:Shared) (Q:Value->Shared->Prop) (E:Value->Shared->Prop),tn i s.heap->Q ↥it s->wpAny (model P w) A (pyIter ↥it) Q E s
abbrev TI:=St->Hp->(It->Hp->Prop)->Prop
def Ux(X:Cx)(a:⇑(Ê × Obj))(c:St)(d:Þ)(R:It->Hp->Prop)(e:Ä)(f:É):Prop :=
 ∃ (it:Ê) (g:Zp) (h:Nat->þ->Prop) (J:It) (i:Hp),e=↥it/\Inv X a c i f/\Turn X.prog X.w X.K d J g it h/\h 0 f.heap/\(∀ b∈g,lC X a i b)/\R J i
def PI(X:Cx)(a c:Þ)(d:TI):Prop :=
 ∀ (e:⇑(Ê × Obj)) (s:É) (f:St) (H:Hp) (R:It->Hp->Prop),Inv X e f H s->d f H R ->
  â (Ü X.prog X.w) X.A (eval c X.env) (λv s1=>â (Ü X.prog X.w) X.A (pyIter v) (Ux X e f a R) X.xe s1) X.xe s
theorem Hj{M:Model}{s:É}{it:Ê}{n:String}{Q:Unit->É->Prop}(a:s.heap.get? it=↑o)(c:o.cls=.type n)(d:o.data=.fields e)
  (f:["enumerate","zip","dict_itemiterator","dict_reverseitemiterator","odict_iterator","itertools.zip_longest","itertools.pairwise"].contains n=false) (g:Q () s):â M A (letOwnedTupleGo i ↥it u) Q E s:=by
 cases i <;> first
  |exact Æ g
  |(cases u <;> first
    |exact Æ g
    |(refine À (wpAny_load a ?_)
      rw[c,d];show â M A (if (["enumerate","zip","dict_itemiterator","dict_reverseitemiterator","odict_iterator","itertools.zip_longest","itertools.pairwise"].contains n&&e[0]? == ↑_)=true then _ else _) Q E s;rw[Zv (by intro h;rw[f] at h;cases h)]
      exact Æ g))
def SA(K:Å)(a:Ê):It :=
 #[λi H=>∃ c x,jX K H a c/\c[i]?=↑x,λi H x d=>d=H/\∀ c,jX K H a c->c[i]?=↑x,λi H=>∃ c,jX K H a c/\c.length<=i]
def SD(K:Å)(a:Ê):It :=
 #[λi H=>∃ c x,dU K H a c/\c[i]?=↑x,λi H x d=>d=H/\∀ c,dU K H a c->c[i]?=↑x,λi H=>∃ c,dU K H a c/\c.length<=i]
def Qb(a:Int)(n:Nat):It:=#[λi _=>i < n,λi H x c=>c=H/\x= ~~~(a + i),λi _=>n<=i]
theorem Fz{P:ð}{w:ú}{K:Å}{tg:Þ}(a it:Ê):Turn P w K tg (SA K a) [it] it (λi h=>h.IsListIter it a i) where
 mem:=⋯
 obj:=λi h f b g=>by
  have e:b=it:=by simpa using g
  subst e;let(o,e,c,d):=f;exact#[o,e,λv z=>by rw[d] at z;cases z]
 keep:=λi h j f k=>f.at λo e=>k it ⋯ o e
 item:=by
  intro X l hw m n i q s r H E I y f A;subst l hw m;let(xs,x,B,C):=A;let(aw,F,p,hz):=I.list B;let(u,hu,ru):=F.get C;let(G,J,f2,L,N,U):=y it ⋯
  refine wpAny_pyNext_list_item f p.isList (x:=u) (by simpa using hu) λj Y sb=>?_
  have I1:Inv X q r H { s with heap:=j }:=I.turned (t':=s.toks) (λb o g e=>(sb.2 b g).trans e) G J L N U;let(o,e,c,d):=id Y;exact#[u,rfl,Hj (s:={ s with heap:=j }) e c d (-0) #[x,H,I1,ru,#[rfl,λys hy=>by rw[I.Ao hy B];exact C],Y,λb g=>(y b g).1]]
 done:=by
  intro X l hw m n i q s r H E I y f A;subst l hw m;let(xs,B,C):=A;let(aw,F,p,hz):=I.list B;let(G,J,f2,L,N,U):=y it ⋯
  have hl:=F.length;exact wpAny_pyNext_list_end (I.ok.hd n) f p.isList (by simp;exact Í (WA (_a hl)) C) λj eb=>#[rfl,I.turned (t':=s.toks) (λb o g e=>eb b o g e) G J L N U]
 self:=λ_ _ _ _ _ f h=>wpAny_pyIter_listiter f h
theorem Cf{P:ð}{w:ú}{K:Å}{tg:Þ}(a it:Ê):Turn P w K tg (SD K a) [it] it (λi h=>h.IsTupleIter it a i) where
 mem:=⋯
 obj:=λi h f b g=>by
  have e:b=it:=by simpa using g
  subst e;let(o,e,c,d):=f;exact#[o,e,λv z=>by rw[d] at z;cases z]
 keep:=λi h j f k=>f.at λo e=>k it ⋯ o e
 item:=by
  intro X l hw m n i q s σ H E I r f y;subst l hw m;let(xs,x,A,B):=y;let(C,F,p,hz):=I.tuple A;let(u,hu,ru):=F.get B;let(G,J,f2,L,N,U):=r it ⋯
  refine wpAny_pyNext_tuple_item f (show s.heap.IsTuple a C.toArray from p) (x:=u) (by simpa using hu) λj Y sb=>?_
  have I1:Inv X q σ H { s with heap:=j }:=I.turned (t':=s.toks) (λb o g e=>(sb.2 b g).trans e) G J L N U;let(o,e,c,d):=id Y;exact#[u,rfl,Hj (s:={ s with heap:=j }) e c d (-0) #[x,H,I1,ru,#[rfl,λys hy=>by rw[I.xh hy A];exact B],Y,λb g=>(r b g).1]]
 done:=by
  intro X l hw m n i q s σ H E I r f y;subst l hw m;let(xs,A,B):=y;let(C,F,p,hz):=I.tuple A;let(G,J,f2,L,N,U):=r it ⋯
  have hl:=F.length;exact wpAny_pyNext_tuple_end (I.ok.hd n) f (show s.heap.IsTuple a C.toArray from p) (by simp;exact Í (WA (_a hl)) B) λj eb=>#[rfl,I.turned (t':=s.toks) (λb o g e=>eb b o g e) G J L N U]
 self:=λ_ _ _ _ _ f h=>wpAny_pyIter_tupleiter f h
theorem Cg{P:ð}{w:ú}{K:Å}{a:Þ}(it:Ê)(c:Int)(n:Nat):Turn P w K a (Qb c n) [it] it (λi h=>IsRangeIter h it (c + (i:Nat) * 1) ((n:Int) - (i:Nat)) 1) where
 mem:=⋯
 obj:=λi h d b f=>by
  have e:b=it:=by simpa using f
  subst e;exact#[_,d,λv z=>by
   have g:Data.fields _=Data.cell v:=z;cases g]
 keep:=λi h j d k=>k it ⋯ _ d
 item:=by
  intro X l hw m p i q s r H E I u d x;subst l hw m;let(y,A,B,C,F,G):=u it ⋯
  have W:=Walks.range (prog:=X.prog) (w:=X.w) (I.ok.hd p) it c 1 n;refine W.item i s _ _ x d λv j J L N U=>?_;let(t,rfl):=L;have Y:Inv X q r H { s with heap:=j,toks:=J }:=I.turned (λb o f e=>U b o (by simpa using f) e) y A C F G
  refine#[_,rfl,Hj (s:={ s with heap:=j,toks:=J }) (n:="range_iterator") N rfl rfl (-0) #[~~~(c + i),H,Y,#[t,?_],#[rfl,rfl],N,λb f=>(u b f).1]]
  rw[mul_one]
 done:=by
  intro X l hw m p i q s r H E I u d x;subst l hw m;let(y,A,B,C,F,G):=u it ⋯
  exact wpAny_pyNext_range_end (I.ok.hd p) d (by have:n<=i:=x;omega) λj eb=>#[rfl,I.turned (t':=s.toks) (λb o f e=>eb b o f e) y A C F G]
 self:=λ_ _ _ _ _ d h=>wpAny_pyIter_rangeiter d h
section
variable {X:Cx}{tg:Þ}
def MO(K:Å)(tl:TE):TI:=λc H R=>tl c H λx d=>∃ a,x=↥a/\(∃ e,jX K d a e)/\R (SA K a) d
def S7(K:Å)(tl:TE):TI:=λc H R=>tl c H λx d=>∃ a,x=↥a/\(∃ e,dU K d a e)/\R (SD K a) d
theorem oU{tl:TE}(c:PE X l tl):PI X tg l (MO X.K tl):=by
 intro d s f H R I h;refine cF (c d s f H _ I h) λv s1 #[x,H1,g,i,j]=>?_;obtain⟨a,e,⟨k,m⟩,q⟩:=j;subst e;cases i;let(n,r,p,hz):=g.list m;apply Yn p.isList;refine#[s1.heap.objs.size,_,_,_,H1,rfl,g.kept  λb o e=>Â _ e,Fz a _,#[_,Ï _ rfl,rfl,rfl],λb u=>?_,q];have e :=by simpa using u
 subst e;exact g.oh (Ò _) (g.aX.fresh (Ò _))
theorem Hk{tl:TE}(c:PE X l tl):PI X tg l (S7 X.K tl):=by
 intro d s f H R I h;refine cF (c d s f H _ I h) λv s1 #[x,H1,g,i,j]=>?_;obtain⟨a,e,⟨k,m⟩,q⟩:=j;subst e;subst i;let(n,r,p,hz):=g.tuple m;apply WJ (show s1.heap.IsTuple a n.toArray from p);refine#[s1.heap.objs.size,_,_,_,H1,rfl,g.kept  λb o e=>Â _ e,Cf a _,#[_,Ï _ rfl,rfl,rfl],λb u=>?_,q];have e :=by simpa using u
 subst e;exact g.oh (Ò _) (g.aX.fresh (Ò _))
theorem uz{R:It->Hp->Prop}{a c:Int}{t u v:Tok}{d:Nat}(I:Inv X f σ H s)(g:-(2 ^ 62)<=a)(h:a < 2 ^ 62)(i:-(2 ^ 62)<=c)(j:c < 2 ^ 62)
  (q:R (Qb a (c - a).toNat) H):â (Ü X.prog X.w) X.A (pyIter ↥s.heap.objs.size) (Ux X f σ tg R) E { s with heap:=s.heap.push { cls:=.type "range",data:=.fields [.int a t,.int c u,.int 1 v].toArray },toks:=d }:=by
 apply wpAny_pyIter_range (IsRange.new ..) (small_one g h i j);have k:Inv X f σ H { s with heap:=s.heap.push { cls:=.type "range",data:=.fields [.int a t,.int c u,.int 1 v].toArray },toks:=d }:=I.kept λb o e=>Â _ e;refine#[_,_,_,_,H,rfl,
  k.kept  λb o e=>Â _ e,Cg _ a _,?_,λb l=>?_,q]
 .rw[(⋯:a + ((0:Nat):Int) * 1=a),(by rw[rangeSize_one];split <;> omega:(((c - a).toNat:Nat):Int) - ((0:Nat):Int)=V7 a c 1)];exact Ï _ rfl
 .have e:b=(s.heap.push { cls:=.type "range",data:=.fields [.int a t,.int c u,.int 1 v].toArray }).objs.size:=by simpa using l
  subst e;exact k.oh (Ò _) (k.aX.fresh (Ò _))
def QA(a:TA):TI:=λc H R=>a c H λd e=>∃ j:Int,d=[~~~j]/\-(2 ^ 62)<=j/\j < 2 ^ 62/\R (Qb 0 j.toNat) e
def MP(a:TA):TI:=λc H R=>a c H λd e=>∃ i j:Int,d=[~~~i,~~~j]/\(-(2 ^ 62)<=i/\i < 2 ^ 62/\-(2 ^ 62)<=j/\j < 2 ^ 62)/\R (Qb i (j - i).toNat) e
theorem xi{p pos:Pos}(c:Gl X "range")(d:X.mg "range"=none)(f:PA X [a] g)(hs:VC [a] X.env=[(false,eval a X.env)]:=by rfl):PI X tg (.Call (.Name "range" p) [a] [] pos) (QA g):=by
 intro i s k H R I h;refine Call_ (gI I c d boot_range (Vo (cF (f pos i s k H _ I h) λus s1 #[l,H1,m,n,o]=>?_) hs rfl));let(j,e,o,u,q):=o;subst e;cases n with
 |cons r v =>
  cases v;let(t,rfl):=r;exact call_range_1 (uz m ∅ ∅ o u (by simp_all))
theorem FA{a b:Þ}{p pos:Pos}(c:Gl X "range")(d:X.mg "range"=none)(f:PA X [a,b] g)(hs:VC [a,b] X.env=[(false,eval a X.env),(false,eval b X.env)]:=by rfl)(k:VC [b] X.env=[(false,eval b X.env)]:=by rfl) :
  PI X tg (.Call (.Name "range" p) [a,b] [] pos) (MP g):=by
 intro l s m H R I h;refine Call_ (gI I c d boot_range (Vo (cF (f pos l s m H _ I h) λus s1 #[n,H1,o,u,v]=>?_) (by simp_all) (by rw[k];rfl)))
 obtain⟨i,j,e,⟨v,w,x,y⟩,q⟩:=v;subst e;cases u with
 |cons r z =>
  cases z with
  |cons A z =>
   cases z;let(t,rfl):=r;let(B,rfl):=A;exact call_range_2 (uz o v w x y q)
def S8(a:TI)(g:TG)(c:TS):TS:=λD d H=>a d H λJ e=>∃ W:Nat->Nat->St->Hp->Prop,(∃ m,W 0 m d e)/\∀ i m d H,W i m d H ->
 (J.stop i H/\D.nx d H)\/(J.go i H/\∃ N:St->Hp->Prop,(∀ f h,N f h->∃ j,j < m/\W (i + 1) j f h)/\∀ x h,J.yld i H x h->g x d h λk l=>c { D with nx:=N,ct:=N,bk:=D.nx } k l)
def oi(a:Zp)(h:þ):⇑(Ê × Obj):=a.filterMap λb=>(h.get? b).map λo=>(b,o)
theorem iw{b:Ê}(a:b∈c)(e:h.get? b=↑o):(b,o)∈oi c h:=List.mem_filterMap.mpr #[b,a,by rw[e];rfl]
theorem qK(a:p∈oi c h):p.1∈c/\h.get? p.1=↑p.2:=by
 let(b,d,e):=List.mem_filterMap.mp a;cases q:h.get? b with
 |none=>rw[q] at e;cases e
 |some o =>
  rw[q] at e;have f :=ù e;subst f;exact#[d,q]
theorem Inv.pinned(I:Inv X a σ H s)(c:∀ b∈f,lC X a H b)(g:∀ b∈f,∃ o,s.heap.get? b=↑o/\∀ v,o.data≠.cell v):Inv X (a++oi f s.heap) σ H s :=
 I.mX λp h=>(Ð.mp h).elim (λz=>I.pin p (Ô _ z)) λz=>by
  let(i,e):=qK z;let(j,k,l,_):=c p.1 i;let(o,m,d):=g p.1 i
  simp_all
theorem Inv.uC{a pl:⇑(Ê × Obj)}(I:Inv X (a++pl) σ H s):Inv X a σ H s:=I.mX λp c=>I.pin p (Ô _ (ä _ c))
theorem Hl{pos:Pos}(a:PassesOwn (Ü X.prog X.w) X.A X.env X.xe)(hc:X.calm)(hi:PI X tg iter wi)(hg:PG X tg g)(c:eV X body tb)
  (hs:∀ x,Ww iter X.env x=pure x:=by intro _;rfl):PS X (.For tg iter body [] pos) (S8 wi g tb):=by
 intro j s σ H D I h;refine wpAny_For (cF (hi j s σ H _ I h) λv s1 h1=>cF h1 λitv s2 h2=>?_) hs;obtain⟨it,k,tn,J,H2,e,I2,T,eF,f2,W,⟨m0,w0⟩,l⟩:=h2;subst e;have p:∀ {q:Hp},(∀ b∈k,q b=none)->∀ b∈k,lC X j q b:=λhn b c=>#[hn b c,(f2 b c).2];refine codeAny_forLoop_any (λn s'=>∃ i y q,Inv X j y q s'/\tn i s'.heap/\(∀ b∈k,q b=none)/\W i n y q) ?_ m0 #[0,σ,H2,I2,eF,λb c=>(f2 b c).1,w0];rintro n s3 ⟨i,z,B,I3,B9,C,w3⟩;rcases l i n z B w3 with ⟨E,qn⟩ | ⟨go,N,hN,step⟩
 .refine Yg a (cF (T.done X rfl rfl rfl hc i j s3 z B X.xe I3 (p C) B9 E) λr s4 #[hr,I4]=>?_);subst hr;exact wpAny_execs_nil #[z,B,I4,qn]
 .refine Yg a (cF (T.item X rfl rfl rfl hc i j s3 z B X.xe I3 (p C) B9 go) λr s4 #[u,hr,h4]=>?_);subst hr;refine Yg a (cF h4 λ_ s5 #[x,H5,I5,r5,y5,F,fr5]=>?_);refine Yg a (cF (hg _ s5 z H5 x u _ (I5.pinned (p fr5) (T.obj _ _ F)) r5 (step x H5 y5)) λ_ s6 #[σ6,H6,I6,q6]=>?_);refine Yg a (cF (c _ s6 σ6 H6 _ I6 q6) λf s7 G=>?_);have K:∀ {L:St}{P:Hp},Inv X _ L P s7->N L P->∃ m,m < n/\∃ i y q,Inv X j y q s7/\tn i s7.heap/\(∀ b∈k,q b=none)/\W i m y q:=λ{L P} U Y=>by
   let(m',hm,w7):=hN L P Y;refine#[m',hm,_,L,P,U.uC,T.keep _ _ _ F λb c o e=>(U.pin _ (Ô _ (Ô _ (iw c e)))).1,λb c=>?_,w7];let(o,e,d):=T.obj _ _ F b c;exact(U.pin (b,o) (Ô _ (Ô _ (iw c e)))).2.1
  cases f with
  |next=>let(L,P,U,Y):=G;exact K U Y
  |cont=>let(L,P,U,Y):=G;exact K U Y
  |brk=>let(L,P,U,G):=G;exact#[L,P,U.uC,G]
  |ret v=>let(x7,L,P,U,r7,G):=G;exact#[x7,L,P,U.uC,r7,G]
end
abbrev R2:=V->V->Hp->VK->Prop
def gQ(X:Cx)(f:Ä->Ä->Sem Ä)(r:R2):Prop :=
 ∀ (a:⇑(Ê × Obj)) (s:É) (c:St) (H:Hp) (x y:V) (v u:Ä) (Q:VK),Inv X a c H s->RelV x v->RelV y u->r x y H Q ->
  â (Ü X.prog X.w) X.A (f v u) (EP X a c Q) X.xe s
def S9(X:Cx)(f:Ä->Sem Ä)(r:V->Hp->VK->Prop):Prop :=
 ∀ (a:⇑(Ê × Obj)) (s:É) (c:St) (H:Hp) (x:V) (v:Ä) (Q:VK),Inv X a c H s->RelV x v->r x H Q ->
  â (Ü X.prog X.w) X.A (f v) (EP X a c Q) X.xe s
def cA(X:Cx)(f:Ä)(r:⇑V->Hp->VK->Prop):Prop :=
 ∀ (a:⇑(Ê × Obj)) (s:É) (c:St) (H:Hp) (d:⇑V) (e:Zi) (Q:VK),Inv X a c H s->Vals d e->r d H Q ->
  â (Ü X.prog X.w) X.A (call f e) (EP X a c Q) X.xe s
def MQ(r:R2)(a c:TE):TE:=λd H Q=>a d H λx e=>c d e λy f=>r x y f Q
def UZ(r:V->Hp->VK->Prop)(a:TE):TE:=λc H Q=>a c H λx d=>r x d Q
def rI(C:Int->Int->Prop)(g:Int->Int->V):R2:=λx y H Q=>∃ i j,x= ~~~i/\y= ~~~j/\C i j/\Q (g i j) H
def NQ(g:Int->Int->V):R2:=λx y H Q=>∃ i j,x= ~~~i/\y= ~~~j/\Q (g i j) H
def rU(g:Int->V):V->Hp->VK->Prop:=λx H Q=>∃ i,x= ~~~i/\Q (g i) H
section
variable {X:Cx}{a b c:Þ}{ta tb tc:TE}{pos:Pos}
theorem NR(d:PE X a ta)(e:PE X b tb){g:⇑(Ê × Obj)}{s:É}{i:St}{H:Hp}{R:V->V->Hp->Prop}(I:Inv X g i H s)
  (h:ta i H λx j=>tb i j λy k=>R x y k) {Q:Ä->É->Prop}{f:Ä->Ä->Sem Ä}
  (l:∀ v u m x y k,Inv X g i k m->RelV x v->RelV y u->R x y k->â (Ü X.prog X.w) X.A (f v u) Q X.xe m) :
  â (Ü X.prog X.w) X.A (eval a X.env) (λv n=>â (Ü X.prog X.w) X.A (eval b X.env) (λu o=>â (Ü X.prog X.w) X.A (f v u) Q X.xe o) X.xe n) X.xe s:=by
 refine cF (d g s i H _ I h) λv s1 #[x,j,p,q,r]=>?_;refine cF (e g s1 i j _ p r) λu m #[y,k,z,B,C]=>?_;exact l v u m x y k z q B C
theorem Dy(d:gQ X (Wu op) r)(e:PE X a ta)(f:PE X b tb):PE X (.BinOp a op b pos) (MQ r ta tb):=by
 intro g s i H Q I h;exact wpAny_BinOp (NR e f I h λv u j x y k l m n q=>d g j i k x y v u Q l m n q)
theorem MS(d:S9 X (unaryOp op) r)(e:PE X a ta):PE X (.UnaryOp op a pos) (UZ r ta):=by
 intro f s g H Q I h;exact UnaryOp_ (cF (e f s g H _ I h) λv s1 #[x,H1,i,j,k]=>d f s1 g H1 x v Q i j k)
theorem Uy{C:Int->Int->Prop}{g:Int->Int->Int}
  (d:∀ (i j:Int) (t u:Tok) (s:É) (Q:Ä->É->Prop) (E:Ä->É->Prop),C i j->Q (.int (g i j) s.toks) { s with toks:=s.toks + 1 }->â (Ü X.prog X.w) X.A (f (.int i t) (.int j u)) Q E s) :
  gQ X f (rI C λi j=>~~~(g i j)):=by
 intro e s k H x y v u Q I l m h;let(i,j,rfl,rfl,n,q):=h;let(t,rfl):=l;let(o,rfl):=m;exact d i j t o s _ _ n #[~~~_,H,I.tok _,#[_,rfl],q]
theorem QB{g:Int->Int->Int}
  (d:∀ (i j:Int) (t u:Tok) (s:É) (Q:Ä->É->Prop) (E:Ä->É->Prop),Q (.int (g i j) s.toks) { s with toks:=s.toks + 1 }->â (Ü X.prog X.w) X.A (f (.int i t) (.int j u)) Q E s) :
  gQ X f (NQ λi j=>~~~(g i j)):=by
 intro e s k H x y v u Q I l m h;let(i,j,rfl,rfl,q):=h;let(t,rfl):=l;let(n,rfl):=m;exact d i j t n s _ _ #[~~~_,H,I.tok _,#[_,rfl],q]
theorem NT{g:Int->Int->Bool}
  (d:∀ (i j:Int) (t u:Tok) (s:É) (Q:Ä->É->Prop) (E:Ä->É->Prop),Q (.bool (g i j)) s->â (Ü X.prog X.w) X.A (f (.int i t) (.int j u)) Q E s) :
  gQ X f (NQ λi j=>.bl (g i j)):=by
 intro e s k H x y v u Q I l m h;let(i,j,rfl,rfl,q):=h;let(t,rfl):=l;let(n,rfl):=m;exact d i j t n s _ _ #[.bl _,H,I,rfl,q]
def Ta(i j:Int):Prop:=0<=j/\j<=1000000/\i.natAbs < 2 ^ 64
theorem NU:gQ X (Wu .Add) (NQ λi j=>~~~(i + j)):=QB λ_ _ _ _ _ _ _ q=>add_int q
theorem NV:gQ X (Wu .Sub) (NQ λi j=>~~~(i - j)):=QB λ_ _ _ _ _ _ _ q=>sub_int q
theorem NW:gQ X (binaryOp .Mod) (rI (λ_ j=>0 < j) λi j=>~~~(i % j)):=Uy λi j _ _ _ _ _ hc q=>by
 exact mod_int' ∅ (by rw[Int.fmod_eq_emod_of_nonneg i (Vz hc)];exact q)
theorem NX:gQ X (Wu .Pow) (rI Ta λi j=>~~~(i ^ j.toNat)):=Uy λ_ _ _ _ _ _ _ d q=>pow_int_small d.1 d.2.1 d.2.2 q
theorem U2{g:Int->Int}
  (d:∀ (i:Int) (t:Tok) (s:É) (Q:Ä->É->Prop) (E:Ä->É->Prop),Q (.int (g i) s.toks) { s with toks:=s.toks + 1 }->â (Ü X.prog X.w) X.A (f (.int i t)) Q E s) :
  S9 X f (rU λi=>~~~(g i)):=by
 intro e s j H x v Q I k h;let(i,rfl,q):=h;let(t,rfl):=k;exact d i t s _ _ #[~~~_,H,I.tok _,#[_,rfl],q]
theorem Hm:S9 X (unaryOp .USub) (rU λi=>~~~(-i)):=U2 λ_ _ _ _ _ q=>neg_int q
theorem Hn{Q:VK}(I:Inv X d σ H s)(q:Q (.bl k) H)(e:k=f):EP X d σ Q (.bool f) s:=by
 subst e;exact#[.bl k,H,I,rfl,q]
theorem QC:gQ X (VZ .LtE) (NQ λi j=>.bl (decide (i<=j))):=NT λ_ _ _ _ _ _ _ q=>le_int q
theorem QD:gQ X (VZ .Gt) (NQ λi j=>.bl (decide (j < i))):=NT λ_ _ _ _ _ _ _ q=>gt_int q
theorem QE:gQ X (VZ .GtE) (NQ λi j=>.bl (decide (j<=i))):=NT λ_ _ _ _ _ _ _ q=>ge_int q
theorem NY:gQ X (VZ .Is) (λx y H Q=>y=.cq/\Q (.bl (decide (x=.cq))) H):=by
 intro d s e H x y v u Q I f g h;let(rfl,q):=h;subst g;refine is_none_gen (Hn I q ?_);cases x <;> first
  |(rfl)
  |(let(t,rfl):=f;rfl)
theorem yw(d:gQ X (VZ op) r)(e:PE X a ta)(f:PE X b tb)(g:behindInMarks op b=false):PE X (.Compare a [op] [b] pos) (MQ r ta tb):=by
 intro i s j H Q I h;exact wpAny_Compare1 (NR e f I h λv u k x y l m n o q=>d i k j l x y v u Q m n o q) g
def Ho(t:TE):TT:=λd H Q=>t d H λx e=>∃ k,x=.bl k/\Q k e
theorem oV(d:gQ X (VZ op) r)(f:PE X a ta)(g:PE X b tb)(i:behindInMarks op b=false):PT X (.Compare a [op] [b] pos) (Ho (MQ r ta tb)):=by
 intro j s l H Q I h;refine wpAny_isTrue_Compare1 (cF (f j s l H _ I h) λv s1 #[x,H1,m,n,o]=>cF (g j s1 l H1 _ m o) λu s2 #[y,p,q,w,A] =>
  cF (d j s2 l p x y v u _ q n w A) λc s3 #[z,B,C,E,k,e,F]=>?_) i
 subst e;subst E;exact Wi #[B,C,F]
def Cj(r d:R2)(ta tb tc:TE):TE:=λe H Q=>ta e H λx f=>tb e f λy g=>r x y g λz h=>∃ k,z=.bl k /\
 (if k=true then tc e h λi j=>d y i j Q else Q (.bl false) h)
theorem Hq(f:gQ X (VZ op) r)(g:gQ X (VZ i) j)(l:PE X a ta)(m:PE X b tb)(n:PE X c tc)
  (o:lastMarks [op,i] [b,c]=false:=by with_unfolding_all rfl):PE X (.Compare a [op,i] [b,c] pos) (Cj r j ta tb tc):=by
 intro p s q H Q I h;refine Compare_chain (cF (l p s q H _ I h) λv s1 #[x,H1,w,A,B]=>chain_link (cF (m p s1 q H1 _ w B) λu s2 #[y,C,E,F,G] =>
  cF (f p s2 q C x y v u _ E A F G) λd s3 #[z,J,K,L,k,e,N]=>?_)) o
 subst e;subst L;apply Wi;cases k with
 |false=>exact ite_ff #[.bl false,J,K,rfl,N]|true=>exact ite_tt (chain_last (cF (n p s3 q J _ K N) λP s4 #[U,Y,I4,r4,q4]=>g p s4 q Y y U u P Q I4 F r4 q4))
theorem Hr(f:gQ X (VZ op) r)(g:gQ X (VZ i) j)(l:PE X a ta)(m:PE X b tb)(n:PE X c tc)
  (o:lastMarks [op,i] [b,c]=false:=by with_unfolding_all rfl):PT X (.Compare a [op,i] [b,c] pos) (Ho (Cj r j ta tb tc)):=by
 intro p s q H Q I h;refine isTrue_chain (cF (l p s q H _ I h) λv s1 #[x,H1,w,A,B]=>test_link (cF (m p s1 q H1 _ w B) λu s2 #[y,C,E,F,G] =>
  cF (f p s2 q C x y v u _ E A F G) λd s3 #[z,J,K,L,k,e,N]=>?_)) o
 subst e;subst L;apply Wi;cases k with
 |false =>
  let(k',P,U):=N;cases P;exact ite_ff #[J,K,U]
 |true =>
  refine ite_tt (test_last (cF (n p s3 q J _ K N) λY s4 #[z',H4,I4,r4,q4]=>cF (g p s4 q H4 y z' u Y _ I4 F r4 q4) λd' s5 #[z2,H5,I5,r5,k2,e2,q5]=>?_));subst e2;subst r5;exact Wi #[H5,I5,q5]
theorem oj:(sizeLine:Nat) < 2 ^ 63:=by decide
theorem vals1(r:Vals [x] us):∃ u,us=[u]/\RelV x u:=by
 cases r with
 |cons d e=>cases e;exact#[_,rfl,d]
theorem vals2(r:Vals [x,y] us):∃ u d,us=[u,d]/\RelV x u/\RelV y d:=by
 cases r with
 |cons e f =>
  cases f with
  |cons g h=>cases h;exact#[_,_,rfl,e,g]
theorem FC(d:X.calm):cA X (.builtin "max") (λe H Q=>∃ i j,e=[~~~i,~~~j]/\Q (~~~(if j > i then j else i)) H):=by
 intro f s g H e l Q I r h;let(i,j,rfl,q):=h;obtain⟨u,m,rfl,⟨t,rfl⟩,⟨n,rfl⟩⟩:=vals2 r;refine max_two_ints (I.ok.hd d) λo p k=>#[_,H,I.kept k,?_,q];by_cases v:j > i
 .rw[Zu v,Zu v];exact#[_,rfl]
 .rw[Zv v,Zv v];exact#[_,rfl]
theorem FD(d:X.calm):cA X (.builtin "min") (λe H Q=>∃ i j,e=[~~~i,~~~j]/\Q (~~~(if j < i then j else i)) H):=by
 intro f s g H e l Q I r h;let(i,j,rfl,q):=h;obtain⟨u,m,rfl,⟨t,rfl⟩,⟨n,rfl⟩⟩:=vals2 r;refine min_two_ints (I.ok.hd d) λo p k=>#[_,H,I.kept k,?_,q];by_cases v:j < i
 .rw[Zu v,Zu v];exact#[_,rfl]
 .rw[Zv v,Zv v];exact#[_,rfl]
theorem xj:cA X (.type "int") (λd H Q=>(∃ i,d=[~~~i]/\Q (~~~i) H)\/∃ k,d=[.bl k]/\Q (~~~(if k then 1 else 0)) H):=by
 intro e s f H d g Q I r h;rcases h with ⟨i,rfl,q⟩ | ⟨k,rfl,q⟩
 .let(u,rfl,t,rfl):=vals1 r;exact call_int_int #[~~~i,H,I,#[_,rfl],q]
 .let(u,rfl,j):=vals1 r;subst j;exact call_int_bool #[~~~_,H,I.tok _,#[_,rfl],q]
end
structure eG(k:Nat)(A:Around):Prop where
 hd:A.handled=none
 dp:A.depth + 3 * k + 5 < recursionLimit
 un:A.units + 16 * k + 200 < cLine
theorem eG.deeper(r:eG (k + 1) A)(a:Env):eG k (A.deeper a) :=
 #[r.hd,by have:=r.dp;show A.depth + 1 + 3 * k + 5 < _;omega,by have:=r.un;show A.units + 3 + 16 * k + 200 < _;omega]
theorem eG.depth(r:eG k A):A.depth < recursionLimit:=by have:=r.dp;omega
theorem eG.units{A:Vl}(r:eG k A):A.units + 64 < cLine:=by have:=r.un;omega
def Tc:TA:=λ_ H Q=>Q [] H
def QF(a:TE)(c:TA):TA:=λd H Q=>a d H λx e=>c d e λf g=>Q (x::f) g
section
variable {X:Cx}{e:Þ}{es:Zm}{te:TE}{t:TA}{pos:Pos}
theorem gJ:PA X [] Tc:=λ_ _ _ _ H Q I h=>X8 #[[],H,I,.nil,h]
theorem cG(a:PE X e te)(c:PA X es t)(hs:VC (e::es) X.env=(false,eval e X.env)::VC es X.env:=by rfl):PA X (e::es) (QF te t):=by
 intro pos d s f H Q I h;rw[hs];refine YL (cF (a d s f H _ I h) λu s1 #[x,H1,g,i,j]=>?_);exact cF (c pos d s1 f H1 _ g j) λus s2 #[xs,k,l,m,n]=>#[_,k,l,.cons i m,n]
def Td(t:TA):TE:=λa H Q=>t a H λc d=>c.length<=sizeLine/\∀ p,d p=none->Q ↥p (upd d p (.tup c))
def Te(t:TA):TE:=λa H Q=>t a H λc d=>c.length<=sizeLine/\∀ p,d p=none->Q ↥p (upd d p (.lst c))
theorem Hs(h:PA X es t):PE X (.Tuple es a pos) (Td t):=by
 intro c s d H Q I f;refine wpAny_Tuple_spliced (cF (h pos c s d H _ I f) λus s1 #[xs,H1,g,r,z,q]=>#[by rw[<-r.length];exact z,?_])
 refine#[↥s1.heap.objs.size,_,g.laid  (λb u e=>Â _ e) (Ò _) ?_,rfl,q _ (g.aX.fresh (Ò _))];exact#[z,us,r,#[_,Ï _ rfl,rfl,_,rfl]]
theorem Ck(h:PA X es t):PE X (.List es pos) (Te t):=by
 intro a s c H Q I d;refine wpAny_List_spliced (cF (h pos a s c H _ I d) λus s1 #[xs,H1,f,r,z,q]=>#[by rw[<-r.length];exact z,?_])
 refine#[↥s1.heap.objs.size,_,f.laid  (λb u e=>Â _ e) (Ò _) ?_,rfl,q _ (f.aX.fresh (Ò _))];exact#[z,us,0,r,Ï _ rfl]
end
abbrev Sp:=⇑V->Hp->VK->XK->Prop
abbrev G2:=⇑Env->Hp->É->XK->Ä->É->Prop
structure wK(P:Program)(w:World)(K:PySem.W.Frag)(mg:Str->Option Value)(base:Heap)(A:Around)(outer:⇑Env)(s:Shared)(H:Hp):Prop where
 frames:A.frames=↑outer
 mod:Mod K mg base
 bs:∀ b o,base.get? b=↑o->s.heap.get? b=↑o/\H b=none
 bsz:base.objs.size<=s.heap.objs.size
 ll:s.heap.FunFrames base outer
 frf:∀ b∈fw outer,H b=none
 aX:jV P w H s.heap
 bare:AllBare s.gens
def CE(a:⇑Env)(P:ð)(w:ú)(H:Hp)(s:É)(Q:VK)(u:Ä)(c:É):Prop :=
 ∃ v d,c.os=s.os/\AllBare c.gens/\Un (fw a) [] H d s.heap c.heap/\jV P w d c.heap/\RelV v u/\Q v d
def CR(a:G2)(c:⇑Env)(P:ð)(w:ú)(H:Hp)(s:É)(Q:VK)(E:XK)(r:Result)(d:É):Prop :=
 match r with
 |.ok (.ret u)=>CE c P w H s Q u d|.ok _=>False|.error e=>a c H s E e d
structure jY(P:Program)(w:World)(K:PySem.W.Frag)(mg:Str->Option Value)(base:Heap)(CX:G2)(k:Nat)(f:Addr)(fd:FuncData)(ps:⇑Str)(sp:Sp):Prop where
 len:∀ vs H Q E,sp vs H Q E->vs.length=ps.length
 run:∀ (A:Around) (outer:⇑Env) (s:Shared) (H:Hp) (args:Args) (us:⇑Value) (vs:⇑V) (Q:VK) (E:XK),eG k A->wK P w K mg base A outer s H->BindsTo s fd args (ps.zip us)->Vals vs us->sp vs H Q E ->
  codeAny (model P w) A (.call ↥f args) (CR CX outer P w H s Q E) s
section
variable {X:Cx}{aa:⇑(Ê × Obj)}{σ:St}{H:Hp}{s s':É}
theorem Inv.Ht(I:Inv X aa σ H s):wK X.prog X.w X.K X.mg X.base X.A X.stack s H :=
 #[I.ok.frames,I.ok.mod,I.bs,Í I.ok.bsz I.sz,I.stack,I.gU,I.aX,I.bare]
theorem Inv.after{Q:VK}(I:Inv X aa σ H s)(h:CE X.stack X.prog X.w H s Q u s'):EP X aa σ Q u s':=by
 let(v,a,c,bare,un,e,r,q):=h;let(f,g,d,t,i):=s';obtain rfl:i=s.os:=c;exact#[v,a,I.call      un e bare (λb z=>absurd z ⋯),r,q]
end
def QG(a:Sp)(c:⇑V)(E:XK)(t:TA):TE:=λd H Q=>t d H λe f=>a (e++c) f Q E
def Binds(K:Å)(fd:V2)(a:Zj)(ds:Zi):Prop :=
 ∀ (s:É) (c:Zi),K.In s.heap->(c++ds).length=a.length->BindsTo s fd #[c,[]] (a.zip (c++ds))
theorem Binds.all{K:Å}{fd:V2}{ps:Zj}(h:∀ a:Zi,a.length=ps.length->bindArgs fd #[a,[]]=pure (ps.zip a)):Binds K fd ps []:=λs a _ c=>by
 rw[ó] at c ⊢;exact .of_eq (h a c)
def Passes(a:G2)(X:Cx)(E:XK):Prop:=∀ (c:⇑(Ê × Obj)) (d:St) (H:Hp) (s:É) (e:Ä) (f:É),Inv X c d H s->a X.stack H s E e f->X.xe e f
section
variable {X:Cx}{CX:G2}{k:Nat}{f C:Ê}{fd:V2}{ps:Zj}{sp:Sp}{dvs:⇑V}{ds:Zi}{E:XK}{x m:Str}{p pos apos:Pos}{e o:Þ}{es:Zm}{ta:TE}{t:TA}
theorem NZ{aa:⇑(Ê × Obj)}{σ:St}{H:Hp}{s:É}{Q:VK}{us:Zi}{vs:⇑V}(F:jY X.prog X.w X.K X.mg X.base CX k f fd ps sp)(hr:eG k X.A)(hb:Binds X.K fd ps ds)(hd:Vals dvs ds)(hx:Passes CX X E)
  (I:Inv X aa σ H s) (r:Vals vs us) (h:sp (vs++dvs) H Q E):â (Ü X.prog X.w) X.A (call ↥f us) (EP X aa σ Q) X.xe s:=by
 have r2 :=r.append hd;refine wpAny_call (Xg (F.run X.A X.stack s H _ _ _ Q E hr I.Ht (hb s us I.mW (by rw[<-r2.length];exact F.len _ _ _ _ h)) r2 h) λr s' hq=>?_);cases r with
 |error e=>exact hx aa σ H s e s' I hq
 |ok fl =>
  cases fl with
  |ret u=>exact I.after hq|next=>exact tv hq
  |brk=>exact tv hq|cont=>exact tv hq
theorem KW(F:jY X.prog X.w X.K X.mg X.base CX k f fd ps sp)(a:eG k X.A)(c:Gl X x)(d:X.mg x=↑↥f)(g:Yc X.K ↥f)(i:Binds X.K fd ps ds)(j:Vals dvs ds)(l:Passes CX X E)
  (n:PA X (e::es) t) (u:(x == ("__debug__":Str))=false:=by decide) (v:VC (e::es) X.env=(false,eval e X.env)::VC es X.env:=by rfl) (y:(backTo pos (VC es X.env)).any (·.1)=false:=by rfl) :
  PE X (.Call (.Name x p) (e::es) [] pos) (QG sp dvs E t):=by
 intro z s B H Q I h;refine Xx (mZ I c d ?_ u);refine callWith_K  I.ok.mod.kin g (cF (n pos z s B H _ I h) λus s1 #[G,H1,J,r,q]=>#[J.mW,?_]) v y;exact NZ F a i j l J r q
end
structure fy(N P:⇑Str)(sc:Scope):Prop where
 kind:sc.kind=.function
 co:sc.isCoroutine=false
 gen:sc.isGenerator=false
 nd:N.Nodup
 pre:N.take P.length=P
 par:∀ x∈P,sc.names.lookup x=↑.local\/sc.names.lookup x=↑.cell
 nofree:∀ y∈sc.names,y.2≠.free
theorem xk{a:Str->Option Yh}{x:Str}:∀ {binds:⇑(Str × Ä)}{m:Str->Zn},(∀ v,(x,v) ∉ binds)->bindL a binds m x=m x
 |[],_,_=>rfl
 |(n,v)::r,m,h=>by
  unfold bindL;rw[xk λw hw=>h w (Î _ hw)];split
  .have:x≠n:=by rintro rfl;exact h v È
   simp[this]
  .rfl
theorem xm{a:Str->Option Yh}{x:Str}:∀ {binds:⇑(Str × Ä)}{m:Str->Zn},(∀ v,(x,v) ∉ binds)->bindC a binds m x=m x
 |[],_,_=>rfl
 |(n,v)::r,m,h=>by
  unfold bindC;rw[xm λw hw=>h w (Î _ hw)];split
  .rfl
  .have:x≠n:=by rintro rfl;exact h v È
   simp[this]
theorem qL{a:Str->Option Yh}{x:Str}{v:Ä}:∀ {P:Zj}{c:Zi}{i:Nat}{m:Str->Zn},P.Nodup->P[i]?=↑x->c[i]?=↑v->a x=↑.local ->
  bindL a (P.zip c) m x=↑v
 |[],_,_,_,_,h,_,_=>by simp at h|_::_,[],_,_,_,_,h,_=>by simp at h
 |p::P,w::c,0,m,d,e,f,g=>by
  simp at e f;subst e;subst f;show bindL a ((p,w)::P.zip c) m p=_;unfold bindL;rw[xk λv j=>(Xi.mp d).1 (of_mem_zip j).1,Zu g];simp
 |p::P,w::c,i + 1,m,d,e,f,g=>by
  unfold bindL;exact qL  (Xi.mp d).2 (e) (f) g
theorem qM{a:Str->Option Yh}{x:Str}{v:Ä}:∀ {P:Zj}{c:Zi}{i:Nat}{m:Str->Zn},P.Nodup->P[i]?=↑x->c[i]?=↑v->a x≠↑.local ->
  bindC a (P.zip c) m x=↑v
 |[],_,_,_,_,h,_,_=>by simp at h|_::_,[],_,_,_,_,h,_=>by simp at h
 |p::P,w::c,0,m,d,e,f,g=>by
  simp at e f;subst e;subst f;show bindC a ((p,w)::P.zip c) m p=_;unfold bindC;rw[xm λv j=>(Xi.mp d).1 (of_mem_zip j).1,Zv g];simp
 |p::P,w::c,i + 1,m,d,e,f,g=>by
  unfold bindC;exact qM  (Xi.mp d).2 (e) (f) g
def start(N:Zj)(a:⇑V):St:=a.map some++ÿ (N.length - a.length) none
def jx(CX:G2)(P:ð)(w:ú)(K:Å)(mg:Str->Zn)(base:þ)(N:Zj)(qual:Str)(scope:ý)(f:Ê)(cd:Ä)(A:Vl)(outer:⇑Env)(s:É)(H:Hp)(E:XK):Cx where
 prog:=P
 w:=w
 K:=K
 mg:=mg
 base:=base
 A:=A.deeper (envOfC qual scope s.heap.objs.size f cd)
 N:=N
 s₀:=s
 H₀:=H
 env:=envOfC qual scope s.heap.objs.size f cd
 outer:=outer
 stack:=envOfC qual scope s.heap.objs.size f cd::outer
 ex:=[]
 calm:=true
 fn:=λ_=>true
 pn:=[]
 xe:=λe s'=>â (Ü P w) (A.deeper (envOfC qual scope s.heap.objs.size f cd)) (leaving (envOfC qual scope s.heap.objs.size f cd) e) (λ_ s''=>CX outer H s E e s'') (λe' s''=>CX outer H s E e' s'') s'
theorem oW{a:ý}{n:Nat}{x:Str}(h:a.names.lookup x=↑.cell):∃ c,(cellsFrom n a.names []).lookup x=↑c:=by
 exact Option.isSome_iff_exists.mp (cellsFrom_some a.names n [] (.inl h))
theorem xn{a:G2}{P:ð}{w:ú}{K:Å}{d:Str->Zn}{g:þ}{N j:Zj}{l:Str}{m:ý}{f:Ê}{n:Ä}{A:Vl}{o:⇑Env}{s s1:É}{H:Hp}{E:XK}{B:Zi}{C:⇑V}
  (S:fy N j m) (hd:A.handled=none) (F:wK P w K d g A o s H) (hl:C.length=j.length) (r:Vals C B)
  (x:InCallC s s.heap.objs.size (bindL (envOfC l m s.heap.objs.size f n).kindOf (j.zip B) λ_=>none) (cellsFrom (s.heap.objs.size + 1) m.names []) (bindC (envOfC l m s.heap.objs.size f n).kindOf (j.zip B) λ_=>none) s1) :
  Inv (jx a P w K d g N l m f n A o s H E) [] (start N C) H s1:=by
 let(G,tk,rfl,hk):=x.done;have I:∀ b ,b ∉ (jx a P w K d g N l m f n A o s H E).ex:=λb z=>absurd (show b∈([]:Zp) from z) ⋯
 refine#[#[F.mod,S.kind,rfl,rfl,Ò _,λy z c G J=>?_,λy L=>?_,λy c _ h=>?_,λ_=>hd,Around.frames_deeper F.frames,.inr #[rfl,rfl],λb z=>absurd z (I b),F.bs,F.bsz,λb _ _=>I b,λb z=>absurd z (I b),F.ll,F.frf],
  rfl,F.bare,Un.kept hk,#[_,x.toInCall.ns,λi y v G J h3=>?_],λy c h=>#[_,x.cell y c h],F.aX.fresh (Ò _),λy c h=>?_,λp U=>absurd (show p∈([]:⇑_) from U) ⋯,F.aX.kept hk,?_]
 .exact name_of_addr x.apart (î G) (î J)
 .rcases L with L | L
  .exact oW L
  .exact absurd rfl (S.nofree _ (î L))
 .exact so (x.above y c (î h))
 .have X:i < C.length:=by
   unfold start at J;by_cases X:i < C.length
   .exact X
   .rw[Vm (by simpa using X)] at J
    rw[List.getElem?_replicate] at J;split at J <;> cases J
  let(u,hu,rv):=r.get (by
   unfold start at J;rw[WZ (by simp_all)] at J
   simp_all:C[i]?=↑v);have U:j[i]?=↑y:=by
   rw[<-S.pre,List.getElem?_take_of_lt (_c X hl)];exact G
  have Y:j.Nodup:=by rw[<-S.pre];exact S.nd.sublist (WB _ _)
  refine#[u,rv,?_];rcases S.par y (ë U) with k | k
  .exact .inl #[k,qL Y U hu k]
  .let(c,e):=oW  k;refine .inr #[.inl k,c,e,?_];have q:=x.cell y c e;rw[qM Y U hu (by show m.names.lookup y≠_;rw[k];decide)] at q
   exact q
 .exact F.aX.fresh (so (x.above y c (î h)))
 .delta start
  show _=N.length;rw[Ó,Ã,XX];exact Xa (Í (WA hl) (by have:=congrArg List.length S.pre;grind))
theorem QH{a:G2}{P:ð}{w:ú}{K:Å}{c:Str->Zn}{d:þ}{k:Nat}{f:Ê}{g h:Str}{i:Yl}{j:⇑V9}{l:ý}{dV kV m pm p ct oc:Ä}{an od:Zk}
  {osl:Array Zn}{N ps:Zj}{sp:Sp} (lk:K.lookup f=↑#[oc,od,.func (fnOf g h i j l dV kV m pm an p ct),osl]) (hcd:PySem.W.codeIn K p h) (S:fy N ps l)
  (len:∀ z H Q E,sp z H Q E->z.length=ps.length)
  (B:∀ (A:Vl) (C:⇑Env) (s:É) (H:Hp) (z:⇑V) (Q:VK) (E:XK),eG k (A.deeper (envOfC h l s.heap.objs.size f p))->sp z H Q E ->
   ∃ t,eV (jx a P w K c d N h l f p A C s H E) j t/\t { nx:=λ_ F=>Q .cq F,rt:=Q } (start N z) H) :
  jY P w K c d a (k + 1) f (fnOf g h i j l dV kV m pm an p ct) ps sp:=by
 refine#[len,λA C s H args us z Q E hr G hb r L=>?_];have KX :=G.mod.kin.keeps λb o e=>(G.bs b o e).1;have lim :=G.mod.nolimit.keeps λb o e=>(G.bs b o e).1;refine codeAny_call_function hr.depth (KX _ _ lk) rfl S.co S.gen rfl (codeRec_of KX hcd) (hb _ _ _ _ ?_);refine wpAny_newFunctionEnv_cells S.kind (λ#[n,v] hy=>by
  rcases S.par n (of_mem_zip hy).1 with q | q
  .exact .inl q
  .exact .inr #[q,cellsFrom_some _ _ _ (.inl q)]) λenv he s1 x=>?_;subst he;refine#[lim.keeps x.toInCall.keep,codeAny_func ?_];let(t,ht,hq):=B A C s H z Q E (hr.deeper _) L;refine VY (ht [] s1 _ H _ (xn S hr.hd G (len _ _ _ _ L) r x) hq) (λfl s' hs=>?_) λe s' hs=>hs;have X:∀ {Y:St}{F:Hp}{v:V}{u:Ä},Inv (jx a P w K c d N h l f p A C s H E) [] Y F s'->RelV v u->Q v F->CE C P w H s Q u s' :=
  λ{Y F v u} J rv q=>#[v,F,J.os,J.bare,J.base,J.aX,rv,q]
 cases fl with
 |ret u =>
  let(v,Y,F,J,rv,q):=hs;exact X J rv q
 |next =>
  let(Y,F,J,q):=hs;exact X (v:=V.cq)  J rfl q
 |brk =>
  let(_,_,_,q):=hs;exact tv q
 |cont =>
  let(_,_,_,q):=hs;exact tv q
section
variable {X:Cx}{x:Str}{p pos:Pos}{e:Þ}{es:Zm}{t:TA}{id T:String}{r:⇑V->Hp->VK->Prop}
def Tf(r:⇑V->Hp->VK->Prop)(t:TA):TE:=λa H Q=>t a H λc d=>r c d Q
theorem jy(a:cA X (.builtin id) r)(c:Gl X x)(d:X.mg x=none)(f:Vk x=↑(.builtin id))(g:PA X (e::es) t)(i:x≠"__name__":=by decide)(j:(x == ("__debug__":Str))=false:=by decide)
  (k:VC (e::es) X.env=(false,eval e X.env)::VC es X.env:=by rfl) (l:(backTo pos (VC es X.env)).any (·.1)=false:=by rfl):PE X (.Call (.Name x p) (e::es) [] pos) (Tf r t):=by
 intro m s n H Q I h;refine Xx (gI I c d f ?_ i j);exact PyProof.Rows.callWith_builtin1 (cF (g pos m s n H _ I h) λus s1 #[o,H1,q,u,v]=>a m s1 n H1 o us Q q u v) k l
theorem qN(a:cA X (.type T) r)(c:Gl X x)(d:X.mg x=none)(f:Vk x=↑(.type T))(g:PA X (e::es) t)(i:x≠"__name__":=by decide)(j:(x == ("__debug__":Str))=false:=by decide)
  (k:VC (e::es) X.env=(false,eval e X.env)::VC es X.env:=by rfl) (l:(backTo pos (VC es X.env)).any (·.1)=false:=by rfl):PE X (.Call (.Name x p) (e::es) [] pos) (Tf r t):=by
 intro m s n H Q I h;refine Xx (gI I c d f ?_ i j);exact Vo (cF (g pos m s n H _ I h) λus s1 #[o,H1,q,u,v]=>a m s1 n H1 o us Q q u v) k l
end
end L2
namespace HT
open PySem PyProof.Rows
theorem Hu(A:Vl)(s:É)(a:Int)(t:Tok)(c:Int)(u:Tok):∃ e,SeqAt.EqAt A s (.int a t) (.int c u) e/\(e↔a=c) :=
 #[_,SeqAt.EqAt.int_int a t c u,⋯]
theorem Ap(A:Vl)(s:É)(a:Int)(t:Tok)(c:Int)(u:Tok)(prog:ð)(w:ú)(E:Ä->É->Prop)(Q:Ä->É->Prop)(h:Q (.bool (decide (a < c))) s) :
  â (Ü prog w) A (richCompare .Lt (.int a t) (.int c u)) Q E s :=
 (lt_int h:â _ A _ Q E s)
section
variable {prog:ð}{w:ú}{A:Vl}{E:Ä->É->Prop}{s:É}
theorem Dz{t b:Ê}{Q:Ä->É->Prop}(a:IsTup s.heap t c.toArray)(d:IsTup s.heap b ws.toArray)(f:c≠[])
  (g:ws=[]->Q ↥t s) (h:ws≠[]->Q ↥s.heap.objs.size { s with heap:=s.heap.push { cls:=.type "tuple",data:=.seq (c++ws).toArray } })
  (i:c.length + ws.length<=sizeLine):â (Ü prog w) A (Wu .Add ↥t ↥b) Q E s:=by
 obtain⟨⟨cls,j,data,sl⟩,k,l,n,m⟩:=id a;obtain⟨⟨o,p,q,r⟩,u,v,n2,x⟩:=id d;subst l m v x;by_cases hw:ws=[]
 .exact concat_meets #[_,k,rfl] #[_,u,rfl] noFill_tuple_add seq_tuple_add XT XH (Xy _ _)
   (tuple_addW1 t b c.toArray ws.toArray n n2 j p sl r (by simpa using f) (by simp[hw])) #[k,u,g hw]
 .refine concat_meets #[_,k,rfl] #[_,u,rfl] noFill_tuple_add seq_tuple_add XT XH (Xy _ _)
   (tuple_addW2 t b c.toArray ws.toArray n n2 j p sl r (by simpa using f) (by simp_all) (by simp_all)) #[k,u,?_]
  simp_all
def dO(n d:Nat):Zq->Nat
 |none=>d|↑v=>if v < 0 then(v + (n:Int)).toNat else min v.toNat n
theorem DC(v:Int)(n d:Nat):(if v < 0 then max (v + (n:Int)) 0 else min v (n:Int))=((dO n d ↑v:Nat):Int):=by
 show(if v < 0 then max _ 0 else min v _)=(((if v < 0 then(v + (n:Int)).toNat else min v.toNat n):Nat):Int)
 grind
theorem Cn(a c:Zq)(n:Nat):sliceAdjust a c 1 (n:Int)=(((dO n 0 a:Nat):Int),((dO n n c:Nat):Int)):=by
 refine Prod.ext ?_ ?_
 .cases a with
  |none=>rfl|some v=>exact DC v n 0
 .cases c with
  |none=>rfl|some v=>exact DC v n n
theorem Co(i j:Nat):Yo (i:Int) (j:Int) 1=j - i:=by
 delta Yo
 grind
theorem uD{Q:Zq->É->Prop}(p:IsPart v o)(h:Q o s):â (Ü prog w) A (Builtin.Slice.slicePartIndex v) Q E s:=by
 cases p with
 |none=>exact slicePart_none h|int i t=>exact slicePart_int h
theorem dW{Q:Int × Int × Nat->É->Prop}(hs:s.heap.IsSliceOf sl a c .none)(pl:IsPart a d)(e:IsPart c f)
  (h:Q (((dO n 0 d:Nat):Int),1,dO n n f - dO n 0 d) s):â (Ü prog w) A (sliceApplied ↥sl (pure (n:Int))) Q E s:=by
 let(g,i,j,k):=id hs;refine À (À (Wh i k (x:=a) rfl (À (Wh i k (x:=c) rfl (À (Wh i k  rfl (Æ ?_)))))));refine À (slicePart_none ?_);refine À (uD pl (À (uD e (À (Æ ?_)))));show â _ _ (match sliceAdjust d f 1 _ with | (d,f)=>pure (d,(1:Int),Yo d f 1)) _ _ s
 rw[Cn d f n];show â _ _ (pure _) _ _ s;rw[Co];exact Æ h
theorem Aq(a:Zo)(i k:Nat):((ø k).filterMap λ(m:Nat)=>a[((i:Int) + (m:Int) * 1).toNat]?).toArray=((a.toList.drop i).take k).toArray:=by
 rw[(by
  funext m
  rw[(by omega:((i:Int) + (m:Int) * 1).toNat=i + m)]:(λ(m:Nat)=>a[((i:Int) + (m:Int) * 1).toNat]?)=λm=>a[i + m]?)];have:=pick_run a i k;have c:((λx=>a[x]?) ∘ λx=>i + x)=λm=>a[i + m]?:=rfl
 simp_all
theorem oX{t sl:Ê}{a:Zo}{c d:Ä}{e f:Zq}{Q:Ä->É->Prop}(g:IsTup s.heap t a)(hs:s.heap.IsSliceOf sl c d .none)(pl:IsPart c e)(i:IsPart d f)
  (hw:¬ (dO a.size 0 e=0/\dO a.size a.size f=a.size))
  (h:Q ↥s.heap.objs.size { s with heap:=s.heap.push { cls:=.type "tuple",data:=.seq ((a.toList.drop (dO a.size 0 e)).take (dO a.size a.size f - dO a.size 0 e)).toArray } })
  (j:a.size<=sizeLine):â (Ü prog w) A (Y2 ↥t ↥sl) Q E s:=by
 let(l,m,n,o):=id hs;delta Y2
 try with_reducible apply Vw
 refine À (wpAny_sequenceKey g.typeIs (-0) ?_)
 refine À (VB  g.typeIs ô
  (Vt ô g.typeIs entry_tuple_getitem ?_ (Y7 _ _)))
 show â _ _ (tupleItemsOf _ >>= _) _ _ s;refine À (tupleItemsOf_ g ?_);refine À (Xe #[l,m,n] ?_);refine À (dW hs pl i ?_);show â _ _ (if (((dO a.size 0 e:Nat):Int) == 0&&(1:Int) == 1&&(dO a.size a.size f - dO a.size 0 e) == a.size)=true then _ else _) _ _ s;rw[Zv (by grind),Aq]
 first
  |grind
  |exact À  (Vn (À (Æ (Æ #[_,rfl,Æ h]))) (by
  show((a.toList.drop _).take _).toArray.size<=sizeLine;rw[á,õ,Vq,YO];omega +splitNatSub))
  |grind
  |grind
end
end HT
namespace L2
open PySem PySem.Spec PyProof.Rows
abbrev TO:=St->Hp->(Zq->Hp->Prop)->Prop
def PO(X:Cx)(e:Zt)(t:TO):Prop :=
 ∀ (a:⇑(Ê × Obj)) (s:É) (c:St) (H:Hp) (Q:Zq->Hp->Prop),Inv X a c H s->t c H Q ->
  â (Ü X.prog X.w) X.A (evalPart e X.env) (λu d=>∃ o f,Inv X a c f d/\IsPart u o/\Q o f) X.xe s
def KY:TO:=λ_ H Q=>Q none H
def QI(t:TE):TO:=λa H Q=>t a H λx c=>∃ i,x= ~~~i/\Q ↑i c
theorem intsAre_of:∀ {a:Zi},Vals (c.map V.int) a->Yv a c:=by
 induction c with
 |nil=>intro a r;cases r;exact .nil
 |cons n c d =>
  intro a r;cases r with
  |cons f g =>
   let(t,e):=f;subst e;exact .cons n t (d g)
section
variable {X:Cx}{e:Þ}{te:TE}{lo hi:Zt}{tl th:TO}{pos p2:Pos}
theorem DD:PO X none KY:=by
 intro a s c H Q I h;exact Æ #[none,H,I,.none,h]
theorem DE(h:PE X e te):PO X ↑e (QI te):=by
 intro a s c H Q I hw;refine cF (h a s c H _ I hw) λu s1 #[x,H1,d,f,g]=>?_;let(i,rfl,q):=g;let(t,rfl):=f;exact#[_,H1,d,.int i t,q]
def QJ(X:Cx)(r:V->Zq->Zq->Hp->VK->Prop):Prop :=
 ∀ (a:⇑(Ê × Obj)) (s:É) (c:St) (H:Hp) (x:V) (v d f:Ä) (lo hi:Zq) (sl:Ê) (Q:VK),Inv X a c H s->RelV x v->s.heap.IsSliceOf sl d f .none->IsPart d lo->IsPart f hi->r x lo hi H Q ->
  ∃ T g,typeLookup (.type T) "__getitem__"=pure ↑(.builtin g)/\s.TypeIs v T/\â (Ü X.prog X.w) X.A (Y2 v ↥sl) (EP X a c Q) X.xe s
def U3(r:V->Zq->Zq->Hp->VK->Prop)(te:TE)(tl th:TO):TE:=λa H Q=>te a H λx c=>tl a c λl d=>th a d λu f=>r x l u f Q
theorem Hv(a:QJ X r)(c:PE X e te)(d:PO X lo tl)(f:PO X hi th):PE X (.Subscript e (.Slice lo hi none p2) pos) (U3 r te tl th):=by
 intro g s i H Q I h;refine Subscript_ (cF (c g s i H _ I h) λv s1 #[x,H1,j,k,m]=>?_);refine wpAny_Slice (cF (d g s1 i H1 _ j m) λn s2 #[l,o,p,pl,w]=>cF (f g s2 i o _ p w) λy s3 #[u,z,A,pu,B]=>?_);apply Æ;have C:Inv X g i z { s3 with heap:=s3.heap.push { cls:=.type "slice",data:=.fields [n,y,.none].toArray } }:=A.kept  λb E q=>Â _ q;let(T,F,G,J,K):=a g _ i z x v n y l u s3.heap.objs.size Q C k (Ye ..) pl pu B;exact tail_any  J G K (rfl)
def yz(a:⇑V)(lo hi:Zq):⇑V:=(a.drop (HT.dO a.length 0 lo)).take (HT.dO a.length a.length hi - HT.dO a.length 0 lo)
theorem lD(a:⇑V)(lo hi:Zq):(yz a lo hi).length<=a.length:=by
 delta yz
 rw[õ,Vq];exact Í (_j _ _) (_o _ _)
theorem Vals.jZ(r:Vals xs us):us=[]↔xs=[]:=by
 cases r with
 |nil=>simp|cons _ _=>simp
end
def KN(n:Nat)(i:Int):Zs:=if 0<=i then(if i < n then ↑i.toNat else none) else if -(n:Int)<=i then ↑(i + n).toNat else none
def G3{a:Type}(c:⇑a)(i:Int):Option a:=(KN c.length i).bind λj=>c[j]?
theorem yA(h:KN n i=↑j):seqIndex? i n=↑j/\j < n/\-(n:Int)<=i/\i < n:=by
 delta KN at h
 by_cases a:0<=i
 .rw[Zu a] at h;by_cases c:i < n
  .rw[Zu c] at h;exact#[by rw[seqIndex_of a c,ù h],by omega,VS (Int.neg_nonpos_of_nonneg (_e _)) a,c]
  simp_all
 .rw[Zv a] at h;by_cases c:-(n:Int)<=i
  .rw[Zu c] at h;exact#[by rw[seqIndex_neg (_G a) c,ù h],by omega,c,_p (_G a) (_e _)]
  simp_all
theorem tu{a:Type}{c:⇑a}{i:Int}{v:a}(h:G3 c i=↑v):∃ j,seqIndex? i c.length=↑j/\c[j]?=↑v/\j < c.length/\-(c.length:Int)<=i/\i < c.length:=by
 delta G3 at h
 cases e:KN c.length i with
 |none=>rw[e] at h;cases h
 |some j =>
  rw[e] at h;let(d,f,g,k):=yA e;exact#[j,d,h,f,g,k]
theorem tw{a:Type}{c:⇑a}{j:Nat}{v:a}(h:c[j]?=↑v):G3 c (j:Int)=↑v:=by
 have d :=(ç.mp h).1;delta G3;rw[(by
  delta KN
  simp_all:KN c.length _=↑j)];exact h
def DF(b:Þ):Prop:=∀ o i,subscripted b false o i=operate [o,i] (Y2 o i)
def Qc(X:Cx)(r:R2):Prop :=
 ∀ (a c:Þ) (d:⇑(Ê × Obj)) (s:É) (e:St) (H:Hp) (x y:V) (v u:Ä) (Q:VK),Inv X d e H s->RelV x v->RelV y u->r x y H Q ->
  subscripted c false v u=operate [v,u] (Y2 v u)->â (Ü X.prog X.w) X.A (subscriptTail a c v u) (EP X d e Q) X.xe s
def Uz(X:Cx)(a:String)(r:V->⇑V->Hp->VK->Prop):Prop :=
 ∀ (c:⇑(Ê × Obj)) (s:É) (d:St) (H:Hp) (x:V) (e:⇑V) (v:Ä) (f:Zi) (Q:VK),Inv X c d H s->RelV x v->Vals e f->r x e H Q ->
  â (Ü X.prog X.w) X.A (call (.builtin a) (v::f)) (EP X c d Q) X.xe s
section
variable {X:Cx}{a b:Þ}{ta tb:TE}{pos:Pos}
theorem DG(c:Qc X r)(d:PE X a ta)(e:PE X b tb)(hs:DF b):PE X (.Subscript a b pos) (MQ r ta tb):=by
 intro f s g H Q I h;exact Subscript_ (NR d e I h λv u i x y j k l m q=>c a b f i g j x y v u Q k l m q (hs _ _))
def KZ(K:Å):R2:=λx y H Q=>∃ p c i v,x=↥p/\y= ~~~i/\jX K H p c/\G3 c i=↑v/\Q v H
def Tg(K:Å):R2:=λx y H Q=>∃ p c i v,x=↥p/\y= ~~~i/\dU K H p c/\G3 c i=↑v/\Q v H
theorem yB:Qc X (KZ X.K):=by
 intro c d e s f H x y v u Q I g k h hs;let(p,l,i,z,rfl,rfl,m,n,q):=h;subst g;let(t,rfl):=k;let(o,r,pl,hz):=I.list m;let(j,A,B,C,E,F):=tu n;let(w,G,J):=r.get B;have L:=r.length;have N:=oj;have P:EP X e f Q w s:=#[z,H,I,J,q];by_cases U:0<=i
 .have Y :=by
   rw[seqIndex_of U F] at A;exact ù A
  exact item_listR pl.isList U ∅ (by rw[Y];simpa using G) P hs
 .have Y:(i + (o.toArray.size:Int)).toNat=j:=by
   rw[seqIndex_neg ∅ E] at A
   simp_all
  exact subscriptTail_builtinR  pl.isList.typeIs slot_list_getitem.lookup
   (wpAny_getItem_list_neg  pl.isList ∅ (by simp_all) ∅ (by rw[Y];simpa using G) #[rfl,P]) hs
theorem N1:Qc X (Tg X.K):=by
 intro c d e s f H x y v u Q I g k h hs;let(p,l,i,z,rfl,rfl,m,n,q):=h;cases g;let(t,rfl):=k;let(o,r,pl,hz):=I.tuple m;let(j,A,B,C,E,F):=tu n;let(w,G,J):=r.get B;have N:=oj;exact subscriptTail_builtinR  pl.typeIs slot_tuple_getitem.lookup
  (getItem_tuple   pl ∅ ∅ (by rw[á,<-(r.length)];exact A) (by simp_all) #[rfl,#[z,H,I,J,q]]) hs
theorem uE(c:Zi)(n j:Nat)(u:Ä):VF (·.setIfInBounds j u) { cls:=.type "list",data:=.seq c.toArray n }={ cls:=.type "list",data:=.seq (c.set j u).toArray n }:=by
 simp[VF]
theorem Inv.lst(I:Inv X c σ H s)(h:H p=↑(.lst xs)) :
  ∃ (aw:Zi) (n:Nat),Vals xs aw/\s.heap.get? p=↑{ cls:=.type "list",data:=.seq aw.toArray n }/\xs.length<=sizeLine:=by
 let(z,aw,n,r,e):=I.aX p _ h;exact#[aw,n,r,e,z]
theorem Inv.Hw{c:⇑(Ê × Obj)}{d:St}{H:Hp}{s:É}{p:Ê}{g i:⇑V}{aw j:Zi}{n k:Nat}{f:Obj->Obj}(I:Inv X c d H s)(h:H p=↑(.lst g))
  (l:s.heap.get? p=↑{ cls:=.type "list",data:=.seq aw.toArray n }) (m:f { cls:=.type "list",data:=.seq aw.toArray n }={ cls:=.type "list",data:=.seq j.toArray k }) (r:Vals i j) (hz:i.length<=sizeLine) (t:Nat) :
  Inv X c d (upd H p (.lst i)) { s with heap:=s.heap.update p f,toks:=t }:=by
 have e:(s.heap.update p f).get? p=↑{ cls:=.type "list",data:=.seq j.toArray k }:=by
  rw[X7 f l (by rw[m] <;> rfl),m]
 apply I.write   (by rw[h];trivial) (.inl rfl) (λb u o q=>(Y5 _ _ (ü o)).trans q) #[_,e]
 exact#[hz,j,k,r,e]
def MT:V->V->V->Hp->(Hp->Prop)->Prop:=λo i v H Q=>∃ p c k j,o=↥p/\i= ~~~k/\H p=↑(.lst c)/\KN c.length k=↑j/\Q (upd H p (.lst (c.set j v)))
theorem set_list:NM X MT:=by
 intro c s d H o i v e f u Q I g l m h;let(p,w,k,j,rfl,rfl,x,y,q):=h;subst g;let(t,rfl):=l;let(z,n,r,A,hz):=I.lst x;let(B,C,E,F):=yA y;have G:=r.length;have J:=oj;have K  :=
  I.Hw x A (uE z n j u) (r.set m j) (by rw[Vs];exact hz) s.toks
 by_cases L:0<=k
 .have N :=by
   rw[seqIndex_of L F] at B;exact ù B
  exact ki_setAt A L ∅ (by simp_all) (by rw[N];exact#[_,K,q])
 .have N:(k + (z.toArray.size:Int)).toNat=j:=by
   rw[seqIndex_neg ∅ E] at B
   simp_all
  exact ki_setBack A ∅ (by simp_all) ∅ (by rw[N];exact#[_,K,q])
theorem yC(c d:Zq)(n:Nat):(sliceBounds c d none n).1=((HT.dO n 0 c:Nat):Int)/\(sliceBounds c d none n).2.1=((HT.dO n n d:Nat):Int)/\(sliceBounds c d none n).2.2=1:=by
 refine#[?_,?_,rfl]
 .cases c with
  |none=>dsimp [sliceBounds,HT.dO]
  |some i =>
   simp[sliceBounds,HT.dO,getD_none,show(1:Int) > 0 by decide,if_true]
   by_cases h:i < 0
   .simp only[h,if_true] <;> omega
   .simp only[h,if_false] <;> omega
 .cases d with
  |none=>dsimp [sliceBounds,HT.dO]
  |some i =>
   simp[sliceBounds,HT.dO,getD_none,show(1:Int) > 0 by decide,if_true]
   by_cases h:i < 0
   .simp only[h,if_true] <;> omega
   .simp only[h,if_false] <;> omega
theorem nX(c:Zi)(d e:Zq):slicePick c.toArray d e none=((c.drop (HT.dO c.length 0 d)).take (HT.dO c.length c.length e - HT.dO c.length 0 d)).toArray:=by
 let(f,g,h):=yC d e c.toArray.size
 delta slicePick
 rw[f,g,h];simp only[sliceRange_one,pick_run,á] <;> rfl
def QK(K:Å):V->Zq->Zq->Hp->VK->Prop:=λx c d H Q=>∃ a e,x=↥a/\jX K H a e/\∀ p,H p=none->Q ↥p (upd H p (.lst (yz e c d)))
theorem K0:QJ X (QK X.K):=by
 intro c s d H x v e f g i sl Q I j hs pl k h;let(a,l,rfl,m,q):=h;subst j;let(n,r,o,hz):=I.list m;have p:=r.length;refine#[_,_,slot_list_getitem.lookup,o.isList.typeIs,?_];refine YX o.isList hs pl k .none ⋯ ?_ (by grind)
 rw[nX,<-p];refine#[↥s.heap.objs.size,_,I.laid   (λb u q=>Â _ q) (Ò _) ?_,rfl,q _ (I.aX.fresh (Ò _))];exact#[Í (lD l g i) hz,_,0,(r.drop _).take _,Ï _ rfl]
theorem yD:cA X (.builtin "len") (λc H Q=>∃ p d,c=[↥p]/\(jX X.K H p d\/dU X.K H p d)/\Q (~~~d.length) H):=by
 intro e s f H c g Q I r h;let(p,d,rfl,i,q):=h;let(u,rfl,j):=vals1 r;subst j;have k:=oj;rcases i with i | i
 .let(l,m,pl,hz):=I.list i;have n:=m.length;exact Calls.call_len_list pl.isList (by simp only[á] <;> omega) #[~~~d.length,H,I.tok _,#[_,by rw[á,n]],q]
 .let(l,m,pl,hz):=I.tuple i;have n:=m.length;exact len_tuple pl (by simp only[á] <;> omega) #[~~~d.length,H,I.tok _,#[_,by rw[á,n]],q]
theorem yE:cA X (.type "list") (λc H Q=>∃ p d,c=[↥p]/\(jX X.K H p d\/dU X.K H p d)/\∀ l,H l=none->Q ↥l (upd H l (.lst d))):=by
 intro f s g H c i Q I r h;let(p,d,rfl,j,q):=h;let(u,rfl,k):=vals1 r;subst k;have m:∀ (v:Zi),Vals d v->d.length<=sizeLine->∀ (x:þ) (y:Nat),(∀ b z,s.heap.get? b=↑z->x.get? b=↑z) ->
   x.get? s.heap.objs.size=↑_->EP X f g Q _ _:=λv A hz x y B e =>
  #[↥s.heap.objs.size,_,I.laid (t':=s.toks) B (Ò _) (show cO X.prog X.w _ x _ (.lst d) from#[hz,v,y,A,e]),rfl,q _ (I.aX.fresh (Ò _))]
 rcases j with j | j
 .let(v,A,pl,hz):=I.list j;have C:=A.length;let(o,E,F,n,G):=pl.isList;exact call_list_seq p (.inl rfl) E F G (λx y B e=>m v A hz x y B e) (by simp_all)
 .let(v,A,pl,hz):=I.tuple j;have C:=A.length;let(o,E,F,n,G):=pl;exact call_list_seq p (.inr rfl) E F G (λx y B e=>m v A hz x y B e) (by simp_all)
theorem wL:cA X (.type "tuple") (λc H Q=>∃ p d,c=[↥p]/\((jX X.K H p d/\∀ l,H l=none->Q ↥l (upd H l (.tup d)))\/(dU X.K H p d/\Q ↥p H))):=by
 intro f s g H c i Q I r h;let(p,d,rfl,h):=h;let(u,rfl,j):=vals1 r;subst j;rcases h with ⟨k,q⟩ | ⟨k,q⟩
 .let(m,n,pl,hz):=I.list k;have v:=n.length;refine call_tuple_list pl.isList (λx y=>?_) (by simp_all)
  have z :=I.kept (t':=s.toks) y;exact#[↥x.objs.size,_,
   z.laid  (λb o e=>Â _ e) (Ò _) (show cO X.prog X.w _ _ _ (.tup d) from#[hz,m,n,IsTup.new _ _]),rfl,q _ (z.aX.fresh (Ò _))]
 .let(m,n,pl,hz):=I.tuple k;exact call_tuple_same pl #[↥p,H,I,rfl,q]
def UA(K:Å)(T:String)(x:V)(H:Hp):Prop:=match x with
 |.str _=>T="str"|~~~_=>T="int"
 |↥p=>(T="list"/\∃ c,jX K H p c)\/(T="tuple"/\∃ o,K.lookup p=↑o/\o.cls=.type "tuple"/\o.dict=none) \/
   (T="dict"/\((∃ d,H p=↑(.dK d))\/∃ d,H p=↑(.dT d)))\/(T="set"/\∃ S n,H p=↑(.set S n))
 |_=>False
theorem N2{T:String}(I:Inv X d σ H s)(r:RelV x v)(ty:UA X.K T x H) :
  s.TypeIs v T/\∀ a,v=↥a->∃ f,s.heap.get? a=↑f/\f.dict=none:=by
 cases x with
 |str z =>
  let(t,rfl):=r;cases (show T="str" from ty);exact#[typeIs_str s z t,λ_ e=>nomatch e]
 |int i =>
  let(t,rfl):=r;cases (show T="int" from ty);exact#[Y6 s i t,λ_ e=>nomatch e]
 |ref p =>
  cases r;rcases ty with ⟨rfl,g,h⟩ | ⟨rfl,o,j,k,l⟩ | ⟨rfl,j⟩ | ⟨rfl,S,n,j⟩
  .let(m,_,pl,_):=I.list h;refine#[pl.isList.typeIs,λa e=>?_];cases e;let(o,n,e,c,l,_):=pl;exact#[o,e,l]
  .refine#[#[o,I.mW p o j,k],λa e=>?_];cases e;exact#[o,I.mW _ o j,l]
  .have z:∃ o,s.heap.get? p=↑o/\o.ExactDict:=by
    rcases j with ⟨q,j⟩ | ⟨q,j⟩
    .let(_,_,_,_,o,_,_,e,ex,_):=I.aX p _ j;exact#[o,e,ex]
    .let(_,_,_,_,o,_,_,e,ex,_):=I.aX p _ j;exact#[o,e,ex]
   let(o,e,ex):=z;refine#[#[o,e,ex.1],λa u=>?_];cases u;exact#[o,e,ex.2.1]
  .let(o,_,_,_,e,ex,_):=I.aX p _ j;refine#[#[o,e,ex.1],λa u=>?_];cases u;exact#[o,e,ex.2.1]
 |_=>exact tv ty
def U4(K:Å)(T:String)(r:V->⇑V->Hp->VK->Prop)(c:TE)(t:TA):TE:=λd H Q=>c d H λx e=>UA K T x e/\t d e λf g=>r x f g Q
variable {o e:Þ}{es:Zm}{to:TE}{t:TA}{name:Str}{apos cpos:Pos}{T id:String}{r:V->⇑V->Hp->VK->Prop}
theorem Hx(c:PlainAttrs T)(d:Slot T name id)(f:typeOf (.builtin id)=pure (.type "method_descriptor"))(g:Uz X id r)(i:PE X o to)(j:PA X (e::es) t)
  (k:attributeBase o name X.env (eval o X.env)=eval o X.env:=by rfl)
  (l:((backTo cpos (VC (e::es) X.env)).all (λx=>!x.1)&&(backToKw cpos (keywordEach [] X.env)).all (λx=>x.1.isSome)
   &&decide ((e::es).length + ([]:⇑Keyword).length + (if ([]:⇑Keyword).isEmpty then 0 else 1) < 30))=true:=by rfl)
  (m:(apos.endLine == cpos.line)=true:=by rfl) (hs:VC (e::es) X.env=(false,eval e X.env)::VC es X.env:=by rfl) (n:(backTo cpos (VC es X.env)).any (·.1)=false:=by rfl) :
  PE X (.Call (.Attribute o name apos) (e::es) [] cpos) (U4 X.K T r to t):=by
 intro p s q H Q I h;refine wpAny_Call_method_late k l m rfl (cF (i p s q H _ I h) λv s1 #[x,H1,u,w,ty,y]=>?_);let(z,A):=N2 u w ty;refine#[T,id,c,d,f,z,A,?_];have B:=j cpos p s1 q H1 _ u y;rw[hs] at B ⊢;refine Calls.callWith_builtin (by show(false || (backTo cpos _).any _)=false;rw[n] <;> rfl) (Calls.evalArgs_plain ?_)
 exact cF B λus s2 #[C,E,F,G,J]=>g p s2 q E x C v us Q F w G J
end
def Th(X:Cx)(a:String)(r:V->⇑V->Hp->VK->Prop):Prop :=
 ∀ (c:⇑(Ê × Obj)) (s:É) (d:St) (H:Hp) (x:V) (e:⇑V) (v:Ä) (f:Zi) (Q:VK),Inv X c d H s->RelV x v->Vals e f->r x e H Q ->
  â (Ü X.prog X.w) X.A (call (.builtin a) (v::f)) (EP X c d Q) X.xe s
theorem Vals.one:∀ {x:V}{a:Zi},Vals [x] a->∃ u,a=[u]/\RelV x u:=by
 intro x a h;cases h with
 |cons r t=>cases t;exact#[_,rfl,r]
theorem Vals.eraseIdx:∀ {a:⇑V}{c:Zi} (i:Nat),Vals a c->Vals (a.eraseIdx i) (c.eraseIdx i)
 |_,_,_,.nil=>.nil|_,_,0,.cons _ t=>t|_,_,i + 1,.cons r t=>.cons r (Vals.eraseIdx i t)
theorem Vals.reverse(h:Vals xs us):Vals xs.reverse us.reverse:=by
 induction h with
 |nil=>exact .nil|cons r t a=>rw[reverse_cons,reverse_cons];exact Vals.append a (.cons r .nil)
theorem Vals.rep(h:Vals xs us):∀ k:Nat,Vals (ÿ k xs).flatten (ÿ k us).flatten
 |0=>.nil
 |k + 1=>by
  exact Vals.append h (Vals.rep h k)
theorem foldl_rep(a:Zi):∀ (k:Nat) (c:Zi),
  foldl (λd f=>d++f) c.toArray (ÿ k a.toArray)=(c++(ÿ k a).flatten).toArray
 |0,c=>⋯
 |k + 1,c=>by
  rw[<-(by
   rw[replicate_succ,W9,Ø]:(c++a)++(ÿ k a).flatten=c++(ÿ _ a).flatten),<-foldl_rep a k _,<-(⋯:c.toArray++a.toArray=(c++a).toArray),replicate_succ,List.foldl_cons]
section
variable {X:Cx}{aa:⇑(Ê × Obj)}{σ:St}{H:Hp}{s:É}{l b:Ê}{xs ys zs:⇑V}
theorem Inv.oY{aw its':Zi}(I:Inv X aa σ H s)(a:H l=↑(.lst xs))
  (e:s.heap.get? l=↑{ cls:=.type "list",data:=.seq aw.toArray n }) (c:f aw.toArray=its'.toArray) (d:Vals ys its') (hz:ys.length<=sizeLine) :
  Inv X aa σ (upd H l (.lst ys)) { s with heap:=s.heap.update l (VF f),toks:=t' }:=by
 have q:=PySem.IsL.update e f;rw[c] at q;apply I.write   (by rw[a];exact trivial) (.inl rfl) (λg u h i=>(Y5 s.heap _ (ü h)).trans i) #[_,q]
 exact#[hz,its',_,d,q]
theorem Inv.FE{t':Nat}(I:Inv X aa σ H s)(a:Vals ys aw)(hz:ys.length<=sizeLine) :
  Inv X aa σ (upd H s.heap.objs.size (.lst ys)) { s with heap:=s.heap.push { cls:=.type "list",data:=.seq aw.toArray },toks:=t' } :=
 I.laid (λ_ _ q=>Â _ q) (Ò _) #[hz,aw,0,a,Ï _ rfl]
theorem Inv.fresh(I:Inv X aa σ H s):H s.heap.objs.size=none:=I.aX.fresh (Ò _)
theorem Inv.yF(I:Inv X aa σ H s)(a:H l=↑(.lst xs)):xs.length<=sizeLine/\∃ (aw:Zi) (n:Nat),Vals xs aw/\xs.length=aw.length/\s.heap.get? l=↑{ cls:=.type "list",data:=.seq aw.toArray n }:=by
 let(z,aw,n,r,e):=I.aX l _ a;exact#[z,aw,n,r,r.length,e]
theorem Ar(h:n<=sizeLine):Builtin.List.listTooLong n=false:=by
 exact Zz (YA h)
end
section
variable {X:Cx}
def DH:V->⇑V->Hp->VK->Prop:=λx a H Q=>∃ l c y,x=↥l/\a=[y]/\H l=↑(.lst c)/\c.length < sizeLine/\Q .cq (upd H l (.lst (c++[y])))
theorem qO:Th X "list.append" DH:=by
 intro a s c H x d v f Q I g i h;let(l,j,y,rfl,rfl,k,hz,q):=h;subst g;let(u,rfl,m):=i.one;let(z,o,n,r,p,e):=I.yF k;refine Wv F.slot_list_append #[_,e,rfl] F.entry_list_append (F.args_list_append_2 _ _) (PySem.list_append l o.toArray n u (by grind)) #[e,?_]
 refine#[.cq,_,I.oY  k e ⋯ (r.append (.cons m .nil)) ?_,rfl,q]
 grind
def QL:R2:=λx y H Q=>∃ l b a c,x=↥l/\y=↥b/\H l=↑(.lst a)/\H b=↑(.lst c)/\a.length + c.length<=sizeLine/\∀ p,H p=none->Q ↥p (upd H p (.lst (a++c)))
theorem Cp:gQ X (Wu .Add) QL:=by
 intro a s c H x y v u Q I d f h;let(l,b,g,i,rfl,rfl,j,k,hz,q):=h;cases d;cases f;let(z,m,n,r,o,e):=I.yF j;let(p,w,n2,A,B,C):=I.yF k;refine PySem.P.add_list e C ?_ (by simp_all)
 rw[(⋯:m.toArray++w.toArray=(m++w).toArray)];exact#[↥_,_,I.FE  (r.append A) (by simp_all),rfl,q _ I.fresh]
theorem len_rep{a:Type}(c:⇑a)(k:Nat):(ÿ k c).flatten.length=k * c.length:=⋯
end
end L2
namespace Att
open PySem PySem.W PySem.Calls PyProof.Rows
theorem kJ:∀ (c:Zl) (d:Zi),WellAll P h d (c.map WData.int)->Yv d c:=by
 intro c
 induction c with
 |nil =>
  intro d w;cases w;exact .nil
 |cons n c e =>
  intro d w;cases w with
  |cons a b =>
   cases a;exact .cons _ _ (e _ b)
theorem FF{l:OpenLaw}{n:Nat}(c:l.most=↑n){P:Params}{h:þ}{args:⇑WData}{e:Zi}
  (f:l.row.toRowW.claim.pre args) (g:WellAll P h e args) :
  ∃ a i j,e=[Wn a]/\args=[WData.list (j.map WData.int)]/\h.get? a=↑{ cls:=.type "list",data:=.seq i.toArray }/\Yv i j/\j.length<=n:=by
 let(d,r,rfl,o,p):=hasAllW_cons ((pre_splitW f).1);obtain rfl:=hasAllW_nil p;let(q,rfl,s):=hasW_list o;let(j,rfl):=items_int s;cases g with
 |cons x y =>
  cases y;cases x with
  |list z A=>exact#[_,_,j,rfl,rfl,z,kJ j _ A,by
  have w:=condW_of (by
   have v:=(holds_andW ((pre_splitW f).2)).1;rw[c] at v;exact v) (w_not (w_lt w_lit (w_len_list (w_arg rfl))))
  grind]
theorem FG(l:OpenLaw)(args:⇑WData):l.row.toRowW.claim.post args (.bool true) args=true :=
 postW_of
  (show WShape.has [] _ _=true by first | rfl | decide | grind)
  (show(WTm.eq _ _).value [] _=↑_ from w_eq_bool (w_res rfl) w_lit) rfl
theorem As{l:OpenLaw}{n:Nat}{q:ð}{loose:Zj}{c:(Str->Zn)->þ->Prop}{e:ú->þ->Prop}{d:DefRec}
  (g:l.most=↑n) (h:d.params.defaults=[])
  (call:∀ (w:ú) (i j:É) (k m:Str->Zn) (p:Ê) (o:Obj) (s u v:Ä) (a:Ê) (x:Zi) (y:Zl),
   Ground q loose [] c w i k m j.heap->e w j.heap ->
   j.heap.get? p=↑o->o.data=.func (docDef d.name d.params d.body d.scope s u v)->j.heap.CodeRec u d.name->k d.name=↑↥p ->
   j.heap.get? a=↑{ cls:=.type "list",data:=.seq x.toArray }->Yv x y->y.length<=n->j.gens=[].toArray ->
   Wy (Ü l.prog w) callerA (.call ↥p #[[↥a],[]]) (λr z=>r=.ok (.ret (.bool true))/\OldK j.heap z.heap/\z.os=j.os/\AllBare z.gens) j) :
  WalkO q loose c e l.row.toRowW d [] (λf x=>PySem.call f x):=by
 intro w i j k m G Y p o s u v A kV B C E F H I args J as K L hrd N hlo;obtain rfl:A=.none:=Dflts.none F h;obtain rfl:kV=.none:=Dflts.noKw F;let(a,x,y,rfl,rfl,P,U,X):=FF g K N;refine enter_call (Xg (call w i j k m p o s u v a x y G Y B (fd_plain C) E H P U X I) λr z hq=>?_);let(rfl,h2,h3,h4):=hq;exact#[.inl #[_,_,[],rfl,λ_=>rfl,.bool true,FG l _,λ_=>#[List.Pairwise.nil,λ_ hm=>(nomatch hm)]],h2,h3,h4]
end Att
namespace L2
open PySem PySem.Spec PyProof.Rows
theorem qP:∀ {a:Zi}{c:Zl},Yv a c->Vals (c.map V.int) a
 |_,_,.nil=>.nil|_,_,.cons n t h=>.cons #[t,rfl] (qP h)
def tx(s:V9):Arguments:=match s with
 |.FunctionDef _ a _ _ _ _ _ _ _ _=>a|_=>{ posonlyargs:=[],args:=[],vararg:=none,kwonlyargs:=[],kw_defaults:=[],kwarg:=none,defaults:=[] }
def fz(s:V9):⇑Stmt:=match s with
 |.FunctionDef _ _ b _ _ _ _ _ _ _=>b|_=>[]
def bA(s:V9):Scope:=match s with
 |.FunctionDef _ _ _ _ _ _ a _ _ _=>a|_=>{ kind:=.function,names:=[],isGenerator:=false,isCoroutine:=false }
abbrev Au:G2:=λ_ _ _ _ _ _=>False
structure Hy(K:PySem.W.Frag)(x qual:Str)(st:Stmt)(f:Addr)(fd:FuncData):Prop where
 ex:∃ (oc:Value) (od:Option Addr) (kV doc pm:Value) (an:Option Addr) (cdv ct:Value) (osl:Array (Option Value)),
  fd=fnOf x qual (tx st) (fz st) (bA st) .none kV doc pm an cdv ct/\K.lookup f=↑⟨oc,od,.func fd,osl⟩/\PySem.W.codeIn K cdv qual=true
 kp:PySem.W.keepIn K ↥f=true
section
variable {P:ð}{w:ú}{K:Å}{mg:Str->Zn}{base:þ}
theorem Hy.binds{x a:Str}{c:V9}{f:Ê}{fd:V2}{d:Zj}(F:Hy K x a c f fd)
  (h:∀ (kV e g:Ä) (i:Zk) (j k:Ä) (l:Zi),l.length=d.length->bindArgs (fnOf x a (tx c) (fz c) (bA c) .none kV e g i j k) #[l,[]]=pure (d.zip l)):Binds K fd d []:=by
 let(m,n,kV,e,g,i,j,k,o,rfl,lk,p):=F.ex;exact .all (h kV e g i j k)
end
theorem Av(a:eG k A):A.units + 1 < cLine:=VA (XA (by decide:1<=64) _) a.units
section
variable {X:Cx}
theorem pv(i:Nat){pos:Pos}(a:X.N[i]?=↑x:=by rfl)(c:Fx X.env.scope x:=by first | exact Or.inl rfl | exact Or.inr (Or.inl rfl) | exact Or.inr (Or.inr rfl))(d:(x == ("__debug__":Str))=false:=by decide)
  (e:(x == ("__classdict__":Str))=false:=by decide):PE X (.Name x pos) (KQ i):=eE a c d e
end
theorem Tj{A B:Prop}(h:B):if false=true then A else B:=by simp_all
theorem Tn{c A B:Prop}[Decidable c](a:c->A)(d:¬ c->B):if c then A else B:=by simp_all
def ag(H a:Hp):Prop:=∀ b o,H b=↑o->a b=↑o
theorem ag.refl(H:Hp):ag H H:=λ_ _ h=>h
theorem ag.trans(a:ag H H1)(b:ag H1 d):ag H d:=λc o h=>b c o (a c o h)
end L2
set_option maxHeartbeats 4000000
namespace BB
theorem b2{a b:Bool}{P:Prop}(h:(a&&b))(k:a->b->P):P:=by grind
theorem b3{a b c:Bool}{P:Prop}(h:(a&&b&&c))(k:a->b->c->P):P:=b2 h λh=>b2 h k
theorem b4{a b c d:Bool}{P:Prop}(h:(a&&b&&c&&d))(k:a->b->c->d->P):P:=b2 h λh=>b3 h k
theorem b5{a b c d e:Bool}{P:Prop}(h:(a&&b&&c&&d&&e))(k:a->b->c->d->e->P):P:=b2 h λh=>b4 h k
theorem b6{a b c d e f:Bool}{P:Prop}(h:(a&&b&&c&&d&&e&&f))(k:a->b->c->d->e->f->P):P:=b2 h λh=>b5 h k
theorem b7{a b c d e f g:Bool}{P:Prop}(h:(a&&b&&c&&d&&e&&f&&g))(k:a->b->c->d->e->f->g->P):P:=b2 h λh=>b6 h k
theorem b8{a b c d e f g i:Bool}{P:Prop}(h:(a&&b&&c&&d&&e&&f&&g&&i))(k:a->b->c->d->e->f->g->i->P):P:=b2 h λh=>b7 h k
end BB
namespace L2
open PySem
abbrev K1:Ä->É->Prop:=λ_ _=>False
theorem tD(a:Env):∀ (d:⇑(Str × Yh)) (f:⇑(Str × Ê)),(∀ y∈d,y.2=.free->∃ c,a.cells.lookup y.1=↑c)->(∀ x c,f.lookup x=↑c->a.cells.lookup x=↑c) ->
  ∃ cl:⇑(Str × Ê),(forIn d f λ(x:Str × Yh) (r:⇑(Str × Ê))=>(if (x.2 == .free)=true then do let c <-cellOf a x.1;pure (yield ((x.1,c)::r)) else pure (yield r):Sem (ForInStep ⇑(Str × Ê))))=pure cl /\
   (∀ x c,cl.lookup x=↑c->a.cells.lookup x=↑c)/\(∀ x c,f.lookup x=↑c->∃ g,cl.lookup x=↑g)/\(∀ y∈d,y.2=.free->∃ c,cl.lookup y.1=↑c)
 |[],f,_,h=>#[f,⋯,h,λx c e=>#[c,e],λy i=>absurd i ⋯]
 |(n,k)::r,f,j,h=>by
  by_cases l:k=.free
  .subst l;let(c,m):=j _ È rfl;have o:cellOf a n=pure c:=by delta cellOf;rw[m]
   let(cl,e,p,q,s):=tD a r _ (λy i=>j y (Î _ i)) (λx g e=>by
    rw[Wf] at e;by_cases u:(x == n)=true
    .rw[u] at e;have :=by simpa using u
     subst this;cases e;exact m
    .rw[show(x == n)=false by simpa using u] at e
     exact h x g e)
   refine#[cl,?_,p,λx g v=>?_,λy i w=>?_]
   .simp_all
   .by_cases u:(x == n)=true
    .exact q x c (by rw[Wf,u])
    .exact q x g (by rw[Wf,show(x == n)=false by simpa using u];exact v)
   .rcases ì.mp i with rfl | i
    .exact q n c ⋯
    .exact s y i w
  .let(cl,e,p,q,s):=tD a r f (λy i=>j y (Î _ i)) h;refine#[cl,?_,p,q,λy i w=>?_]
   .rw[List.forIn_cons];have z:((k == Vj)=true)=False:=by simpa using l
    simp only[z,if_false,pure_bind];exact e
   .rcases ì.mp i with rfl | i
    .exact absurd w l
    .exact s y i w
theorem ng(a:∀ y∈scope.names,y.2=.free->∃ c,env.cells.lookup y.1=↑c) :
  ∃ cl:⇑(Str × Ê),closureFor scope env=pure cl/\(∀ x c,cl.lookup x=↑c->env.cells.lookup x=↑c)/\(∀ y∈scope.names,y.2=.free->∃ c,cl.lookup y.1=↑c):=by
 let(cl,e,d,_,f):=tD env scope.names [] a (λx c e=>by simp at e)
 refine#[cl,?_,d,f];exact(congrArg (λt=>t >>= λr=>(pure r:Sem _)) e).trans ⋯
section
variable {P:ð}{w:ú}{A:Vl}{R:Result->É->Prop}{s:É}
theorem FH(J:Nat->É->Prop)
  (a:∀ n s,J n s->â (Ü P w) A (pyNext d) (λr s1=>match r with
   |none=>R (.ok .next) s1
   |↑v=>â (Ü P w) A (letOwnedTupleGo e d v) (λ_ f=>â (Ü P w) A (assign e g v) (λ_ i =>
     â (Ü P w) A (forIn tests true λc r=>if r=true then do let ok <-isTrue c g (eval c g);pure (yield ok) else pure (yield r)) (λok j =>
      if ok=true then â (Ü P w) A (eval k g) (λx l =>
       â (Ü P w) A (call (.builtin "list.append") [o,x]) (λ_ p=>∃ m,m < n/\J m p) K1 l) K1 j
      else ∃ m,m < n/\J m j) K1 i) K1 f) K1 s1) K1 s)
  (n:Nat) (h:J n s) :
  Wy (Ü P w) A (.compLoop (.ListComp k [#[e,src,tests,0]] sc q) 0 d o g) R s:=by
 refine codeAny_loop rfl J (λn s u=>?_) n h;apply wpAny_noted;rw[compTurn_list];refine À (WT (À (VY (a n s u) (λr s1 y=>?_) λ_ _ x=>x.elim)));cases r with
 |none=>exact Æ y
 |some v =>
  refine À (VY y (λ_ f z=>?_) λ_ _ x=>x.elim);refine À (VY z (λ_ i B=>À (VY B (λok j C=>?_) λ_ _ x=>x.elim)) λ_ _ x=>x.elim);cases ok with
  |false=>exact Æ #[rfl,C]|true=>exact À (À (VY C (λx l E=>À (VY E (λ_ p F=>Æ (Æ #[rfl,F])) λ_ _ x=>x.elim)) λ_ _ x=>x.elim))
end
open PySem PySem.Spec PyProof.Rows
abbrev bq(X:Cx)(a:Zj)(c:ý)(cl:⇑(Str × Ê))(C:Ê)(s:É)(H:Hp)(d:Zp):Cx :=
 { X with N:=a,s₀:=s,H₀:=H,env:=compEnvC c cl C X.env,outer:=X.stack,stack:=X.stack,ex:=d,fn:=λ_=>false,pn:=[],xe:=K1 }
def bt(own:Zj)(a:⇑(Str × Nat)):Zj:=own++a.map (·.1)
def fV(own:Zj)(a:⇑(Str × Nat))(c:St):St:=own.map (λ_=>none)++a.map λp=>(c[p.2]?).getD none
structure dP(X:Cx)(sc:Scope)(own:⇑Str)(au:⇑(Str × Nat)):Prop where
 kind:sc.kind=.function
 nocell:∀ y∈sc.names,y.2≠.cell
 locs:∀ y∈sc.names,y.2=.local->sc.names.lookup y.1=↑.local
 frees:∀ y∈sc.names,y.2=.free->X.env.kindOf y.1=↑.cell\/X.env.kindOf y.1=↑.free
 captd:∀ p∈au,X.N[p.2]?=↑p.1/\sc.names.lookup p.1=↑.free
theorem oZ{a:Env}:∀ {c:⇑(Str × Yh)}{x:Str}{k:Yh},
  (c.map λ(n,k)=>if (k == Vj&&a.scope.kind == .function&&a.kindOf n == ↑.cell) then(n,WG) else(n,k)).lookup x=↑k->(k=.cell\/k=.free)->(∀ y∈c,y.2≠.cell)->(x,Vj)∈c
 |[],_,_,h,_,_=>by simp at h
 |(n,d)::r,x,k,h,e,f=>by
  have h:X1 x ((if (d == Vj&&a.scope.kind == .function&&a.kindOf n == ↑_)=true then(n,WG) else(n,d))::_)=↑k:=h;cases g:x == n with
  |true =>
   grind
  |false =>
   exact Î _ (oZ (by
    by_cases j:(d == Vj&&a.scope.kind == .function&&a.kindOf n == ↑.cell)=true
    .rw[Zu j] at h;simp only[Wf,g] at h;exact h
    .rw[Zv j] at h;simp only[Wf,g] at h;exact h) e λy l=>f y (Î _ l))
theorem ix{env:Env}:∀ {a:⇑(Str × Yh)}{x:Str},a.lookup x=↑.free ->
  (a.map λ(n,k)=>if (k == Vj&&env.scope.kind == .function&&env.kindOf n == ↑.cell) then(n,WG) else(n,k)).lookup x=↑.cell \/
  (a.map λ(n,k)=>if (k == Vj&&env.scope.kind == .function&&env.kindOf n == ↑.cell) then(n,WG) else(n,k)).lookup x=↑.free
 |[],_,h=>by simp at h
 |(n,k)::r,x,h=>by
  have c:=@ix env r x;show X1 x ((if (k == Vj&&env.scope.kind == .function&&env.kindOf n == ↑_)=true then(n,WG) else(n,k))::_)=_\/X1 x ((if (k == Vj&&env.scope.kind == .function&&env.kindOf n == ↑_)=true then(n,WG) else(n,k))::_)=_;cases d:x == n with
  |true =>
   simp[Wf,d] at h;cases h;by_cases e:(Vj == Vj&&env.scope.kind == .function&&env.kindOf n == ↑.cell)=true
   .rw[Zu e];left;simp only[Wf,d]
   .rw[Zv e];right;simp only[Wf,d]
  |false =>
   simp[Wf,d] at h;by_cases e:(k == Vj&&env.scope.kind == .function&&env.kindOf n == ↑.cell)=true
   .rw[Zu e];simp only[Wf,d];exact c h
   .rw[Zv e];simp only[Wf,d];exact c h
theorem jV.DJ{D:Ê}{aw:Zi}(x:jV P w H h)(a:H D=none)(d:Vals f aw)(hz:f.length<=sizeLine)
  (g:h.get? D=↑{ cls:=.type "list",data:=.seq aw.toArray n }):jV P w (upd H D (.lst f)) h:=λb u e=>by
 by_cases i:b=D
 .subst i;rw[aB] at e;cases e;exact#[hz,aw,n,d,g]
 .rw[ah i] at e;exact(x b u e).jv (λc v _ q=>q) (λc q=>by rw[ah (aD q a)];exact q) λc j q=>by rw[ah (aD q a)];exact q
def MU(X:Cx)(a:Zm)(t:TT):Prop :=
 ∀ (d:⇑(Ê × Obj)) (s:É) (e:St) (H:Hp) (Q:Bool->Hp->Prop),Inv X d e H s->t e H Q ->
  â (Ü X.prog X.w) X.A (forIn a true λc r=>if r=true then do let ok <-isTrue c X.env (eval c X.env);pure (yield ok) else pure (yield r)) (TP X d e Q) X.xe s
def Aw:TT:=λ_ H Q=>Q true H
theorem DK:MU X [] Aw:=λ_ _ _ H _ I h=>wpAny_tests_nil #[H,I,h]
theorem DL(a:PT X c t):MU X [c] t:=λd s e H Q I h=>wpAny_tests_one (a d s e H Q I h)
section
variable {X:Cx}{aa:⇑(Ê × Obj)}{σ:St}{H2:Hp}{s2:É}{sc:ý}{own:Zj}{au:⇑(Str × Nat)}{cl:⇑(Str × Ê)}{fp:Zp}{C:Ê}
theorem xp(I:Inv X aa σ H2 s2)(S:dP X sc own au)(a:∀ x c,cl.lookup x=↑c->X.env.cells.lookup x=↑c)(d:∀ y∈sc.names,y.2=.free->∃ c,cl.lookup y.1=↑c)
  (e:∀ x c,X.env.cells.lookup x=↑c->c ∉ fp)  (un:∀ c o,s2.heap.get? c=↑o->H2 c=none->c ∉ fp->∃ sl,f.get? c=↑{ o with slots:=sl }) (m:Str->Zn) :
  ∀ (i:Nat) (x:Str) (v:V),(bt own au)[i]?=↑x->(fV own au σ)[i]?=↑↑v->∃ u,RelV v u/\Look (compEnvC sc cl C X.env) f m x u:=by
 intro i x v g h
 delta bt at g
 delta fV at h
 by_cases j:i < own.length
 .rw[WZ (by simp_all)] at h
  simp_all
 .rw[Vm (by simp_all),Ã,å] at h
  rw[Vm (by simp_all),å] at g
  cases q:au[i - own.length]? with
  |none=>rw[q] at g;cases g
  |some p =>
   rw[q] at g h;obtain rfl:p.1=x:=ù g;have k:(σ[p.2]?).getD none=↑v:=ù h;let(n,s):=S.captd p (ë q);have A :=î s;have B:=S.frees _ A rfl;let(E,_,F):=I.loc;have G:Fx X.env.scope p.1:=.inr B;let(u,r,lk):=F p.2 p.1 v n (by
    cases z:σ[p.2]? with
    |none=>rw[z] at k;cases k
    |some w=>rw[z] at k;exact congrArg some k) G;refine#[u,r,.inr #[?_,?_]]
   .exact ix s
   .rcases lk with ⟨H,_⟩ | ⟨_,c,J,o,K,L⟩
    .rcases B with B | B <;> (rw[B] at H;cases H)
    .let(N,P):=d _ A rfl;have:=a _ _ P;rw[J] at this;cases this;let(sl,U):=un c o K (I.freeC _ _ J) (e _ _ J);exact#[c,P,_,U,L]
end
def DM(X:Cx)(a:⇑(Ê × Obj))(c:St)(R:V->Hp->Prop)(d:Ä)(C:Ê)(e:É):Prop :=
 ∃ D f g,d=↥D/\Inv X a c f e/\lC X a f C/\e.heap.Ns C g/\R ↥D f
def xq(J:It)(a:St)(c:Hp)(g:TG)(d:TT)(e:TE)(Q:VK):Prop:=∃ W:Nat->Nat->⇑V->Hp->Prop,(∃ m,W 0 m [] c)/\∀ i m f H,W i m f H ->
 (J.stop i H/\∀ p,H p=none->Q ↥p (upd H p (.lst f))) \/
 (J.go i H/\f.length < sizeLine/\∃ N:⇑V->Hp->Prop,(∀ h j,N h j->∃ k,k < m/\W (i + 1) k h j)/\∀ x j,J.yld i H x j->g x a j λl n=>d l n λb o =>
  if b=true then e l o (λy q=>N (f++[y]) q) else N f o)
def Hz(own:Zj)(a:⇑(Str × Nat))(c:TI)(g:TG)(d:TT)(e:TE):TE:=λf H Q=>c f H λJ h=>xq J (fV own a f) h g d e Q
section
variable {X:Cx}{aa:⇑(Ê × Obj)}{σ:St}{H2:Hp}{s2:É}{sc:ý}{own:Zj}{au:⇑(Str × Nat)}{cl:⇑(Str × Ê)}{el tg src:Þ}{tests:Zm}{ps:Pos}{g:TG}{tt:TT}{te:TE}
theorem om(hc:X.calm)(S:dP X sc own au)(a:∀ x c,cl.lookup x=↑c->X.env.cells.lookup x=↑c)(hcf:∀ y∈sc.names,y.2=.free->∃ c,cl.lookup y.1=↑c)
  (hg:∀ C s H d,PG (bq X (bt own au) sc cl C s H d) tg g) (ht:∀ C s H d,MU (bq X (bt own au) sc cl C s H d) tests tt) (he:∀ C d,(∀ b∈d,lC X aa H2 b)->PE (bq X (bt own au) sc cl C s2 H2 d) el te)
  {it:Ê}{d:Zp}{tn:Nat->þ->Prop}{J:It} (f:Inv X aa σ H2 s2) (T:Turn X.prog X.w X.K tg J d it tn) (eF:tn 0 s2.heap) (f2:∀ b∈d,lC X aa H2 b)
  {R:VK} (h:xq J (fV own au σ) H2 g tt te R) {RR:Ä->Ê->Result->É->Prop} (hRR:∀ j C l,DM X aa σ R j C l->RR j C (.ok .next) l) {E:Ä->É->Prop} :
  â (Ü X.prog X.w) X.A (newList []) (λj s3=>â (Ü X.prog X.w) X.A (newFunctionEnv sc X.env.globals cl [] X.env.qual none .none ↑X.env) (λce s4 =>
   Wy (Ü X.prog X.w) X.A (.compStart (.ListComp el [#[tg,src,tests,0]] sc ps) 0 ↥it j { ce with scope:=relabel sc X.env }) (RR j ce.locals) s4) E s3) E s2:=by
 obtain⟨W,⟨m0,w0⟩,turn⟩:=h;refine Vn (wpAny_newFunctionEnv S.nocell (by simp) (λh1 hns1 hsb1=>?_) S.kind)
 generalize hH3:s2.heap.push _=B at hns1 hsb1 ⊢;have hC:B.objs.size=s2.heap.objs.size + 1:=by rw[<-hH3,Xz]
 have F:∀ b,b < s2.heap.objs.size->b≠B.objs.size/\b≠s2.heap.objs.size:=λb G=>#[Û (_c (_w _ G) (_a hC)),Û G]
 have hDC:=Û (_r (WA (_a hC)))
 have I :=λb o e=>hsb1.extBut b o (F b (é e)).1 (Â _ (hH3 ▸ Â _ e));have fpLt:∀ b∈d,b < s2.heap.objs.size:=λb G=>by
  let(o,e,_):=T.obj _ _ eF b G;exact é e
 have L :=λx c e G=>(f2 c G).2.2.2.2.1 x c e rfl;have fpFr:∀ b∈d,b ∉ fw X.stack:=λb G hf=>by
  rcases ì.mp (f.Cb b hf) with z | z
  .exact(f2 b G).2.1 z
  .exact(f2 b G).2.2.1 z
 have reset:∀ {pl:⇑(Ê × Obj)}{σ':St}{P:Hp}{l:É},Inv _ pl σ' P l->Inv (bq X (bt own au) sc cl B.objs.size s2 H2 d) pl _ P l:=λ{pl σ' P l} U=>by
  let(m,hn,_):=U.loc;refine#[U.ok,U.os,U.bare,U.base,#[m,hn,λi x v e1 e2 _=>xp f S a hcf L (λc o q n hx=>U.base.any q n hx) m i x v e1 e2],U.cell,U.free,U.freeC,U.pin,U.aX,?_];simp[fV,bt]
 have start:Inv (bq X (bt own au) sc cl B.objs.size s2 H2 d) [(s2.heap.objs.size,{ cls:=.type "list",data:=.seq ([]:Zi).toArray 0 })] (fV own au σ) H2 { s2 with heap:=h1,toks:=s2.toks + ([]:⇑(Str × Ä)).length }:=by
  refine#[by
  refine#[f.ok.mod,S.kind,f.ok.glob,f.ok.blt,(by exact _f (WA (_a hC))),λx y c e1 e2=>f.ok.inj x y c (a x c e1) (a y c e2),λx hx=>?_,λx c hx=>(by cases hx),f.ok.hd,f.ok.frames,.inl rfl,
   λb G=>#[(F b (fpLt b G)).1,λx c e z=>L x c (a x c e) (z ▸ G)],f.bs,Í f.ok.bsz f.sz,λb o e G=>?_,fpFr,f.stack,f.gU]
  .have hx':(x,Vj)∈sc.names:=by
    rcases hx with hx | hx
    .exact oZ hx (.inl rfl) S.nocell
    .exact oZ hx (.inr rfl) S.nocell
   exact hcf _ hx' rfl
  .rcases (f2 b G).2.2.2.1 with z | z
   .exact f.ok.noex b o e z
   .have l1:b < X.base.objs.size:=é e;have l2:X.base.objs.size<=X.s₀.heap.objs.size:=f.ok.bsz;have l3:X.s₀.heap.objs.size<=b:=z;exact absurd l1 (Nat.not_lt.mpr (Í l2 l3)),rfl,f.bare,Un.kept I,#[_,hns1,λi x v e1 e2 _=>xp f S a hcf L (λc o q _ _=>#[o.slots,I c o q]) _ i x v e1 e2],λx c e=>?_,?_,λx c e=>f.freeC x c (a x c e),λp Y=>?_,f.aX.kept I,?_]
  .let(v,q):=f.cell x c (a x c e);exact#[v,q.keeps I]
  .exact f.aX.fresh (by show s2.heap.objs.size<=B.objs.size;exact _f (WA (_a hC)))
  .have hp':p=(s2.heap.objs.size,{ cls:=.type "list",data:=.seq ([]:Zi).toArray 0 }):=by simpa using Y
   subst hp';exact#[hsb1.extBut _ _ hDC (Â _ (hH3 ▸ Ï _ rfl)),f.aX.fresh (Ò _),hDC,λz=>VH _ ((λb G=>by
  let(_,o,q,_):=f.stack.mem G;exact é q:∀ b∈fw X.stack,b < s2.heap.objs.size) _ z),λv z=>by cases z]
  .show(fV own au σ).length=(bt own au).length;simp[fV,bt]
 have oh:∀ {pl:⇑(Ê × Obj)}{P:Hp},(∀ p∈pl,p.1 ∉ d)->(∀ b∈d,P b=none)->∀ b∈d,lC (bq X (bt own au) sc cl B.objs.size s2 H2 d) pl P b:=λ{pl P} Y hn b G =>
  #[hn b G,(F b (fpLt b G)).1,fpFr b G,.inl G,λx c e z=>L x c (a x c e) (z ▸ G),λp hpp z=>Y p (hpp) (z ▸ G)]
 have hDfp:s2.heap.objs.size ∉ d:=λz=>VH _ (fpLt _ z);have loop:∀ s3:É,s3={ s2 with heap:=h1,toks:=s2.toks + ([]:⇑(Str × Ä)).length } ->
   Wy (Ü X.prog X.w) X.A (.compLoop (.ListComp el [#[tg,src,tests,0]] sc ps) 0 ↥it ↥s2.heap.objs.size (compEnvC sc cl B.objs.size X.env)) (RR ↥s2.heap.objs.size B.objs.size) s3:=by
  rintro s3 rfl;refine FH (λn l=>∃ i ys P aw k,Inv (bq X (bt own au) sc cl B.objs.size s2 H2 d) [(s2.heap.objs.size,{ cls:=.type "list",data:=.seq (toArray aw) k })] (fV own au σ) P l/\tn i l.heap/\(∀ b∈d,P b=none)/\Vals ys aw/\ys.length<=sizeLine/\W i n ys P) ?_ m0
   #[0,[],H2,[],0,start,T.keep _ _ _ eF λb _ o e=>I b o e,λb G=>(f2 b G).1,.nil,Wg _,w0]
  rintro n l ⟨i,ys,P,aw,k,U,st',fr',hv,hz,w'⟩;have pinD:∀ p∈[((s2.heap.objs.size:Ê),({ cls:=.type "list",data:=.seq (toArray aw) k }:Obj))],p.1 ∉ d:=λp Y=>by
   have hp':p=(s2.heap.objs.size,{ cls:=.type "list",data:=.seq (toArray aw) k }):=by simpa using Y
   subst hp';exact hDfp
  rcases turn i n ys P w' with ⟨stop,q⟩ | ⟨go,hlt,N,hN,step⟩
  .refine cF (T.done (bq X (bt own au) sc cl B.objs.size s2 H2 d) rfl rfl rfl hc i _ l _ P K1 U (oh pinD fr') st' stop) λr s1 hr=>?_;let(hr,I1):=hr;subst hr;let(gD,nD,_,_,_):=I1.pin _ (Ô _ È);let(m',hn',_):=id I1.loc;have un:Un (fw X.stack) d H2 (upd P s2.heap.objs.size (.lst ys)) s2.heap s1.heap:=by
    have u:=I1.base;have nD2:H2 s2.heap.objs.size=none:=f.aX.fresh (Ò _);refine#[u.keep,u.slot,λb o e n hx=>?_,u.there,λb xs e=>?_,λb o xs e=>?_,λb ps' e=>?_]
    .rw[ah (F b (é e)).2];exact u.free b o e n hx
    .rw[ah (aD e nD2)];exact u.tups b xs e
    .rw[ah (aD e nD2)];exact u.frzs b o xs e
    .let(more,e'):=u.tbls b ps' e;exact#[more,by rw[ah (aD e nD2)];exact e']
   have IX:Inv X aa σ (upd P s2.heap.objs.size (.lst ys)) s1:=f.G6 I1.os un (I1.aX.DJ nD hv hz gD) I1.bare λb G=>#[(f2 b G).2.2.2.1,(f2 b G).2.1,(f2 b G).2.2.2.2.1,(f2 b G).2.2.2.2.2];refine hRR _ _ _ #[_,_,m',rfl,IX,?_,hn',q _ nD];exact f.oh (_f (WA (_a hC))) (by rw[ah hDC.symm];exact I1.free)
  .refine cF (T.item (bq X (bt own au) sc cl B.objs.size s2 H2 d) rfl rfl rfl hc i _ l _ P K1 U (oh pinD fr') st' go) λr s1 hr=>?_;let(u,hr,h4):=hr;subst hr;refine cF h4 λ_ s5 hr5=>?_;let(x,H5,I5,r5,y5,st5,fr5):=hr5;have I5p:=I5.pinned (oh pinD fr5) (T.obj _ _ st5);refine cF (hg _ _ _ _ _ s5 _ H5 x u _ I5p r5 (step x H5 y5)) λ_ s6 hr6=>?_;let(σ6,H6,I6,q6):=hr6;refine cF (ht _ _ _ _ _ s6 σ6 H6 _ I6 q6) λok s7 hr7=>?_;let(H7,I7,q7):=hr7;have memFp:∀ {pl:⇑(Ê × Obj)}{b:Ê}{o:Obj},b∈d->s5.heap.get? b=↑o->(b,o)∈([]:⇑(Ê × Obj))++(pl++oi d s5.heap):=λG e=>Ô _ (Ô _ (iw G e));cases ok with
   |false =>
    rw[Zv ï] at q7 ⊢;let(m',hm,w7):=hN _ _ q7;refine#[m',hm,i + 1,ys,H7,aw,k,reset (I7.mX λp Y=>I7.pin p (Ô _ (ä _ Y))),T.keep _ _ _ st5 λb G o e=>(I7.pin (b,o) (memFp G e)).1,λb G=>?_,hv,hz,w7];let(o,e,_):=T.obj _ _ st5 b G;exact(I7.pin (b,o) (memFp G e)).2.1
   |true =>
    rw[Zu rfl] at q7 ⊢;refine cF (he _ _ f2 _ s7 σ6 H7 _ I7 q7) λuv s8 hr8=>?_;let(y,H8,I8,r8,q8):=hr8;let(m',hm,w8):=hN _ _ q8;let(gD,nD,dC,dF,_):=I8.pin _ (Ô _ (ä _ È));refine append_at gD (λh9 sb hD9=>?_) (by show(toArray aw).size<=sizeLine;rw[á,<-hv.length];exact hz)
    have I8a:Inv (bq X (bt own au) sc cl B.objs.size s2 H2 d) (oi d s5.heap) σ6 H8 s8:=I8.mX λp Y=>I8.pin p (Ô _ (Ô _ Y));have I9:Inv (bq X (bt own au) sc cl B.objs.size s2 H2 d) (oi d s5.heap) σ6 H8 { s8 with heap:=h9 }:=I8a.turned (t':=s8.toks) (λb o G e=>(sb.2 b G).trans e) nD dC (.inr (Ò _))
     (λx c e z=>VH s2.heap.objs.size (by have:=(λx c e=>by
  let(v,o,q,_):=f.cell x c e;exact é q:∀ x c,X.env.cells.lookup x=↑c->c < s2.heap.objs.size) x c (a x c e);rw[z] at this;exact this)) (λp Y z=>hDfp (z ▸ (qK (Y)).1))
    rw[push_toArray] at hD9;refine#[m',hm,i + 1,ys++[y],H8,aw++[uv],k + 1,(reset I9).mX λp Y=>?_,T.keep _ _ _ st5 λb G o e=>?_,λb G=>?_,hv.append (.cons r8 .nil),by rw[Ó];exact hlt,w8]
    .have hp':p=(s2.heap.objs.size,{ cls:=.type "list",data:=.seq (toArray (aw++[uv])) (k + 1) }):=by simpa using Y
     subst hp';exact#[hD9,nD,dC,dF,λv z=>by cases z]
    .exact(I9.pin (b,o) (Ô _ (iw G e))).1
    .let(o,e,_):=T.obj _ _ st5 b G;exact(I9.pin (b,o) (Ô _ (iw G e))).2.1
 exact codeAny_compStart_list (loop _ rfl) (T.self _ 0 _ _ _ (T.keep _ _ _ eF λb _ o e=>I b o e) (loop _ rfl))
end
section
variable {X:Cx}{sc:ý}{own:Zj}{au:⇑(Str × Nat)}{el tg src:Þ}{tests:Zm}{ps pos:Pos}{wi:TI}{g:TG}{tt:TT}{te:TE}
theorem DN(a:X.calm)(S:dP X sc own au)(c:PI X tg src wi)(d:∀ cl C s H f,PG (bq X (bt own au) sc cl C s H f) tg g)
  (i:∀ cl C s H f,MU (bq X (bt own au) sc cl C s H f) tests tt) (j:∀ cl C s H f,PE (bq X (bt own au) sc cl C s H f) el te)
  (hs:∀ x,Ww src X.env x=pure x:=by intro _;rfl):PE X (.ListComp el [#[tg,src,tests,0]] sc ps) (Hz own au wi g tt te):=by
 intro k s l H Q I h;let(cl,m,n,p):=ng   λy q u=>I.ok.has y.1 (S.frees y q u);refine Xf  rfl hs m S.kind S.locs (cF (c k s l H _ I h) λv s1 w=>cF w λz s2 A=>?_);let(it,f,tn,J,H2,e,B,T,eF,E,hw):=A;subst e;refine om a S n p (d cl) (i cl) (λC f _=>j cl C _ _ f) B T eF E hw  λF C s' G=>?_;let(D,K,L,rfl,N,P,U,r):=G;exact#[L,U,λh' sb=>#[↥D,K,N.turned  (λb o Y e=>(sb.2 b Y).trans e) P.1 P.2.1 P.2.2.2.1 P.2.2.2.2.1 P.2.2.2.2.2,rfl,r]]
theorem HD{te:St->Hp->TE}{a:St->Hp->Prop}(d:X.calm)(S:dP X sc own au)(f:PI X tg src wi)(i:∀ cl C s H j,PG (bq X (bt own au) sc cl C s H j) tg g)
  (k:∀ cl C s H j,MU (bq X (bt own au) sc cl C s H j) tests tt) (l:∀ cl m n H s,Inv X m n H s->(∀ x c,cl.lookup x=↑c->X.env.cells.lookup x=↑c)->a n H->∀ C j,(∀ b∈j,lC X m H b)->PE (bq X (bt own au) sc cl C s H j) el (te n H))
  (hs:∀ x,Ww src X.env x=pure x:=by intro _;rfl):PE X (.ListComp el [#[tg,src,tests,0]] sc ps) (λn H Q=>wi n H λJ p=>a n p/\xq J (fV own au n) p g tt (te n p) Q):=by
 intro m s n H Q I h;let(cl,q,u,w):=ng   λy z A=>I.ok.has y.1 (S.frees y z A);refine Xf  rfl hs q S.kind S.locs (cF (f m s n H _ I h) λv s1 B=>cF B λE s2 F=>?_);let(it,j,tn,J,H2,e,G,T,eF,K,L,hw):=F;subst e;refine om d S u w (i cl) (k cl) (λC j N=>l cl _ _ _ _ G u L C j N) G T eF K hw  λP C s' N=>?_;let(D,H',m',rfl,I',U,Y,r):=N;exact#[m',Y,λh' sb=>#[↥D,H',I'.turned  (λb o hb e=>(sb.2 b hb).trans e) U.1 U.2.1 U.2.2.2.1 U.2.2.2.2.1 U.2.2.2.2.2,rfl,r]]
theorem K2(c:X.N.Nodup)(d:X.N[i]?=↑y)(f:Loc X.env.scope y)(j:Yi (.ListComp el [#[tg,src,tests,0]] sc ps) ↑(.Name y py) pos.line X.env=pure true)
  (k:X.calm) (S:dP X sc own au) (l:PI X tg src wi) (m:∀ cl C s H n,PG (bq X (bt own au) sc cl C s H n) tg g)
  (p:∀ cl C s H n,MU (bq X (bt own au) sc cl C s H n) tests tt) (u:∀ cl C s H n,PE (bq X (bt own au) sc cl C s H n) el te)
  (hs:∀ x,Ww src X.env x=pure x:=by intro _;rfl) (w:X.fn y=true\/X.env.scope.names.lookup y=↑.local:=by first | exact .inl rfl | exact .inr rfl | assumption) :
  PS X (.Assign [.Name y py] (.ListComp el [#[tg,src,tests,0]] sc ps) pos) (Ce (Hz own au wi g tt te) (lB i)):=by
 intro A s σ H D I h;let(cl,B,E,F):=ng   λy f hk=>I.ok.has y.1 (S.frees y f hk);rw[exec_Assign_Name_used _ _ _ _ j];refine À (WT (À ?_));refine À (VY (Xf   rfl hs B S.kind S.locs
  (cF (l A s σ H _ I h) λv s1 h1=>cF h1 λitv s2 h2=>?_)) (λ_ s' hq=>Æ (Æ hq)) λ_ _ e=>e)
 let(it,n,tn,J,H2,e,I2,T,eF,f2,hw):=h2;subst e;refine om k S E F (m cl) (p cl) (λC n _=>u cl C _ _ n) I2 T eF f2 hw  λacc C s' G=>?_;let(DA,H',m',rfl,I',K,L,r):=G;refine XM (mY (v:=↥DA) I' c d f rfl (λs3 I3 P=>?_) w);let(a,sb,P):=P;exact#[m',L.sameBut sb (λz=>by
  rcases P with q | q
  .exact K.2.1 (z.trans q)
  .exact K.2.2.2.2.1 _ _ q z.symm),λh' Y=>#[_,H',I3.turned  (λb o hb e=>(Y.2 b hb).trans e) K.1 K.2.1 K.2.2.2.1 K.2.2.2.2.1 K.2.2.2.2.2,r]]
end
end L2
namespace L2
open PySem
section
variable {P:ð}{w:ú}{A:Vl}{E:Ä->É->Prop}{s:É}
theorem j5(a:s.heap.IsTupleIter r t k)(c:s.heap.IsTuple t d)(e:d[k]?=↑x)
  (f:∀ g,g.IsTupleIter r t (k + 1)->Yw r s.heap g->Q x { s with heap:=g }):â (Ü P w) A (nextOf ↥r) Q E s:=by
 let(o,h,i,j):=id a;let(l,m,_,n,p):=c;refine À (VB  a.typeIs Yz (Vt Yz a.typeIs F.entry_tuple_iterator_next ?_ (F.args_tuple_iterator_next_1 _)));show â _ _ (field _ 0 >>= _) _ _ s;refine À (Wh h j (x:=↥t) rfl ?_);refine À (Wh h j  rfl ?_);refine À (X2 m p ?_);simp[WO,e];refine À (wpAny_setField h j ⋯ (Æ #[x,rfl,Æ (f _ #[_,X7 _ h (Obj.isFreed_of_fields (Obj.data_mapFields j _)),(Obj.cls_mapFields ..).trans i,by rw[Obj.data_mapFields j];simp[Wj]] (WC ..))]))
theorem jc(hh:A.handled=none)(hr:s.heap.IsTupleIter r t k)(ht:s.heap.IsTuple t vs)(hx:vs[k]?=none)
  (hE:∀ h' e,Heap.ExtBut r s.heap h'->(∃ o,h'.get? e=↑o/\o.cls=.type "StopIteration")->E ↥e { s with heap:=h' }):â (Ü P w) A (nextOf ↥r) Q E s:=by
 let(o,ho,hc,hd):=id hr;let(ot,hot,_,nt,hdt):=ht;refine À (VB  hr.typeIs Yz (Vt Yz hr.typeIs F.entry_tuple_iterator_next ?_ (F.args_tuple_iterator_next_1 _)));show â _ _ (field _ 0 >>= _) _ _ s;refine À (Wh ho hd (x:=↥t) rfl ?_);refine À (Wh ho hd  rfl ?_);refine À (X2 hot hdt ?_);simp[WO,hx];refine À (XQ (À (wpAny_setField ho hd ⋯ ?_)));apply À;refine À (m:=firstArgMember _ _) (wpAny_of_eq (a:=ö) (rfl) ?_)
 refine Vn ?_ (by size_fits);refine À (wpAny_handled ?_)
 first | rw[show A.in1.handled=none from hh] | rw[hh]
 refine À (Æ (wpAny_throw (hE _ _ (((WC ..).extBut.push _).push _) #[_,Ï _ rfl,rfl])))
theorem FI{z TI TO d f g h:Ê}{x y a b:Ä}{Q:Zn->É->Prop}(D:ZipApart z TI TO d f g h)(hz:IsZip s.heap z TI TO .none)
  (i:Yd s.heap TI ↥d ↥f) (j:Yd s.heap TO a b) (h1:s.heap.IsTupleIter d g k) (h2:s.heap.IsTupleIter f h k) (l:s.heap.IsTuple g xs) (m:s.heap.IsTuple h ys)
  (hx:xs[k]?=↑x) (hy:ys[k]?=↑y)
  (hQ:∀ n,IsZip n z TI TO (Wj s.heap.objs.size)->Yd n TO x y->n.IsTupleIter d g (k + 1)->n.IsTupleIter f h (k + 1)->Yd n s.heap.objs.size x y->n.objs.size=s.heap.objs.size + 1 ->
   (∀ c o,c≠z->c≠TO->c≠d->c≠f->s.heap.get? c=↑o->n.get? c=↑o)->Q ↑↥s.heap.objs.size { s with heap:=n }):â (Ü P w) A (pyNext ↥z) Q E s:=by
 have p:s.TypeIs ↥z _:=#[_,hz,rfl];refine À (wpAny_attempt (VB  p F.slot_zip_next (Vt F.slot_zip_next p F.entry_zip_next ?_ (F.args_zip_next_1 _))));show â _ _ (field _ 2 >>= _) _ _ _;refine À (Wh hz rfl (x:=.bool false) rfl ?_);refine À (Wh hz rfl  rfl ?_);refine À (X2 i rfl ?_);apply À;refine À (Wh hz rfl  rfl (Æ ?_));refine À (XQ (À (Wh hz rfl  rfl (À (WI hz ⋯ λg1 z1 r=>?_)))))
 apply À;refine À (À (wpAny_onRaise ?_));refine À (j5 (h1.extBut r.extBut D.i1z) (l.extBut r.extBut D.l1z) hx λg2 r2 u=>Æ ?_);have v :=u.extBut _ _ D.TOi1 (r.extBut _ _ D.TOz j);refine À (X2 v rfl (À (wpAny_updateSeq_pair v λg3 t3 B=>?_)));refine À (wpAny_letGo (Æ ?_));refine À (À (wpAny_onRaise ?_));refine À (j5 (((h2.extBut r.extBut D.i2z).extBut u.extBut D.i12.symm).extBut B.extBut D.TOi2.symm) (((m.extBut r.extBut D.l2z).extBut u.extBut D.l2i1).extBut B.extBut D.l2TO) hy λg4 r4 C=>Æ ?_);have G :=C.extBut _ _ D.TOi2 t3;refine À (X2 G rfl (À (wpAny_updateSeq_pair G λH I J=>?_)))
 replace I:Yd H TO x y:=I
 refine À (wpAny_letGo (Æ (Æ ?_)));refine À (X2 I rfl (À (wpAny_newTuple ?_)));have sz:H.objs.size=s.heap.objs.size:=by rw[J.1,C.1,B.1,u.1,r.1]
 have K :=J.extBut _ _ D.TOz.symm (C.extBut _ _ D.i2z.symm (B.extBut _ _ D.TOz.symm (u.extBut _ _ D.i1z.symm z1)));have kp:∀ c o,c≠z->c≠TO->c≠d->c≠f->s.heap.get? c=↑o->H.get? c=↑o:=λc o c1 c2 c3 c4 e=>J.extBut _ _ c2 (C.extBut _ _ c4 (B.extBut _ _ c2 (u.extBut _ _ c3 (r.extBut _ _ c1 e))));have r1 :=((r2.extBut B.extBut D.TOi1.symm).extBut C.extBut D.i12).extBut J.extBut D.TOi1.symm;have r5 :=r4.extBut J.extBut D.TOi2.symm;have zl :=é K;refine À ?_;have z6:IsZip (H.push { cls:=.type "tuple",data:=.seq [x,y].toArray }) z TI TO _:=Â _ K;refine À (WI z6 ⋯ λg7 z7 L=>?_)
 refine WI z7 ⋯ λN z8 U=>?_
 have X:∀ c o,c≠z->H.get? c=↑o->N.get? c=↑o:=λc o c1 e=>U.extBut _ _ c1 (L.extBut _ _ c1 (Â _ e));have t8 :=U.extBut _ _ (XD zl) (L.extBut _ _ (XD zl) (Ï _ rfl));have s8:N.objs.size=H.objs.size + 1:=by rw[U.1,L.1,Xz]
 rw[sz] at z8 t8 s8;refine Æ #[_,rfl,?_];refine Æ ?_;rw[sz];exact hQ N z8 (X _ _ D.TOz I) (by let(o,Y,q):=r1;exact#[o,X _ o D.i1z Y,q]) (by let(o,Y,q):=r5;exact#[o,X _ o D.i2z Y,q]) t8 s8 λc o c1 c2 c3 c4 e=>X c o c1 (kp c o c1 c2 c3 c4 e)
theorem HE{z TI TO d f g h:Ê}{a b:Ä}{Q:Zn->É->Prop}(i:A.handled=none)(D:ZipApart z TI TO d f g h)(hz:IsZip s.heap z TI TO .none)
  (j:Yd s.heap TI ↥d ↥f) (l:Yd s.heap TO a b) (m:s.heap.IsTupleIter d g k) (h2:s.heap.IsTupleIter f h k) (n:s.heap.IsTuple g xs) (p:s.heap.IsTuple h r)
  (u:xs[k]?=none\/r[k]?=none) (hQ:∀ v,(∀ c o,c≠z->c≠TO->c≠d->c≠f->s.heap.get? c=↑o->v.get? c=↑o)->Q none { s with heap:=v }):â (Ü P w) A (pyNext ↥z) Q E s:=by
 have y:s.TypeIs ↥z _:=#[_,hz,rfl];have B:∀ (v:þ) (e:Ê),(∀ c o,c≠z->c≠TO->c≠d->c≠f->s.heap.get? c=↑o->v.get? c=↑o)->(∃ o,v.get? e=↑o/\o.cls=.type _) ->
   â (Ü P w) A (isInstance ↥e _ >>= λb=>if b=true then pure none else throw ↥e) Q E _:=λv e kp C=>by
  let(o,ho,hc):=C;exact À (wpAny_isInstance   #[o,ho,hc] isSubtype_stop (Æ (hQ _ kp)))
 refine À (wpAny_attempt (VB  y F.slot_zip_next (Vt F.slot_zip_next y F.entry_zip_next ?_ (F.args_zip_next_1 _))));show â _ _ (field _ 2 >>= _) _ _ _;refine À (Wh hz rfl (x:=.bool false) rfl ?_);refine À (Wh hz rfl  rfl ?_);refine À (X2 j rfl ?_);apply À;refine À (Wh hz rfl  rfl (Æ ?_));refine À (XQ (À (Wh hz rfl (x:=↥TO) rfl (À (WI hz ⋯ λg1 G H=>?_)))))
 replace G:IsZip g1 z TI TO .ellipsis:=G
 refine À ?_;simp only[List.zipIdx_cons,List.zipIdx_nil,List.forIn_cons,List.forIn_nil];refine À (À (wpAny_onRaise ?_));show â _ _ (nextOf ↥d >>= _) _ _ _;cases I:xs[k]? with
 |none =>
  refine À (jc i (m.extBut H.extBut D.i1z) (n.extBut H.extBut D.l1z) I λJ e K C=>?_);let(L,N,U):=C;have z2:IsZip J z TI TO .ellipsis:=K _ _ D.i1z.symm G;have X:e≠z:=λq=>by subst q;rw[z2] at N;cases N;simp at U
  exact WI z2 ⋯ λg3 _ Y=>B g3 e (λc o c1 _ c3 _ q=>Y.extBut _ _ c1 (K _ _ c3 (H.extBut _ _ c1 q))) #[L,Y.extBut _ _ X N,U]
 |some x =>
  have hy:r[k]?=none:=by rcases u with q | q;rw[I] at q;cases q;exact q
  refine À (j5 (m.extBut H.extBut D.i1z) (n.extBut H.extBut D.l1z) I λJ r2 K=>Æ ?_);have t2:Yd J TO a b:=K.extBut _ _ D.TOi1 (H.extBut _ _ D.TOz l);refine À (X2 t2 rfl (À (wpAny_updateSeq_pair t2 λg3 t3 Y=>?_)));refine À (wpAny_letGo (Æ ?_));refine À (À (wpAny_onRaise ?_));show â _ _ (nextOf ↥f >>= _) _ _ _;refine À (jc i (((h2.extBut H.extBut D.i2z).extBut K.extBut D.i12.symm).extBut Y.extBut D.TOi2.symm) (((p.extBut H.extBut D.l2z).extBut K.extBut D.l2i1).extBut Y.extBut D.l2TO) hy λg4 e e4 C=>?_);let(L,N,U):=C;have z4:IsZip g4 z TI TO .ellipsis:=e4 _ _ D.i2z.symm (Y.extBut _ _ D.TOz.symm (K.extBut _ _ D.i1z.symm G));have X:e≠z:=λq=>by subst q;rw[z4] at N;cases N;simp at U
  exact WI z4 ⋯ λg5 _ e5=>B g5 e (λc o c1 c2 c3 c4 q=>e5.extBut _ _ c1 (e4 _ _ c4 (Y.extBut _ _ c2 (K.extBut _ _ c3 (H.extBut _ _ c1 q))))) #[L,e5.extBut _ _ X N,U]
abbrev To(h:þ)(a:Ê):Heap:=h.push { cls:=.type "tuple_iterator",data:=.fields [↥a,.int 0 0].toArray }
abbrev Tp(h:þ)(a c:Ê):Heap:=(To h a).push { cls:=.type "tuple_iterator",data:=.fields [↥c,.int 0 0].toArray }
abbrev Tq(h:þ)(a c:Ê):Heap:=(Tp h a c).push { cls:=.type "tuple",data:=.seq [↥h.objs.size,↥(To h a).objs.size].toArray }
abbrev Ts(h:þ)(a c:Ê):Heap:=(Tq h a c).push { cls:=.type "tuple",data:=.seq [.none,.none].toArray }
abbrev Qd(h:þ)(a c:Ê):Heap:=(Ts h a c).push { cls:=.type "zip",data:=.fields [.none,.bool false,.bool false,↥(Tp h a c).objs.size,↥(Tq h a c).objs.size].toArray }
theorem Cq(a c:Ê)(e f:Zo) :
  Meets (Xh.«zip.__new__» #[[.type "zip",↥a,↥c],[]]) (λ_ R s=>s.heap.IsTuple a e/\s.heap.IsTuple c f/\R (.ok (.ret ↥(Ts s.heap a c).objs.size)) { s with heap:=Qd s.heap a c }) :=
 .of_wp λP w A R s h=>by
  let(i,g,d,j,k):=s;let(l,m,h):=h;have n:=sub_zip;have p:Heap.IsTuple (Shared.heap #[i.push { cls:=.type "tuple_iterator",data:=.fields [↥a,.int 0 0].toArray },g,d,j,k]) c f:=Heap.IsTuple.push m _
  wp_walk using WJ l,WJ p
  exact#[_,rfl,h]
theorem FJ(a:s.heap.IsTuple d xs)(e:s.heap.IsTuple f g)
  (h:∀ i,IsZip i (s.heap.objs.size + 4) (s.heap.objs.size + 2) (s.heap.objs.size + 3) .none->Yd i (s.heap.objs.size + 2) ↥s.heap.objs.size ↥(s.heap.objs.size + 1)->Yd i (s.heap.objs.size + 3) .none .none ->
   i.IsTupleIter s.heap.objs.size d 0->i.IsTupleIter (s.heap.objs.size + 1) f 0->(∀ c o,s.heap.get? c=↑o->i.get? c=↑o)->Q ↥(s.heap.objs.size + 4) { s with heap:=i }) :
  â (Ü P w) A (call (.type "zip") [↥d,↥f]) Q E s:=by
 refine callType_new F.called_zip (-0) (F.typeCall_zip_2 _ _) (F.newCall_zip_2 _ _) (λobj=>F.args_object_init_3 obj _ _) F.entry_zip_new (Cq d f xs g) #[a,e,?_]
 have n1:(To s.heap d).objs.size=s.heap.objs.size + 1:=Xz ..;have n2:(Tp s.heap d f).objs.size=s.heap.objs.size + 2:=by rw[Xz,n1]
 have j:(Tq s.heap d f).objs.size=s.heap.objs.size + 3:=by rw[Xz,n2]
 have k:(Ts s.heap d f).objs.size=s.heap.objs.size + 4:=by rw[Xz,j]
 have l:(Qd s.heap d f).get? _=↑_:=Ï _ rfl;have m:(Qd s.heap d f).get? _=↑_:=Â _ (Ï _ rfl);have n:(Qd s.heap d f).get? _=↑_:=Â _ (Â _ (Ï _ rfl));have p:(Qd s.heap d f).get? _=↑_:=Â _ (Â _ (Â _ (Ï _ rfl)));have r:(Qd s.heap d f).get? s.heap.objs.size=↑_:=Â _ (Â _ (Â _ (Â _ (Ï _ rfl))));rw[n2,j,k] at l;rw[n1,n2] at n;rw[j] at m;rw[n1] at p;rw[k];exact#[#[_,l,rfl],h _ l n m #[_,r,rfl,rfl] #[_,p,rfl,rfl] λc o q=>Â _ (Â _ (Â _ (Â _ (Â _ q))))]
end
open PySem PySem.Spec PyProof.Rows
section
variable {X:Cx}{aa:⇑(Ê × Obj)}{σ:St}{H:Hp}{s:É}{h':þ}
theorem Inv.tE{t':Nat}{ch:Zp}(I:Inv X aa σ H s)(a:∀ b∈ch,lC X aa H b)(k:∀ b o,b ∉ ch->s.heap.get? b=↑o->h'.get? b=↑o):Inv X aa σ H { s with heap:=h',toks:=t' }:=by
 have d:∀ b u,H b=↑u->b ∉ ch:=λb u e z=>by rw[(a b z).1] at e;cases e
 refine I.step    (λb f=>#[(a b f).2.2.2.1,(a b f).2.1,(a b f).2.2.2.2.1,(a b f).2.2.2.2.2]) (λb o _ _ g e _=>k b o g e) (λb o _ _ g e _=>#[o.slots,k b o g e]) (λ_ _ _ _ n=>n)
  (λb o g e=>#[o,k b o g e]) (λ_ _ e=>e) (λ_ _ _ e=>e) (λb h e=>#[[].toArray,by simp_all]) (λm i=>?_) (λb u e=>?_) I.bare
 .let(o,j,l,p,r):=i;exact#[o,j,l,k _ o (λz=>(a _ z).2.1 rfl) p,r]
 .refine(I.aX b u e).jv (λc v g q=>k c v ?_ q) (λ_ q=>q) λ_ _ q=>q;rcases g with z | z
  .rw[z];exact d b u e
  .exact d c _ z
theorem Inv.DJ{T:Ê}(I:Inv X aa σ H s)(f:lC X aa H T)(a:X.s₀.heap.objs.size<=T)(d:jV X.prog X.w (upd H T o) s.heap):Inv X aa σ (upd H T o) s:=by
 have u:=I.base;refine#[I.ok,I.os,I.bare,#[u.keep,u.slot,λb g e n h=>?_,u.there,λb i e=>?_,λb g i e=>?_,λb j e=>?_],I.loc,I.cell,?_,λx c e=>?_,λp k=>?_,d,I.len]
 .rw[ah (Û (Ñ (é e) a))];exact u.free b g e n h
 .have z:=u.tups b i e;rw[ah (aD z f.1)];exact z
 .have z:=u.frzs b g i e;rw[ah (aD z f.1)];exact z
 .let(l,z):=u.tbls b j e;exact#[l,by rw[ah (aD z f.1)];exact z]
 .rw[ah f.2.1.symm];exact I.free
 .rw[ah (f.2.2.2.2.1 x c e)];exact I.freeC x c e
 .let(e,n,r):=I.pin p k;exact#[e,by rw[ah (f.2.2.2.2.2 p k)];exact n,r]
theorem jV.HF{D:Ê}{aw:Zi}(x:jV P w H h)(a:H D=none)(d:Vals f aw)(hz:f.length<=sizeLine)(g:IsTup h D aw.toArray):jV P w (upd H D (.tup f)) h:=λb u e=>by
 by_cases i:b=D
 .subst i;rw[aB] at e;cases e;exact#[hz,aw,d,g]
 .rw[ah i] at e;exact(x b u e).jv (λc v _ q=>q) (λc q=>by rw[ah (aD q a)];exact q) λc j q=>by rw[ah (aD q a)];exact q
end
def Aj:Bool->Å->Hp->Ê->⇑V->Prop
 |true=>jX|false=>dU
def lE:Bool->þ->Ê->Ê->Nat->Prop
 |true=>þ.IsListIter|false=>þ.IsTupleIter
def yG:Bool->þ->Ê->Zo->Prop
 |true=>þ.IsList|false=>Heap.IsTuple
theorem lE.obj{b:Bool}{it a:Ê}(f:lE b h it a i):∃ o,h.get? it=↑o/\(∀ v,o.data=.cell v->False)/\∀ j:þ,j.get? it=↑o->lE b j it a i:=by
 cases b with
 |true=>let(o,g,c,d):=f;exact#[o,g,(λv e=>by rw[d] at e;cases e),λj k=>#[o,k,c,d]]
 |false=>let(o,g,c,d):=f;exact#[o,g,(λv e=>by rw[d] at e;cases e),λj k=>#[o,k,c,d]]
theorem Inv.sQ(I:Inv X c σ H s)(h:Aj b X.K H a xs):∃ aw:Zi,Vals xs aw/\yG b s.heap a aw.toArray/\a < s.heap.objs.size/\∀ d,Aj b X.K H a d->d=xs:=by
 cases b with
 |true=>let(aw,r,p,_):=I.list h;exact#[aw,r,p.isList,by let(o,e,_):=p.isList;exact é e,λd f=>I.Ao f h]
 |false=>let(aw,r,p,_):=I.tuple h;exact#[aw,r,p,by let(o,e,_):=p;exact é e,λd f=>I.xh f h]
section
variable {P:ð}{w:ú}{A:Vl}{E:Ä->É->Prop}{s:É}{b:Bool}{z TI TO i1 i2 l1 l2:Ê}{k:Nat}{xs ys:Zo}{x y p q:Ä}
theorem FK{Q:Zn->É->Prop}(D:ZipApart z TI TO i1 i2 l1 l2)(hz:IsZip s.heap z TI TO .none)(a:Yd s.heap TI ↥i1 ↥i2)(d:Yd s.heap TO p q)(e:lE b s.heap i1 l1 k)(f:lE b s.heap i2 l2 k)(g:yG b s.heap l1 xs)(h:yG b s.heap l2 ys)(i:xs[k]?=↑x)(j:ys[k]?=↑y)
  (l:∀ m,IsZip m z TI TO (Wj s.heap.objs.size)->Yd m TO x y->lE b m i1 l1 (k + 1)->lE b m i2 l2 (k + 1)->Yd m s.heap.objs.size x y->m.objs.size=s.heap.objs.size + 1 ->
   (∀ c o,c≠z->c≠TO->c≠i1->c≠i2->s.heap.get? c=↑o->m.get? c=↑o)->Q ↑↥s.heap.objs.size { s with heap:=m }):â (Ü P w) A (pyNext ↥z) Q E s:=match b,e,f,g,h,l with
 |true,e,f,g,h,l=>wpAny_pyNext_zip_item D hz a d e f g h i j l|false,e,f,g,h,l=>FI D hz a d e f g h i j l
theorem HG{Q:Zn->É->Prop}(a:A.handled=none)(D:ZipApart z TI TO i1 i2 l1 l2)(hz:IsZip s.heap z TI TO .none)(d:Yd s.heap TI ↥i1 ↥i2)(e:Yd s.heap TO p q)(f:lE b s.heap i1 l1 k)(g:lE b s.heap i2 l2 k)(h:yG b s.heap l1 xs)(i:yG b s.heap l2 ys)
  (j:xs[k]?=none\/ys[k]?=none) (l:∀ m,(∀ c o,c≠z->c≠TO->c≠i1->c≠i2->s.heap.get? c=↑o->m.get? c=↑o)->Q none { s with heap:=m }):â (Ü P w) A (pyNext ↥z) Q E s:=match b,f,g,h,i with
 |true,f,g,h,i=>wpAny_pyNext_zip_end a D hz d e f g h i j l|false,f,g,h,i=>HE a D hz d e f g h i j l
theorem xt{Q:Ä->É->Prop}(a:yG b s.heap l1 xs)(d:yG b s.heap l2 ys)
  (h:∀ e,IsZip e (s.heap.objs.size + 4) (s.heap.objs.size + 2) (s.heap.objs.size + 3) .none->Yd e (s.heap.objs.size + 2) ↥s.heap.objs.size ↥(s.heap.objs.size + 1)->Yd e (s.heap.objs.size + 3) .none .none ->
   lE b e s.heap.objs.size l1 0->lE b e (s.heap.objs.size + 1) l2 0->(∀ c o,s.heap.get? c=↑o->e.get? c=↑o)->Q ↥(s.heap.objs.size + 4) { s with heap:=e }):â (Ü P w) A (call (.type "zip") [↥l1,↥l2]) Q E s:=match b,a,d,h with
 |true,a,d,h=>call_zip_2 a d λe f g i j l _ m=>h e f g i j l m|false,a,d,h=>FJ a d h
end
def Tt(b:Bool)(K:Å)(a c:Ê):It :=
 #[λi H=>∃ d e x y,Aj b K H a d/\Aj b K H c e/\d[i]?=↑x/\e[i]?=↑y,
  λi H v f=>∃ T,v=↥T/\H T=none/\∀ d e x y,Aj b K H a d->Aj b K H c e->d[i]?=↑x->e[i]?=↑y->f=upd H T (.tup [x,y]),
  λi H=>∃ d e,Aj b K H a d/\Aj b K H c e/\(d.length<=i\/e.length<=i)]
theorem Ax{P:ð}{w:ú}{K:Å}{es:Zm}{ek:Nat}{ep:Pos}{b:Bool}{a c z TI TO d f:Ê}(D:ZipApart z TI TO d f a c) :
  Turn P w K (.Tuple es ek ep) (Tt b K a c) [z,TI,TO,d,f] z (λi h=>IsZip h z TI TO .none/\Yd h TI ↥d ↥f/\(∃ p q,Yd h TO p q)/\lE b h d a i/\lE b h f c i) where
 mem:=⋯
 obj:=λi h j c l=>by
  obtain⟨hz,m,⟨p,q,n⟩,r,u⟩:=j;let(o1,r,d1,_):=r.obj;let(o2,u,d2,_):=u.obj;simp only[VP,Vp,ZE] at l;rcases l with rfl | rfl | rfl | rfl | rfl
  .exact#[_,hz,λv e=>by cases e]
  .exact#[_,m,λv e=>by cases e]
  .exact#[_,n,λv e=>by cases e]
  .exact#[_,r,d1]
  .exact#[_,u,d2]
 keep:=λi h h' j k=>by
  obtain⟨hz,m,⟨p,q,n⟩,r,u⟩:=j;let(o1,r,_,r1):=r.obj;let(o2,u,_,r2):=u.obj;exact#[k z ⋯ _ hz,k TI ⋯ _ m,#[p,q,k TO ⋯ _ n],r1 _ (k d ⋯ _ r),r2 _ (k f ⋯ _ u)]
 item:=by
  intro X hP hw hK l i A s σ H E I B j hg;subst hP hw hK;let(xs,ys,x,y,C,F,hx,hy):=hg;let(v1,G,p1,_,z1):=I.sQ C;let(v2,J,p2,_,z2):=I.sQ F;let(u1,hu1,ru1):=G.get hx;let(u2,hu2,ru2):=J.get hy;obtain⟨hz,m,⟨p,q,n⟩,r,u⟩:=j;refine FK D hz m n r u p1 p2 (x:=u1) (y:=u2) (by simpa using hu1) (by simpa using hu2) λg1 gz gTO g1' g2' gT gs kp=>#[_,rfl,?_]
  refine wpAny_letOwnedTupleGo_zip (s:={ s with heap:=g1 }) gz λL gz2 sb=>?_;have hT:H s.heap.objs.size=none:=I.aX.fresh (Ò _);have N:∀ c o,c ∉ [z,TI,TO,d,f]->s.heap.get? c=↑o->L.get? c=↑o:=λc o l e=>by
   simp only[VP,Vp,ZE,not_or] at l;exact sb.extBut _ _ l.1 (kp c o l.1 l.2.2.1 l.2.2.2.1 l.2.2.2.2 e)
  have I2:Inv X A σ H { s with heap:=L }:=I.tE (t':=s.toks) B N;have fT:lC X A H s.heap.objs.size:=I.oh (Ò _) hT;have gT2:L.get? s.heap.objs.size=↑{ cls:=.type "tuple",data:=.seq [u1,u2].toArray }:=sb.extBut _ _ (λe=>VH _ (by have:=é hz;rw[<-e] at this;exact this)) gT
  have I3:Inv X A σ (upd H s.heap.objs.size (.tup [x,y])) { s with heap:=L }:=I2.DJ fT I.sz (I2.aX.HF hT (aw:=[u1,u2]) (.cons ru1 (.cons ru2 .nil)) (by show 2<=sizeLine;rw[VD];decide) #[_,gT2,rfl,_,rfl])
  have TI0:Yd L TI ↥d ↥f:=sb.extBut _ _ D.TIz (kp _ _ D.TIz D.TITO D.TIi1 D.TIi2 m);let(o1,w1,_,r1):=g1'.obj;let(o2,w2,_,r2):=g2'.obj;refine#[↥s.heap.objs.size,_,I3,rfl,#[_,rfl,hT,λxs' ys' x' y' e1 e2 e3 e4=>?_],#[gz2,TI0,#[_,_,sb.extBut _ _ D.TOz gTO],r1 _ (sb.extBut _ _ D.i1z w1),r2 _ (sb.extBut _ _ D.i2z w2)],λc l=>?_]
  .rw[z1 _ e1] at e3;rw[z2 _ e2] at e4;rw[hx] at e3;rw[hy] at e4;cases e3;cases e4;rfl
  .rw[ah]
   .exact(B c l).1
   .intro e;let(o1,r,_):=r.obj;let(o2,u,_):=u.obj;have lt:c < s.heap.objs.size:=by
     simp only[VP,Vp,ZE] at l;rcases l with rfl | rfl | rfl | rfl | rfl
     .exact é hz
     .exact é m
     .exact é n
     .exact é r
     .exact é u
    rw[e] at lt;exact VH _ lt
 done:=by
  intro X hP hw hK l i A s σ H E I B j hg;subst hP hw hK;let(xs,ys,C,F,U):=hg;let(v1,G,p1,_):=I.sQ C;let(v2,J,p2,_):=I.sQ F;obtain⟨hz,m,⟨p,q,n⟩,r,u⟩:=j;have l1:=G.length;have l2:=J.length;refine HG (I.ok.hd l) D hz m n r u p1 p2 (U.elim (λe=>.inl (by simp;exact Í (WA (_a l1)) e)) λe=>.inr (by simp;exact Í (WA (_a l2)) e)) λg kp=>#[rfl,I.tE (t':=s.toks) B λc o Y e=>?_]
  simp only[VP,Vp,ZE,not_or] at Y;exact kp c o Y.1 Y.2.2.1 Y.2.2.2.1 Y.2.2.2.2 e
 self:=λ_ _ _ _ _ j h=>wpAny_pyIter_zip j.1 h
def QM(K:Å)(d:TA):TI:=λe H R=>d e H λf g=>∃ b a c,f=[↥a,↥c]/\(∃ h,Aj b K g a h)/\(∃ i,Aj b K g c i)/\R (Tt b K a c) g
theorem boot_zip:Vk "zip"=↑(.type "zip"):=by decide +kernel
theorem N4{a b:Þ}{p pos:Pos}(d:Gl X "zip")(f:X.mg "zip"=none)(g:PA X [a,b] i)(hs:VC [a,b] X.env=[(false,eval a X.env),(false,eval b X.env)]:=by rfl)(j:VC [b] X.env=[(false,eval b X.env)]:=by rfl) :
  PI X (.Tuple k l ep) (.Call (.Name "zip" p) [a,b] [] pos) (QM X.K i):=by
 intro m s n H R I h;refine Call_ (gI I d f boot_zip (Vo (cF (g pos m s n H _ I h) λus s1 #[vs,H1,o,v,w]=>?_) (by simp_all) (by rw[j];rfl)))
 obtain⟨b,l1,l2,e,⟨xs,x⟩,⟨ys,y⟩,q⟩:=w;subst e;let(u,w',rfl,r,z):=vals2 v;subst r;subst z;let(v1,A,B,C,_):=o.sQ x;let(v2,E,p2,F,_):=o.sQ y;refine xt B p2 λh' hz G J L N P=>wpAny_pyIter_zip  hz ?_;refine#[_,_,_,_,H1,rfl,o.kept  P,Ax (zipApart_new C F),#[hz,G,#[_,_,J],L,N],λc U=>?_,q];have Y:s1.heap.objs.size<=c:=by
  simp[VP,Vp,ZE] at U;rcases U with rfl | rfl | rfl | rfl | rfl
  .simp_all
  .simp_all
  .simp_all
  .exact Ò _
  .exact VO _ 1
 exact o.oh Y (o.aX.fresh Y)
theorem HH(c:X.calm):cA X (.builtin "all") (λd H Q=>∃ (a:Ê) (bs:⇑Bool),d=[↥a]/\jX X.K H a (bs.map V.bl)/\Q (.bl (bs.all id)) H):=by
 intro f s g H d j Q I r h;let(a,bs,rfl,k,q):=h;let(u,rfl,l):=vals1 r;subst l;let(m,n,pl,hz):=I.list k;have w :=by have:=n.length;simpa using this.symm
 refine call_all_walk (Yn pl.isList #[_,_,_,_,_,_,λi=>(bs[i]?).getD true,rfl,Walks.list (by exact I.ok.hd c) s.heap.objs.size a (Û (by let(_,e,_):=pl.isList;exact é e)) m.toArray,#[#[_,Ï _ rfl,rfl,rfl],pl.isList.push _],?_,?_])
 .intro i v y z A B C;have E :=by simpa using B
  have F:i < bs.length:=by rw[<-w];exact(ç.mp E).1
  let(G,J,L):=n.get (i:=i) (x:=.bl bs[i]) (by simp[F])
  rw[E] at J;cases J;cases (show v=YJ _ from L);exact Wi (by simp_all)
 .intro N P U;refine#[_,H,I.kept λb o e=>U b o (by simpa using Û (é e)) (Â _ e),?_,q]
  show YJ _=YJ _;rw[á,w,PyProof.Rows.LSm.range_all]
end L2
namespace NS
open PySem PySem.W PyProof.Rows
section
variable (lt:Nat->Nat->Bool)
def Le(x y:Nat):Prop:=lt y x=false
structure Od:Prop where
 asym:∀ x y,lt x y=true->lt y x=false
 tr:∀ x y z,Le lt x y->Le lt y z->Le lt x z
abbrev Up(l:Zh):Prop:=l.Pairwise (Le lt)
abbrev Dn(l:Zh):Prop:=l.Pairwise λx y=>Le lt y x
variable {lt}
theorem Od.refl(o:Od lt)(x:Nat):Le lt x x:=by
 delta Le
 cases h:lt x x with
 |false=>rfl|true=>rw[o.asym x x h] at h;cases h
theorem Od.le(o:Od lt)(h:lt x y):Le lt x y:=o.asym x y h
theorem jz{l:Zh}{n:Nat}(h:n < l.length):l.take (n + 1)=l.take n++[l.getD n 0]:=by simp_all
theorem cQ{l:Zh}{x n:Nat}(h:x∈l.take n):∃ i,i < n/\i < l.length/\l.getD i 0=x:=by
 let(i,a,rfl):=Vv.mp h;rw[õ] at a;exact#[i,Ñ a (_s _ _),Ñ a (_j _ _),by simp[show i < l.length by exact Ñ a (_j _ _)]]
theorem fh{l:Zh}{x n:Nat}(h:x∈l.drop n):∃ i,n<=i/\i < l.length/\l.getD i 0=x:=by
 let(i,a,rfl):=Vv.mp h;rw[Vq] at a;exact#[n + i,VO _ _,_x a,by simp[show n + i < l.length by exact _x a]]
theorem da{l:Zh}{i:Nat}(h:i < l.length):l.getD i 0∈l:=by simp[h]
theorem Up.at(o:Od lt){l:Zh}(u:Up lt l){i j:Nat}(h:i<=j)(a:j < l.length):Le lt (l.getD i 0) (l.getD j 0):=by
 rcases lt_or_ge i j with k | k
 .simpa [a,show i < l.length by exact Ñ k (so a)] using (List.pairwise_iff_getElem.mp u i j _ a k)
 .rw[show i=j by omega];exact o.refl _
theorem Up.snoc(u:Up lt l)(h:∀ y∈l,Le lt y x):Up lt (l++[x]) :=
 ê.mpr #[u,VV _ _,λy a z hz=>by simp_all]
theorem Dn.snoc(u:Dn lt l)(h:∀ y∈l,Le lt x y):Dn lt (l++[x]) :=
 ê.mpr #[u,VV _ _,λy a z hz=>by simp_all]
theorem K4(o:Od lt){l:Zh}{n:Nat}(a:1<=n)(h:n < l.length)(u:Up lt (l.take n))(le:Le lt (l.getD (n - 1) 0) (l.getD n 0)):Up lt (l.take (n + 1)):=by
 rw[jz h];refine u.snoc λy c=>?_;let(i,d,f,rfl):=cQ c;have e:∀ k,k < n->(l.take n).getD k 0=l.getD k 0:=λk g=>by simp_all
 have:=u.at o  (j:=n - 1) (_H d) (by grind)
 rw[e i d,e _ (_k a (Xs _))] at this
 exact o.tr _ _ _ this le
theorem Dn.rev(d:Dn lt l):Up lt l.reverse:=List.pairwise_reverse.mpr d
def js(lt:Nat->Nat->Bool)(left:Bool)(y:Nat)(l:Zh)(i:Nat):Bool:=if left=true then lt (l.getD i 0) y else !lt y (l.getD i 0)
theorem HI(o:Od lt){left:Bool}{b z:Nat}(u:Up lt ((l.drop b).take z))(a:i<=j)(c:j < z)(d:b + z<=l.length)(h:js lt left y l (b + j)):js lt left y l (b + i):=by
 have e:∀ k,k < z->((l.drop b).take z).getD k 0=l.getD (b + k) 0:=λk f=>by simp_all
 have le:=u.at o a (by grind)
 rw[e i (VA a c),e j c] at le
 delta js at h ⊢
 cases left with
 |true =>
  cases q:lt _ y with
  |true=>rfl
  |false =>
   have :=o.tr _ _ _ q le;rw[this] at h;cases h
 |false =>
  rw[o.tr _ _ _ le (by delta Le;simpa using h)];rfl
structure MI(lt:Nat->Nat->Bool)(jW o A B:⇑Nat):Prop where
 perm:(o++A++B).Perm jW
 upO:Up lt o
 low:∀ x∈o,∀ y∈A++B,Le lt x y
 upA:Up lt A
 upB:Up lt B
 last:∀ z,A.getLast?=↑z->∀ y∈B,Le lt y z
theorem MI.Ay{jW o A B:Zh}(m:MI lt jW o A B)(k:Nat)(h:∀ x∈A.take k,∀ y∈B,Le lt x y):MI lt jW (o++A.take k) (A.drop k) B where
 perm:=by rw[Ø o,è];exact m.perm
 upO:=ê.mpr #[m.upO,m.upA.sublist (WB k A),λx hx y hy=>m.low x hx y (ä _ (V1 hy))]
 low x hx y hy:=by
  rcases Ð.mp hx with hx | hx
  .rcases Ð.mp hy with hy | hy
   .exact m.low x hx y (ä _ (Wl hy))
   .exact m.low x hx y (Ô _ hy)
  .rcases Ð.mp hy with hy | hy
   .have:=m.upA;rw[<-è k A] at this;exact(ê.mp this).2.2 x hx y hy
   .exact h x hx y hy
 upA:=m.upA.sublist (XF k A)
 upB:=m.upB
 last z hz y hy:=m.last z (by
  rw[<-è k A,List.getLast?_append,hz];rfl) y hy
theorem MI.Az{jW o A B:Zh}(m:MI lt jW o A B)(k:Nat)(h:∀ x∈B.take k,∀ y∈A,Le lt x y):MI lt jW (o++B.take k) A (B.drop k) where
 perm:=by
  refine XU ?_ m.perm;rw[Ø,Ø,Ø o A B];refine YV o ?_;rw[<-Ø];refine(List.perm_append_comm.append_right _).trans ?_;rw[Ø,è]
 upO:=ê.mpr #[m.upO,m.upB.sublist (WB k B),λx hx y hy=>m.low x hx y (Ô _ (V1 hy))]
 low x hx y hy:=by
  rcases Ð.mp hx with hx | hx
  .rcases Ð.mp hy with hy | hy
   .exact m.low x hx y (ä _ hy)
   .exact m.low x hx y (Ô _ (Wl hy))
  .rcases Ð.mp hy with hy | hy
   .exact h x hx y hy
   .have:=m.upB;rw[<-è k B] at this;exact(ê.mp this).2.2 x hx y hy
 upA:=m.upA
 upB:=m.upB.sublist (XF k B)
 last z hz y hy:=m.last z hz y (Wl hy)
theorem dG(u:Up lt o)(v:Up lt A)(h:∀ x∈o,∀ y∈A,Le lt x y):Up lt (o++A):=ê.mpr #[u,v,h]
theorem MI.done{jW o A B:Zh}(m:MI lt jW o A B)(h:A=[]\/B=[]):(o++A++B).Perm jW/\Up lt (o++A++B):=by
 refine#[m.perm,?_];rcases h with rfl | rfl
 .rw[ó];exact dG m.upO m.upB λx a y c=>m.low x a y (by simp_all)
 .rw[ó];exact dG m.upO m.upA λx a y c=>m.low x a y (by simp_all)
theorem MI.QN{jW o A B:Zh}(m:MI lt jW o A B)(h:A.length=1):(o++B++A).Perm jW/\Up lt (o++B++A):=by
 let(z,rfl):=List.length_eq_one_iff.mp h;refine#[XU ?_ m.perm,?_]
 .rw[Ø,Ø];exact List.perm_append_comm.append_left o
 .refine dG (dG m.upO m.upB λx a y c=>m.low x a y (Ô _ c)) (VV _ _) λx a y c=>?_;rw[Ë.mp c];rcases Ð.mp a with a | a
  .exact m.low x a z ⋯
  .exact m.last z rfl x a
structure MH(lt:Nat->Nat->Bool)(jW o A B:⇑Nat):Prop where
 perm:(A++B++o).Perm jW
 upO:Up lt o
 low:∀ x∈A++B,∀ y∈o,Le lt x y
 upA:Up lt A
 upB:Up lt B
 fst:∀ z,B.head?=↑z->∀ x∈A,Le lt z x
theorem MH.Ay{jW o A B:Zh}(m:MH lt jW o A B)(k:Nat)(h:∀ x∈A.drop k,∀ y∈B,Le lt y x):MH lt jW (A.drop k++o) (A.take k) B where
 perm:=by
  refine XU ?_ m.perm;rw[<-Ø];refine List.Perm.append_right o ?_;rw[Ø];refine(List.perm_append_comm.append_left _).trans ?_;rw[<-Ø,è]
 upO:=dG (m.upA.sublist (XF k A)) m.upO λx hx y hy=>m.low x (ä _ (Wl hx)) y hy
 low x hx y hy:=by
  rcases Ð.mp hy with hy | hy
  .rcases Ð.mp hx with hx | hx
   .have:=m.upA;rw[<-è k A] at this;exact(ê.mp this).2.2 x hx y hy
   .exact h y hy x hx
  .rcases Ð.mp hx with hx | hx
   .exact m.low x (ä _ (V1 hx)) y hy
   .exact m.low x (Ô _ hx) y hy
 upA:=m.upA.sublist (WB k A)
 upB:=m.upB
 fst z hz x hx:=m.fst z hz x (V1 hx)
theorem MH.Az{jW o A B:Zh}(m:MH lt jW o A B)(k:Nat)(h:∀ y∈B.drop k,∀ x∈A,Le lt x y):MH lt jW (B.drop k++o) A (B.take k) where
 perm:=by
  refine XU ?_ m.perm;rw[<-Ø,Ø A,è]
 upO:=dG (m.upB.sublist (XF k B)) m.upO λx hx y hy=>m.low x (Ô _ (Wl hx)) y hy
 low x hx y hy:=by
  rcases Ð.mp hy with hy | hy
  .rcases Ð.mp hx with hx | hx
   .exact h y hy x hx
   .have:=m.upB;rw[<-è k B] at this;exact(ê.mp this).2.2 x hx y hy
  .rcases Ð.mp hx with hx | hx
   .exact m.low x (ä _ hx) y hy
   .exact m.low x (Ô _ (V1 hx)) y hy
 upA:=m.upA
 upB:=m.upB.sublist (WB k B)
 fst z hz x hx:=m.fst z (by
  rw[<-è k B,List.head?_append,hz];rfl) x hx
theorem MH.done{jW o A B:Zh}(m:MH lt jW o A B)(h:A=[]\/B=[]):(A++B++o).Perm jW/\Up lt (A++B++o):=by
 refine#[m.perm,dG ?_ m.upO m.low];rcases h with rfl | rfl
 .exact m.upB
 .rw[ó];exact m.upA
theorem MH.N5{jW o A B:Zh}(m:MH lt jW o A B)(h:B.length=1):(B++A++o).Perm jW/\Up lt (B++A++o):=by
 let(z,rfl):=List.length_eq_one_iff.mp h;refine#[(List.perm_append_comm.append_right o).trans m.perm,dG (dG (VV _ _) m.upA λx a y c=>?_) m.upO λx a y c=>m.low x (Ð.mpr (Ð.mp a).symm) y c];rw[Ë.mp a];exact m.fst z rfl y c
end
section
variable {prog:ð}{w:ú}{A:Vl}{E:Ä->É->Prop}{s:É}{κ:XN} (it:Array Keyed) {n:Nat}{lt:Nat->Nat->Bool}
abbrev DO(i:Nat):Keyed:=Xo it i
def ar(l:Zh):Array Keyed:=(l.map (Xo it)).toArray
variable (κ) in
def sS(a:Zh)(p:⇑(Nat × Nat × Nat))(g:Nat):SortSt:=WL κ (ar it a) p.toArray g none
variable {it}
theorem cR(l:Zh):(ar it l).size=l.length:=by simp[ar]
theorem pg(l:Zh)(x:Nat):(ar it l).push (DO it x)=ar it (l++[x]):=by simp[ar]
theorem iy(l m:Zh):ar it l++ar it m=ar it (l++m):=by simp[ar]
theorem qQ(l:Zh)(i j:Nat):(ar it l).extract i j=ar it ((l.take j).drop i):=by
 simp[ar,List.drop_take,map_drop,map_take]
theorem Cr(l:Zh):(ar it l).reverse=ar it l.reverse:=by simp[ar]
def AA(prog:ð)(w:ú)(A:Vl)(s:É)(κ:XN)(it:Array Keyed)(n:Nat)(lt:Nat->Nat->Bool):Prop:=∀ i j (C:Bool->É->Prop),i < n->j < n->C (lt i j) s->kas_cmp prog w A κ it i j C s
variable {a:Zh}{p:⇑(Nat × Nat × Nat)}{g:Nat}
theorem uF(O:AA prog w A s κ it n lt){Q:Zr->VJ->Prop}(d:x < n)(e:y < n)(h:Q ↑(lt x y) (sS κ it a p g)):wpS (Ü prog w) A E s (lt' (DO it x) (DO it y)) Q (sS κ it a p g):=by
 refine Ú (wpS_get ?_);refine Ú (wpS_lift (wpAny_attempt (VY (O x y (λc f=>f=s/\c=lt x y) d e #[rfl,rfl]) (λc f i=>?_) λ_ _ j=>j.elim)));let(rfl,rfl):=i;exact#[rfl,æ h]
theorem dj{l:Zh}{Q:Keyed->VJ->Prop}(c:i < l.length)(h:Q (DO it (l.getD i 0)) σ):wpS (Ü prog w) A E s (elem' (ar it l) i) Q σ:=by
 rw[elem'_eq,(by simp[ar,c,DO]:(ar it l)[i]?=↑(DO it (l.getD i 0)))];exact æ h
theorem j6(O:AA prog w A s κ it n lt)(bd:∀ x∈a,x < n){Q:Zr->VJ->Prop}(c:i < a.length)(d:j < a.length)(h:Q ↑(lt (a.getD i 0) (a.getD j 0)) (sS κ it a p g)):wpS (Ü prog w) A E s (ltAt' i j) Q (sS κ it a p g):=by
 refine Ú (wpS_get ?_);exact Ú (dj c (Ú (dj d (uF O (bd _ (da c)) (bd _ (da d)) h))))
theorem QO(a:i<=k):j - i - 1 - (k - i)=j - (k + 1):=by
 rw[sub_sub j,sub_sub,Nat.add_right_comm,Xa a]
theorem AB(l:⇑α)(c:i<=j)(d:j<=l.length):mirror l.toArray i j ((j - i) / 2)=(l.take i++(((l.take j).drop i).reverse++l.drop j)).toArray:=by
 apply Array.ext_getElem?;intro k;rw[getElem?_mirror_all (by simp_all)]
 simp[List.getElem?_toArray];rw[Yj,Yj,Xd,Vq,õ,õ,Wd (Í c d),Wd d];by_cases c1:k < i
 .rw[Zv (λh=>absurd c1 (YA h.1)),Zu c1,VL,Zu c1]
 .rw[Zv c1];have e:=Y9 c1;by_cases c2:k < j
  .have c3:=Nat.sub_lt_sub_right e c2;rw[Zu #[e,c2],Zu c3,List.getElem?_reverse (by rw[Vq,õ,Wd d];exact c3),Vq,õ,Wd d,QO e,V6,VL,Zu (Nat.add_lt_of_lt_sub' (Nat.sub_lt_sub_left (VA e c2) (Nat.lt_succ_of_le e))),<-Nat.add_sub_assoc c2,sub_sub,add_comm 1 k]
  .rw[Zv (λh=>c2 h.2),Zv (YA (Nat.sub_le_sub_right (Y9 c2) _)),V6,sub_sub,Xa c,Xa (Y9 c2)]
theorem HJ{Q:Unit->VJ->Prop}(c:i<=j)(d:j<=a.length)(h:Q () (sS κ it (a.take i++(((a.take j).drop i).reverse++a.drop j)) p g)):wpS (Ü prog w) A E s (reverseSlice' i j) Q (sS κ it a p g):=by
 apply YD;show Q () (WL κ (mirror (ar it a) i j _) p.toArray g none);rw[(by
  delta ar
  rw[AB _ c (by simp_all)]
  simp_all:mirror _ i j _=ar it (a.take i++(((a.take j).drop i).reverse++a.drop j)))];exact h
theorem AD{α:Type}(l:⇑α){k d:Nat}(hk:k < l.length)(hd:d<=k):bubble l.toArray k (k - d)=(l.take d++((l.drop k).take 1++((l.take k).drop d++l.drop (k + 1)))).toArray:=by
 apply Array.ext_getElem?;intro i;rw[getElem?_bubble (by simp_all) _ (sub_le k d) i,Nat.sub_sub_self hd]
 simp[List.getElem?_toArray];have hk':=so hk;rw[Yj,Yj,Yj,õ,õ,Vq,Vq,õ,Wd (Í hd hk'),Wd (sub_pos_of_lt hk:1<=_),Wd hk',VL,VL,V6,V6,V6,VL];by_cases c1:i < d
 .rw[Zu c1,Zu c1,Zv (Û c1),Zv (λh=>Nat.lt_asymm h.1 c1)]
 .rw[Zv c1];by_cases c2:i=d
  .subst c2;rw[Zu rfl,sub_self,Zu Nat.one_pos,Zu Nat.one_pos,Nat.add_zero]
  .have di:d < i:=VU (Y9 c1) (ü c2);have dp:=sub_pos_of_lt di;rw[Zv c2,Zv (YA dp)];by_cases c3:i<=k
   .rw[Zu #[di,c3],Zu (W5 dp (Nat.sub_le_sub_right c3 d)),<-Nat.add_sub_assoc dp,Xa (so di),Zu (W5 (VA (Wg d) di) c3)]
   .rw[Zv (λh=>c3 h.2),Zv (YA (Nat.le_sub_one_of_lt (Nat.sub_lt_sub_right hd (lt_of_not_le c3)))),QO hd,Xa (lt_of_not_le c3)]
theorem N6{Q:Unit->VJ->Prop}(c:k < a.length)(f:d<=k)(h:Q () (sS κ it (a.take d++((a.drop k).take 1++((a.take k).drop d++a.drop (k + 1)))) p g)):wpS (Ü prog w) A E s (moveDown' k d) Q (sS κ it a p g):=by
 apply YD;show Q () (WL κ (bubble (ar it a) k _) p.toArray g none);rw[(by
  delta ar
  rw[AD _ (by simp_all) f]
  simp_all:bubble _ k _=ar it (a.take d++((a.drop k).take 1++((a.take k).drop d++a.drop (k + 1)))))];exact h
theorem nh{Q:Unit->VJ->Prop}(h:Q () σ):wpS (Ü prog w) A E s (liftM (rule x):StateT VJ Sem Unit) Q σ:=wpS_lift (XQ #[rfl,h])
theorem uG(c l:Zh)(i:Nat):(c++l).getD (c.length + i) 0=l.getD i 0:=by rw[Ì,Ì,Vm (VO _ _),Nat.add_sub_cancel_left]
def Tu(d:Nat):Nat->Option Zs × Nat->StateT VJ Sem (ForInStep (Option Zs × Nat)):=λ_ c=>do
 let x <-ltAt' (d + c.snd) (d + c.snd - 1)
 match x with
 |↑e=>if e=true then pure (W2 (none,c.snd)) else pure (yield (none,c.snd + 1))|_=>pure (W2 (↑none,c.snd))
theorem HK(d:Od lt)(O:AA prog w A s κ it n lt)(bd:∀ x∈pre++l,x < n)(e:1<=m)(f:m<=l.length)(u:Up lt (l.take m)){Q:Option Zs × Nat->VJ->Prop}
  (h:∀ k,m<=k->k<=l.length->Up lt (l.take k)->(k=l.length\/lt (l.getD k 0) (l.getD (k - 1) 0))->Q (none,k) (sS κ it (pre++l) p g)):wpS (Ü prog w) A E s (forIn [m:l.length] ((none,m):Option Zs × Nat) (Tu pre.length)) Q (sS κ it (pre++l) p g):=by
 refine V8 (I:=λx c i=>i=sS κ it _ p g/\c=(none,x)/\Up lt (l.take x)) (λx c i j o I=>?_) (λc i I=>?_) #[rfl,rfl,u]
 .let(rfl,rfl,u):=I;have r:=uG pre l;have v:pre.length + x - 1=pre.length + (x - 1):=_I (Í e j) _
  refine Ú (j6 O bd (by rw[Ó];dsimp only;exact _t o _) (by rw[Ó];dsimp only;exact _T (_t o _)) ?_)
  dsimp only;rw[r,v,r];cases q:lt (l.getD x 0) (l.getD (x - 1) 0) with
  |true=>exact æ (h x j (so o) u (.inr q))|false=>exact æ #[rfl,rfl,K4 d (Í e j) o u q]
 .let(rfl,rfl,u):=I;rw[show max m l.length=l.length by omega] at u ⊢
  exact h _ f (Ò _) u (.inl rfl)
end
theorem gW{G c:Prop}(a:G->c)(b:G):c:=a b
section
variable {prog:ð}{w:ú}{A:Vl}{E:Ä->É->Prop}{s:É}{κ:XN}{it:Array Keyed}{n:Nat}{lt:Nat->Nat->Bool}
variable {p:⇑(Nat × Nat × Nat)}{g:Nat}
theorem lF{b i:Nat}(h:i=u.length):(u++b::r).getD i 0=b:=by simp_all
theorem ph(a:i=u.length)(c:j=u.length + v.length){Q:Unit->VJ->Prop}(h:Q () (sS κ it (u++(v.reverse++r)) p g)):wpS (Ü prog w) A E s (reverseSlice' i j) Q (sS κ it (u++(v++r)) p g):=by
 subst a c;apply HJ (VO _ _) ⋯
 grind
theorem K5(a:i=u.length + v.length)(c:j=u.length){Q:Unit->VJ->Prop}(h:Q () (sS κ it (u++(z::(v++r))) p g)):wpS (Ü prog w) A E s (moveDown' i j) Q (sS κ it (u++(v++z::r)) p g):=by
 subst a c;apply N6 ⋯ (VO _ _)
 have f:(u++(v++z::r)).drop (u.length + v.length)=z::r:=⋯
 have k:(u++(v++z::r)).drop (u.length + v.length + 1)=r:=by
  rw[<-drop_drop,f];rfl
 rw[(⋯:(u++(v++z::r)).take u.length=u),(by
  rw[List.take_append,Y1];simp:((u++(v++z::r)).take (u.length + v.length)).drop u.length=v),f,k];exact h
theorem HL{D B:Zh}(d:Dn lt (D++B))(e:∀ y∈B,∀ z∈B,Le lt y z):Dn lt (D++B.reverse):=by
 let(a,c,f):=ê.mp d;refine ê.mpr #[a,List.pairwise_reverse.mpr ?_,λx h y i=>f x h y (Yu.mp i)];exact c.imp_of_mem λj k _=>e _ j _ k
structure DI(lt:Nat->Nat->Bool)(l:⇑Nat)(x q:Nat)(D B R:⇑Nat):Prop where
 perm:(D++(B++R)).Perm l
 lb:B.length=q + 1
 ld:D.length + B.length=x
 dn:Dn lt (D++B)
 eq:∀ y∈B,∀ z∈B,Le lt y z
theorem DI.len{l D B R:Zh}{x q:Nat}(d:DI lt l x q D B R):x + R.length=l.length:=by
 have:=d.perm.length_eq;rw[Ó,Ó] at this;have:=d.ld;omega
theorem DI.rev{l D B R:Zh}{x q:Nat}(d:DI lt l x q D B R):DI lt l x q D B.reverse R where
 perm:=(((List.reverse_perm B).append_right R).append_left D).trans d.perm
 lb:=by rw[Xd];exact d.lb
 ld:=by rw[Xd];exact d.ld
 dn:=HL d.dn d.eq
 eq y hy z hz:=d.eq y (Yu.mp hy) z (Yu.mp hz)
theorem K6(a:Od lt)(O:AA prog w A s κ it n lt)(bd:∀ x∈pre++l,x < n)(f:1<=m){D B R:Zh}(d:DI lt l m 0 D B R){Q:Option Zs × Nat × Nat->VJ->Prop}
  (h:∀ k q D B R,DI lt l k q D B R->Q (none,k,q) (sS κ it (pre++(D++(B++R))) p g)):wpS (Ü prog w) A E s (forIn [m:l.length] ((none,m,0):Option Zs × Nat × Nat) λ_ c=>do
   let x <-ltAt' (pre.length + c.snd.fst) (pre.length + c.snd.fst - 1)
   match x with
   |↑i =>
    if i=true then
     if c.snd.snd > 0 then do
      reverseSlice' (pre.length + c.snd.fst - (c.snd.snd + 1)) (pre.length + c.snd.fst)
      pure (yield (none,c.snd.fst + 1,0))
     else pure (yield (none,c.snd.fst + 1,0))
    else do
     let x <-ltAt' (pre.length + c.snd.fst - 1) (pre.length + c.snd.fst)
     match x with
     |↑j=>if j=true then pure (W2 (none,c.snd.fst,c.snd.snd)) else pure (yield (none,c.snd.fst + 1,c.snd.snd + 1))|_=>pure (W2 (↑none,c.snd.fst,c.snd.snd))
   |_=>pure (W2 (↑none,c.snd.fst,c.snd.snd))) Q (sS κ it (pre++(D++(B++R))) p g):=by
 refine V8 (I:=λx c o=>∃ q D B R,DI lt l x q D B R/\c=(none,x,q)/\o=sS κ it (pre++(D++(B++R))) p g) (λx c o hx hl I=>?_) (λc o I=>?_) #[0,D,B,R,d,rfl,rfl]
 .let(q,D,B,R,d,rfl,rfl):=I;have u:=d.len;have v:=d.lb;have hD:=d.ld
  match R,d,u with
  |[],_,u=>simp_all
  |r::R,d,u =>
  obtain⟨C,b,rfl⟩:∃ C b,B=C++[b]:=#[B.dropLast,B.getLast (by intro e;rw[e] at v;simp at v),(WH _).symm]
  have F :=λz hz=>bd z (by
   rcases Ð.mp hz with k | k
   .exact ä _ k
   .exact Ô _ (d.perm.mem_iff.mp k))
  rw[Ó,XW] at v hD;have G:(pre++(D++(C++[b]++r::R))).length=pre.length + x + 1 + R.length:=by grind
  have H:(pre++(D++(C++[b]++r::R))).getD (pre.length + x) 0=r:=by
   rw[show pre++(D++(C++[b]++r::R))=(pre++D++C++[b])++r::R by simp]
   exact lF (by simp_all)
  have J:(pre++(D++(C++[b]++r::R))).getD (pre.length + x - 1) 0=b:=by
   rw[show pre++(D++(C++[b]++r::R))=(pre++D++C)++b::(r::R) by simp]
   exact lF (by simp;omega)
  have K:b∈C++[b]:=⋯
  have L:∀ y∈D++(C++[b]),Le lt b y:=λy N=>by
   have:=d.dn;rcases Ð.mp N with k | k
   .exact(ê.mp this).2.2 y k b K
   .exact d.eq b K y k
  refine Ú (j6 O F (by dsimp only;exact VA (VO _ _) (_l G)) (by dsimp only;omega) ?_)
  dsimp only;rw[H,J];cases c1:lt r b with
  |true =>
   rw[Zu rfl];have go:∀ P,DI lt l x q D P _->(∀ y∈P,Le lt r y)->(∀ y∈D,Le lt r y)->∃ q' D' U R',DI lt l (x + 1) q' D' U R'/\(((none,x + 1,0):Option Zs × Nat × Nat)=(none,x + 1,q'))/\sS κ it (pre++(D++(P++r::R))) p g=sS κ it (pre++(D'++(U++R'))) p g:=λP X f h2 =>
    #[0,_,[r],R,#[by have:=X.perm;simpa using this,rfl,by rw[Ó];exact congrArg _ X.ld,Dn.snoc X.dn λy N=>by
     rcases Ð.mp N with k | k
     .exact h2 y k
     .exact f y k,λy N z hz=>by rw[Ë.mp N,Ë.mp hz];exact a.refl r],rfl,⋯]
   have Y :=λy N=>a.tr _ _ _ (a.le c1) (L y N);by_cases hq:q > 0
   .rw[Zu hq];rw[show pre++(D++(C++[b]++r::R))=(pre++D)++((C++[b])++r::R) by simp]
    refine Ú (ph (by simp;omega) (by simp;exact _a (_g (_J _ _ _) (congrArg _ hD))) (æ ?_))
    rw[Ø pre];exact go _ d.rev (λy N=>Y y (Ô _ (Yu.mp N))) λy N=>Y y (ä _ N)
   .rw[Zv hq];exact æ (go _ d (λy N=>Y y (Ô _ N)) λy N=>Y y (ä _ N))
  |false =>
   refine Ú (j6 O F ∅ (VA (VO _ _) (_l G)) ?_)
   rw[H,J];cases c2:lt b r with
   |true=>exact æ (h x q D _ _ d)
   |false =>
    refine æ #[_,D,C++[b]++[r],R,#[by have:=d.perm;simpa using this,by simp;exact _y v,by simp;exact _g (Nat.add_zero _) (congrArg _ hD),?_,λy N z hz=>?_],rfl,⋯]
    .rw[<-Ø];exact Dn.snoc d.dn λy N=>a.tr _ _ _ c2 (L y N)
    .have rb :=c2;have br :=c1;have:∀ y∈C++[b]++[r],Le lt y b/\Le lt b y:=λy N=>by
      rcases Ð.mp N with k | k
      .exact#[d.eq y k b K,d.eq b K y k]
      .rw[Ë.mp k];exact#[rb,br]
     exact a.tr _ _ _ (this y N).1 (this z hz).2
 .let(q,D,B,R,d,rfl,rfl):=I;exact h _ _ _ _ _ d
theorem dZ{a b:StateT VJ Sem α}{Q:α->VJ->Prop}(d:c=true->wpS (Ü prog w) A E s a Q σ)(e:c=false->wpS (Ü prog w) A E s b Q σ):wpS (Ü prog w) A E s (if c=true then a else b) Q σ:=by
 cases c with
 |true=>exact d rfl|false=>exact e rfl
theorem pj[Decidable c]{a b:StateT VJ Sem α}{Q:α->VJ->Prop}(d:c->wpS (Ü prog w) A E s a Q σ)(e:¬ c->wpS (Ü prog w) A E s b Q σ):wpS (Ü prog w) A E s (if c then a else b) Q σ:=by
 split
 .exact d (by assumption)
 .exact e (by assumption)
theorem HM(c:Od lt)(O:AA prog w A s κ it n lt)(bd:∀ x∈pre++l,x < n)(h1:1<=l.length){lo z:Nat}(e:lo=pre.length)(hz:z=l.length){Q:Zs->VJ->Prop}
  (h:∀ f m,f.Perm l->1<=m->m<=l.length->Up lt (f.take m)->Q ↑m (sS κ it (pre++f) p g)):wpS (Ü prog w) A E s (countRun' lo z) Q (sS κ it (pre++l) p g):=by
 subst e hz;refine Ú (HK c O bd (Ò 1) h1 (by
  match l,h1 with
  |x::r,_=>exact VV _ _) λk k1 kl o ke=>?_)
 dsimp only;by_cases u:k=l.length
 .subst u;rw[Zu (beq_self_eq_true _)];exact æ (h l _ (.refl _) k1 kl o)
 .rw[Zv (by simp_all)]
  have v:=VU kl u
  have C:=ke.resolve_left u;have el:l=l.take k++([l.getD k 0]++l.drop (k + 1)):=by simp_all
  have e0:(pre++l).getD pre.length 0=l.getD 0 0:=uG pre l 0;have F:(pre++l).getD (pre.length + k - 1) 0=l.getD (k - 1) 0:=by rw[show pre.length + k - 1=pre.length + (k - 1) by exact _I k1 _,uG]
  have c3:k > 1->lt (l.getD 0 0) (l.getD (k - 1) 0)=false->∃ D B R,DI lt l (k + 1) 0 D B R/\(l.take k).reverse++([l.getD k 0]++l.drop (k + 1))=D++(B++R):=λG c1=>by
   have H:∀ i,i < k->(l.take k).getD i 0=l.getD i 0:=λi hi=>by simp[Ì,VL,hi]
   have tl:(l.take k).length=k:=by rw[õ];exact Wd kl
   have I:Le lt (l.getD (k - 1) 0) (l.getD 0 0):=c1;have same:∀ y∈l.take k,Le lt y (l.getD 0 0)/\Le lt (l.getD (k - 1) 0) y:=λy J=>by
    let(i,i1,i2,rfl):=cQ J;have u1:=o.at c (i:=i) (j:=k - 1) (_H i1) (by rw[tl];exact _k k1 (Xs _))
    have u2:=o.at c (i:=0) (j:=i) (Wg _) (by rw[tl];exact i1)
    rw[H i i1,H (k - 1) (_k k1 (Xs _))] at u1
    rw[H i i1,H 0 k1] at u2
    exact#[c.tr _ _ _ u1 I,c.tr _ _ _ I u2]
   have u0:=o.at c (i:=0) (j:=k - 1) (Wg _) (by rw[tl];exact _k k1 (Xs _))
   rw[H 0 k1,H (k - 1) (_k k1 (Xs _))] at u0
   have K:∀ y∈l.take k,∀ z∈l.take k,Le lt y z:=λy J z hz=>c.tr _ _ _ (same y J).1 (c.tr _ _ _ u0 (same z hz).2);refine#[_,_,_,#[?_,rfl,by rw[Xd,tl];rfl,?_,λy J z hz=>by rw[Ë.mp J,Ë.mp hz];exact c.refl _],rfl]
   .refine((List.reverse_perm (l.take k)).append_right _).trans ?_;rw[<-el]
   .refine Dn.snoc (HL (D:=[]) (B:=l.take k) (o.imp_of_mem λL N _=>K _ N _ L) K) λy J=>?_;have J:=Yu.mp J;exact c.tr _ _ _ (c.le C) (same y J).2
  have c4:¬ k > 1->∃ D B R,DI lt l (k + 1) 0 D B R/\l=D++(B++R):=λG=>by
   have F:k=1:=_m (Y9 G) k1
   subst F
   match l,v,C with
   |x::y::R,_,C =>
    refine#[[x],[y],R,#[.refl _,rfl,rfl,?_,λa L b N=>by rw[Ë.mp L,Ë.mp N];exact c.refl y],rfl]
    exact Dn.snoc (VV _ _) λz hz=>by rw[Ë.mp hz];exact c.le C
  apply gW
  case a =>
   intro P;refine pj (λG=>Ú (j6 O bd (by clear P;rw[Ó];exact _K h1) (by clear P;rw[Ó];omega) ?_)) (λG=>?_)
   .dsimp only;rw[e0,F];refine dZ (λc1=>æ (h l k (.refl _) k1 kl o)) λc1=>?_;let(D,B,R,U,X):=c3 G c1;rw[show pre++l=pre++(l.take k++([l.getD k 0]++l.drop (k + 1))) by rw[<-el]]
    refine Ú (ph rfl (by clear P;rw[õ];exact _a (congrArg _ (Wd kl))) ?_)
    rw[X];clear X
    revert U;revert R;revert B;revert D
    exact P
   .let(D,B,R,U,X):=c4 G;rw[show pre++l=pre++(D++(B++R)) by rw[<-X]]
    exact P D B R U
  case b =>
   intro D B R U;refine Ú (nh (Ú (K6 c O bd (_h _ _) U λm q D B R d=>?_)))
   dsimp only;apply gW
   case a =>
    intro P;have hB:=d.lb;have hD:=d.ld;by_cases hq:q > 0
    .rw[Zu hq,<-Ø pre];refine Ú (ph (by clear P;rw[Ó];omega) (by clear P;rw[Ó];exact _a (_g (_J _ _ _) (congrArg _ hD))) ?_)
     rw[Ø pre];have d2:=d.rev;generalize B.reverse=B2 at d2 ⊢
     revert d2;revert B2
     exact P
    .rw[Zv hq];exact P B d
   case b =>
    clear d B;intro B d;have hB:=d.lb;have hD:=d.ld;have hm:=d.len;rw[<-Ø D];refine Ú (ph rfl (by rw[Ó];exact _a (congrArg _ hD)) ?_)
    have Y:((D++B).reverse++R).Perm l:=((List.reverse_perm (D++B)).append_right R).trans (by rw[Ø];exact d.perm)
    have Uu:∀ x∈pre++((D++B).reverse++R),x < n:=λx hx=>bd x (by
     rcases Ð.mp hx with k | k
     .exact ä _ k
     .exact Ô _ (Y.mem_iff.mp k))
    have tk:((D++B).reverse++R).take m=(D++B).reverse:=by
     rw[List.take_append_of_le_length (by simp;omega),Xk (by simp;exact WA (_g (_L _ _) hD))]
    rw[<-Y.length_eq];refine Ú (HK c O Uu ∅ (by rw[Y.length_eq];exact Í (VO _ _) (WA hm)) (by rw[tk];exact Dn.rev d.dn) λj j1 jl ju _=>?_)
    exact æ (h _ j Y ∅ (by rw[<-Y.length_eq];exact jl) ju)
theorem N7(h:¬ i ≥ j):(i + j) / 2 < j:=Nat.div_lt_of_lt_mul (Nat.two_mul j ▸ Nat.add_lt_add_right (lt_of_not_le h) j)
theorem HN(h:¬ i ≥ j):i + (j - i) / 2 < j:=Nat.add_lt_of_lt_sub' (Nat.div_lt_self (sub_pos_of_lt (lt_of_not_le h)) (-0))
theorem QP(h:i<=j):i<=(i + j) / 2:=(Nat.le_div_iff_mul_le (-0)).2 (Nat.mul_two i ▸ XA h i)
theorem MV{m j x s:Nat}(h:m < j)(k:j + x<=s):m + (x + 1)<=s:=Í (WA (Nat.add_right_comm m x 1)) (Í (W6 h x) k)
theorem MW(h:i<=m)(k:j + x<=i + z):j + (x + 1)<=m + 1 + z:=Nat.add_right_comm m z 1 ▸ XC (Í k (W6 h z))
theorem Qe{m j z b n:Nat}(h:m < j)(a:j<=z)(c:b + z<=n):b + m < n:=Ñ (Nat.add_lt_add_left (Ñ h a) b) c
theorem cl{i j z:Nat}(h:j + max 0 z<=i + z):j<=i:=Nat.le_of_add_le_add_right (Nat.max_eq_right (Wg z) ▸ h)
theorem ba(h:i < j)(k:i<=n):n + 1 - min j (n + 1)<=n - i:=Í (Nat.sub_le_sub_left (Nat.le_min.2 #[h,XC k]) _) (WA (Nat.add_sub_add_right n 1 i))
theorem bb{t j n:Nat}(h:t < n + 1 - min j (n + 1)):j<=n:=Y9 λk=>by
 rw[min_eq_right k,sub_self] at h;exact Yq _ h
theorem bc{t j n:Nat}(h:t < n + 1 - min j (n + 1)):t<=n - j:=by
 have k:=bb h;rw[Wd (Nat.le_succ_of_le k),Nat.succ_sub k] at h;exact YQ h
theorem bm{h j z t:Nat}(a:h < z)(c:h + min j (z - h)<=t)(d:t < z):h + j<=t:=by
 rcases Nat.le_total j _ with k | k
 .rwa [Wd k] at c
 .rw[min_eq_right k,Xa (so a)] at c;exact absurd d (YA c)
theorem N8(a:Od lt)(O:AA prog w A s κ it n lt)(bd:∀ x∈pre++l,x < n){lo m k:Nat}(d:lo=pre.length)(h1:1<=k)(hk:k<=m)(hm:m<=l.length)(u:Up lt (l.take k)){Q:Bool->VJ->Prop}
  (h:∀ l',l'.Perm l->Up lt (l'.take m)->Q true (sS κ it (pre++l') p g)):wpS (Ü prog w) A E s (binarySort' lo m k) Q (sS κ it (pre++l) p g):=by
 subst d;rw[binarySort'_eq,Nat.max_eq_left h1];refine Ú (V8 (I:=λx c f=>c=(none,())/\∃ S R,S.length=x/\Up lt S/\(S++R).Perm l/\f=sS κ it (pre++(S++R)) p g) (λx c f hx hl I=>?_) (λc f I=>?_) #[rfl,l.take k,l.drop k,by rw[õ];exact Wd (Í hk hm),u,by rw[è],by rw[è]])
 .let(rfl,S,R,o,r,v,rfl):=I;have B:=v.length_eq;rw[Ó] at B
  match R,v,B with
  |[],_,B=>exact absurd B (by exact Û (Ñ (VA (WA o) hl) hm))
  |z::R,v,B =>
  have F:(pre++(S++z::R)).length=pre.length + x + 1 + R.length:=by simp;omega
  refine Ú (YC (V8 (I:=λy c f=>f=sS κ it (pre++(S++z::R)) p g/\∃ i j,c=(none,(i,j))/\i<=j/\j<=x/\j + y<=i + x/\(∀ t,t < i->Le lt (S.getD t 0) z)/\(∀ t,j<=t->t < x->Le lt z (S.getD t 0)))
   (Q:=λc f=>f=sS κ it (pre++(S++z::R)) p g/\∃ i j,c=(none,(i,j))/\i<=x/\(∀ t,t < i->Le lt (S.getD t 0) z)/\(∀ t,i<=t->t < x->Le lt z (S.getD t 0))) (λy c f _ C I=>?_) (λc f I=>?_) #[rfl,0,x,rfl,Wg _,Ò _,WA (add_comm _ _),λt ht=>absurd ht (Yq t),λt h1 h2=>absurd h2 (YA h1)]) λc f I=>?_)
  .let(rfl,i,j,rfl,G,H,J,K,L):=I;dsimp only;refine pj (λq=>æ #[rfl,i,j,rfl,Í G H,K,λt N P=>L t (Í q N) P]) λq=>?_;have lx:=F ▸ Ñ (Xs _) (VO _ _);have U:=Ñ (N7 q) H;refine Ú (j6 O (λy C=>bd y (by
   rcases Ð.mp C with q | q
   .exact ä _ q
   .exact Ô _ (v.mem_iff.mp q))) lx (Nat.lt_trans (Nat.add_lt_add_left U _) lx) ?_);dsimp only;rw[(by rw[uG];exact lF o.symm:(pre++(S++z::R)).getD (pre.length + x) 0=z),(λi hi=>by
   rw[uG,Ì,Ì,WZ (_c hi (_a o))]:∀ i,i < x->(pre++(S++z::R)).getD (pre.length + i) 0=S.getD i 0) _ U];refine dZ (λc1=>æ #[rfl,i,(i + j) / 2,rfl,QP G,so U,MV (N7 q) J,K,λt N P=>?_]) λc1=>æ #[rfl,(i + j) / 2 + 1,j,rfl,N7 q,H,MW (QP G) J,λt N=>?_,L]
   .exact a.tr _ _ _ (a.le c1) (r.at a N (o ▸ P))
   .exact a.tr _ _ _ (r.at a (YQ N) (o ▸ U)) c1
  .let(rfl,i,j,rfl,G,H,J,K,L):=I;exact#[rfl,i,j,rfl,Í G H,K,λt N P=>L t (Í (cl J) N) P]
  .let(rfl,i,j,rfl,hi,K,L):=I;dsimp only;have e:pre++(S++z::R)=(pre++S.take i)++(S.drop i++z::R):=by
    rw[Ø,<-Ø (S.take i),è]
   rw[e];have X:(S.take i).length=i:=by rw[õ];exact _g (congrArg _ o) (Wd hi)
   refine Ú (K5 (by rw[Ó,X,Vq];omega) (by rw[Ó,X]) (æ #[rfl,S.take i++z::S.drop i,R,?_,?_,?_,⋯]))
   .rw[Ó,ã,X,Vq];omega
   .refine dG (r.sublist (WB i S)) (V5.mpr #[λy C=>?_,r.sublist (XF i S)]) λy C y' Y=>?_
    .let(t,N,P,rfl):=fh C;exact L t N (_c P o)
    .rcases ì.mp Y with rfl | Y
     .let(t,N,P,rfl):=cQ C;exact K t N
     .have:=r;rw[<-è i S] at this;exact(ê.mp this).2.2 y C y' Y
   .refine XU ?_ v;have e2:S++z::R=S.take i++(S.drop i++z::R):=by rw[<-Ø,è]
    rw[e2,Ø];refine YV _ ?_;exact(List.perm_middle (l₁:=S.drop i) (l₂:=R)).symm
 .let(rfl,S,R,o,r,v,rfl):=I;rw[Nat.max_eq_right hk] at o;exact æ (h _ v (by rw[<-o,take_left];exact r))
def K7:Bool->Keyed->Array Keyed->Nat->Nat->Nat->StateT SortSt Sem Zs:=sortPriv% PySem.Builtin.gallop
theorem yH(O:AA prog w A s κ it n lt){left:Bool}(d:y < n)(bd:∀ x∈l,x < n)(e:i < l.length){Q:Zr->VJ->Prop}(h:Q ↑(js lt left y l i) (sS κ it a p g)):wpS (Ü prog w) A E s (do
   let x <-elem' (ar it l) i
   if left=true then lt' x (DO it y) else do
    let b <-lt' (DO it y) x
    pure (b.map (!·))) Q (sS κ it a p g):=by
 refine Ú (dj e ?_)
 delta js at h
 refine dZ (λc=>uF O (bd _ (da e)) d ?_) λc=>Ú (uF O d (bd _ (da e)) (æ ?_))
 .rw[Zu c] at h;exact h
 .rw[Zv (by simp_all)] at h;exact h
theorem lG(od:Od lt)(O:AA prog w A s κ it n lt){left:Bool}(d:y < n)(bd:∀ x∈l,x < n){b z m:Nat}(h1:b + z<=l.length)(o:m < z)(u:Up lt ((l.drop b).take z)){Q:Zs->VJ->Prop}
  (h:∀ k,k<=z->(∀ i,i < k->js lt left y l (b + i))->(∀ i,k<=i->i < z->js lt left y l (b + i)=false)->Q ↑k (sS κ it a p g)):wpS (Ü prog w) A E s (K7 left (DO it y) (ar it l) b z m) Q (sS κ it a p g):=by
 have mono:∀ i j,i<=j->j < z->js lt left y l _=true->js lt left y l _=true:=λi j r v e=>HI od u r v h1 e;have B:∀ i j,i<=j->j < z->js lt left y l _=false->js lt left y l _=false:=λi j r v e=>by
  cases q:js lt left y l _ with
  |false=>rfl|true=>rw[mono i j r v q] at e;cases e
 have C:∀ F G,F<=G->G<=z->(∀ i,i < F->js lt left y l _=true)->(∀ i,G<=i->i < z->js lt left y l _=false)->∀ c,c=(none,(F,G))->∀ {f:Option Zs × Nat × Nat->StateT VJ Sem Zs},(∀ i j,f (none,(i,j))=pure ↑j)->wpS (Ü prog w) A E s (do
   let c <-forIn [0:z] c λ_ c=>if c.snd.fst ≥ c.snd.snd then pure (W2 (none,(c.snd.fst,c.snd.snd))) else do
    let H <-(do
     let x <-elem' _ (b + (c.snd.fst + (c.snd.snd - c.snd.fst) / 2))
     if left=true then lt' x _ else do
      let b <-lt' _ x
      pure (b.map _))
    match H with
    |↑H=>if H=true then pure (yield (none,(c.snd.fst + (c.snd.snd - c.snd.fst) / 2 + 1,c.snd.snd))) else pure (yield (none,(c.snd.fst,c.snd.fst + (c.snd.snd - c.snd.fst) / 2)))|_=>pure (W2 (↑none,(c.snd.fst,c.snd.snd)))
   f c) Q _:=λF G hl hh b1 b2 c hc f hf=>by
  subst hc;refine Ú (YC (V8 (I:=λx c J=>J=sS κ it a p g/\∃ i j,c=(none,(i,j))/\i<=j/\j<=z/\j + x<=i + z/\(∀ t,t < i->js lt left y l (b + t)=true)/\(∀ t,j<=t->t < z->js lt left y l (b + t)=false))
   (Q:=λc J=>J=sS κ it a p g/\∃ i j,c=(none,(i,j))/\j<=z/\(∀ t,t < j->js lt left y l (b + t)=true)/\(∀ t,j<=t->t < z->js lt left y l (b + t)=false)) (λx c J _ hx I=>?_) (λc J I=>?_) #[rfl,F,G,rfl,hl,hh,Í hh (Nat.le_add_left _ _),b1,b2]) λc J I=>?_)
  .let(rfl,i,j,rfl,r,v,hm,K,L):=I;dsimp only;refine pj (λq=>æ #[rfl,i,j,rfl,v,λt N=>K t (Ñ N q),L]) λq=>?_;refine Ú (yH O d bd (Qe (HN q) v h1) ?_);dsimp only;refine dZ (λc1=>æ #[rfl,i + (j - i) / 2 + 1,j,rfl,HN q,v,MW (VO _ _) hm,λt N=>mono t _ (YQ N) (Ñ (HN q) v) c1,L]) λc1=>æ #[rfl,i,i + (j - i) / 2,rfl,VO _ _,Í (so (HN q)) v,MV (HN q) hm,K,λt P U=>B _ t P U c1]
  .let(rfl,i,j,rfl,r,v,hm,K,L):=I;exact#[rfl,i,j,rfl,v,λt N=>K t (Ñ N (cl hm)),L]
  .let(rfl,i,j,rfl,v,K,L):=I;rw[hf];exact æ (h j v K L)
 refine Ú (yH O d bd (Ñ (_t o _) h1) ?_)
 dsimp only;refine dZ (λc=>?_) λc=>?_
 .refine Ú (YC (V8 (I:=λx c J=>J=sS κ it a p g/\∃ i j,c=(none,(i,j))/\i < j/\m + i < z/\x < j/\js lt left y l (b + (m + i))=true)
   (Q:=λc J=>J=sS κ it a p g/\∃ i j,c=(none,(i,j))/\i < j/\m + i < z/\js lt left y l (b + (m + i))=true/\(m + j < z->js lt left y l (b + (m + j))=false)) (λx c J _ hx I=>?_) (λc J I=>?_) #[rfl,0,1,rfl,Xs _,o,Xs _,c]) λc J I=>?_)
  .let(rfl,i,j,rfl,r,G,X,Y):=I;dsimp only;refine pj (λq=>æ #[rfl,i,j,rfl,r,G,Y,λ_=>by omega]) λq=>?_
   refine Ú (yH O d bd ∅ ?_)
   dsimp only;refine dZ (λc1=>æ #[rfl,i,j,rfl,r,G,Y,λ_=>by simpa using c1]) λc1=>æ #[rfl,j,2 * j + 1,rfl,by omega,_x (Nat.lt_of_not_le q),by omega,by simpa using c1]
  .let(rfl,i,j,rfl,r,G,X,Y):=I;exact#[rfl,i,j,rfl,r,G,Y,λ_=>by omega]
  .let(rfl,i,j,rfl,r,G,Y,v):=I;dsimp only;refine C (m + i + 1) (m + min j (z - m)) (Nat.add_lt_add_left (Nat.lt_min.2 #[r,Nat.lt_sub_of_add_lt (add_comm m i ▸ G)]) m) (Í (XA (Nat.min_le_right _ _) _) (WA (Xa (so o)))) (λt N=>mono t _ (YQ N) G Y) (λt P U=>B (m + j) t (bm o P U) U (v (VA (bm o P U) U))) _ rfl λ_ _=>rfl
 .refine Ú (YC (V8 (I:=λx c J=>J=sS κ it a p g/\∃ i j,c=(none,(i,j))/\i < j/\i<=m/\x < j/\js lt left y l (b + (m - i))=false)
   (Q:=λc J=>J=sS κ it a p g/\∃ i j,c=(none,(i,j))/\i < j/\i<=m/\js lt left y l (b + (m - i))=false/\(j<=m->js lt left y l (b + (m - j))=true)) (λx c J _ hx I=>?_) (λc J I=>?_) #[rfl,0,1,rfl,Xs _,Wg _,Xs _,c]) λc J I=>?_)
  .let(rfl,i,j,rfl,r,G,X,Y):=I;dsimp only;refine pj (λq=>æ #[rfl,i,j,rfl,r,G,Y,λ_=>by omega]) λq=>?_
   refine Ú (yH O d bd ∅ ?_)
   dsimp only;refine dZ (λc1=>æ #[rfl,i,j,rfl,r,G,Y,λ_=>c1]) λc1=>æ #[rfl,j,2 * j + 1,rfl,by omega,Y9 q,by omega,c1]
  .let(rfl,i,j,rfl,r,G,X,Y):=I;exact#[rfl,i,j,rfl,r,G,Y,λ_=>by omega]
  .let(rfl,i,j,rfl,r,G,Y,v):=I;dsimp only;refine C (m + 1 - min j (m + 1)) (m - i) (ba r G) (Í (sub_le _ _) (so o)) (λt N=>mono t (m - j) (bc N) (VA (sub_le _ _) o) (v (bb N))) (λt P U=>B (m - i) t P U Y) _ rfl λ_ _=>rfl
end
section
variable {prog:ð}{w:ú}{A:Vl}{E:Ä->É->Prop}{s:É}{κ:XN}{it:Array Keyed}{n:Nat}{lt:Nat->Nat->Bool}
variable {a0:Zh}{p:⇑(Nat × Nat × Nat)}{g:Nat}
theorem DP{a c:Type}{x:StateT VJ Sem a}{f:a->StateT VJ Sem c}{Q:c->VJ->Prop}(h:wpS (Ü prog w) A E s (x >>= f) Q σ):wpS (Ü prog w) A E s (x >>= f) Q σ:=h
theorem DQ[Decidable c]{a b:StateT VJ Sem α}{Q:α->VJ->Prop}(h:wpS (Ü prog w) A E s (if c then a else b) Q σ):wpS (Ü prog w) A E s (if c then a else b) Q σ:=h
theorem tF(l:Zh)(i:Nat):(ar it l).extract i (ar it l).size=ar it (l.drop i):=by rw[qQ,cR,X3]
theorem tG(l:Zh)(i k:Nat):(ar it l).extract i (i + k)=ar it ((l.drop i).take k):=by rw[qQ,List.take_drop]
theorem K8(h:(i == (ar it l).size)):i=l.length:=by rw[cR] at h;exact ZC h
theorem K9(h:(i == (ar it l).size)=false):i≠l.length:=by rw[cR] at h;exact ne_of_beq_false h
theorem drop_one{l:Zh}{i:Nat}(h:i < l.length):(l.drop i).take 1=[l.getD i 0]:=by
 rw[VI h];show [l[i]]=_;simp[h]
theorem gC(a:Od lt){l:Zh}{i:Nat}(u:Up lt (l.drop i))(h:i < l.length)(c:y∈l.drop i):Le lt (l.getD i 0) y:=by
 rw[VI h] at u c;rcases ì.mp c with rfl | c
 .simp[h];exact a.refl _
 .have:=(V5.mp u).1 y c;simpa [h] using this
section
variable {a b o jW:Zh}{i j k:Nat}
theorem MI.xu(m:MI lt jW o (a.drop i) (b.drop j))(c:i < a.length)(h:∀ y∈b.drop j,Le lt (a.getD i 0) y):MI lt jW (o++[a.getD i 0]) (a.drop (i + 1)) (b.drop j):=by
 have:=m.Ay 1 (by rw[drop_one c];intro x d;rw[Ë.mp d];exact h)
 rwa [drop_one c,drop_drop] at this
theorem MI.xv(m:MI lt jW o (a.drop i) (b.drop j))(c:j < b.length)(h:∀ y∈a.drop i,Le lt (b.getD j 0) y):MI lt jW (o++[b.getD j 0]) (a.drop i) (b.drop (j + 1)):=by
 have:=m.Az 1 (by rw[drop_one c];intro x d;rw[Ë.mp d];exact h)
 rwa [drop_one c,drop_drop] at this
end
theorem jd(a:Od lt){left:Bool}:(js lt left y l i->Le lt (l.getD i 0) y)/\(js lt left y l i=false->Le lt y (l.getD i 0)):=by
 delta js
 cases left with
 |true=>exact#[λh=>a.le (h),λh=>by exact h]|false=>exact#[λh=>by delta Le;simpa using h,λh=>a.le (by simpa using h)]
theorem HP(a:Od lt){left:Bool}(hz:i + z=l.length)(c:k<=z)(d:∀ t,t < k->js lt left y l (i + t))(e:∀ t,k<=t->t < z->js lt left y l (i + t)=false):(∀ x∈(l.drop i).take k,Le lt x y)/\∀ x∈l.drop (i + k),Le lt y x:=by
 refine#[λx f=>?_,λx f=>?_]
 .let(t,h,j,rfl):=cQ f;rw[Ì,V6];exact(jd a).1 (d t h)
 .let(t,h,j,rfl):=fh f;have:=(jd a).2 (e _ (_U h) ∅)
  grind
def uH:Array Keyed->Array Keyed->StateT SortSt Sem (Array Keyed):=sortPriv% PySem.Builtin.mergeLo
structure ML(lt:Nat->Nat->Bool)(a b o:⇑Nat)(i j:Nat):Prop where
 mi:MI lt (a++b) o (a.drop i) (b.drop j)
 hi:i + 1 < a.length
 hj:j < b.length
inductive HS (κ:SortKind) (it:Array Keyed) (a0:⇑Nat) (p:⇑(Nat × Nat × Nat)):SortSt->Prop
 |mk (g:Nat):HS κ it a0 p (sS κ it a0 p g)
inductive HQ (κ:SortKind) (it:Array Keyed) (a0:⇑Nat) (p:⇑(Nat × Nat × Nat)) (Q:Array Keyed->SortSt->Prop) {β:Type}:Option (Array Keyed) × β->Prop
 |mk (r:Array Keyed) (x:β) (h:∀ g',Q r (sS κ it a0 p g')):HQ κ it a0 p Q (↑r,x)
inductive LA (lt:Nat->Nat->Bool) (it:Array Keyed) (a b:⇑Nat) (t:Nat):Option (Array Keyed) × Array Keyed × Nat × Nat × Nat->Prop
 |mk (o:⇑Nat) (i j mg:Nat) (m:ML lt a b o i j) (h:t<=i + j):LA lt it a b t (none,ar it o,i,j,mg)
inductive LB (lt:Nat->Nat->Bool) (it:Array Keyed) (a b:⇑Nat) (t:Nat):Option (Array Keyed) × Array Keyed × Nat × Nat × Nat × Nat->Prop
 |mk (o:⇑Nat) (i j ac bc:Nat) (m:ML lt a b o i j) (h:t<=i + j):LB lt it a b t (none,ar it o,i,j,ac,bc)
inductive LC (lt:Nat->Nat->Bool) (it:Array Keyed) (a b:⇑Nat) (t:Nat):Option (Array Keyed) × Array Keyed × Nat × Nat × Nat × Nat × Nat->Prop
 |mk (o:⇑Nat) (i j mg ac bc:Nat) (m:ML lt a b o i j) (h:t<=i + j):LC lt it a b t (none,ar it o,i,j,mg,ac,bc)
theorem sA(h:x<=i + j):x + 1<=i + 1 + j:=Nat.succ_add i j ▸ XC h
theorem UB(h:i<=n)(a:k<=n - i)(c3:i + k≠n):i + k < n:=VU (Nat.add_le_of_le_sub' h a) c3
theorem QQ(h:i<=n):i + (n - i)<=n:=WA (Xa h)
theorem uI(d:Od lt)(O:AA prog w A s κ it n lt){a b:Zh}(bd:∀ x∈a++b,x < n)(ua:Up lt a)(ub:Up lt b)(la:1<=a.length)(lb:1<=b.length)(first:Le lt (b.getD 0 0) (a.getD 0 0))(last:∀ z,a.getLast?=↑z->∀ y∈b,Le lt y z){Q:Array Keyed->VJ->Prop}
  (h:∀ r f,r.Perm (a++b)->Up lt r->Q (ar it r) (sS κ it a0 p f)):wpS (Ü prog w) A E s (uH (ar it a) (ar it b)) Q (sS κ it a0 p g):=by
 have bda:=λx hx=>bd x (ä _ hx);have bdb:=λx hx=>bd x (Ô _ hx);have m0:MI lt _ [] _ _:=#[.refl _,.nil,λx hx=>absurd hx ⋯,ua,ub,last]
 have m1:=m0.xv lb λy hy=>d.tr _ _ _ first (gC d   ua la hy)
 have q:∀ o i j,MI lt _ o (a.drop i) (b.drop j)->(i=a.length\/j=b.length)->∀ f,Q (ar it o++(ar it a).extract i _++(ar it b).extract j _) _:=λo i j m e f=>by
  rw[tF,tF,iy,iy];have:=m.done (e.imp (λe=>by simp_all) λe=>by simp_all)
  exact h _ f this.1 this.2
 have B:∀ o i j,MI lt _ o _ _->i + 1=a.length->∀ f,Q (ar it o++(ar it b).extract j _++(ar it a).extract i _) _:=λo i j m e f=>by
  rw[tF,tF,iy,iy];have:=m.QN (by rw[Vq];exact _q e)
  exact h _ f this.1 this.2
 refine Ú (nh (Ú (dj lb ?_)))
 first | refine DP ?_ | refine DQ ?_ | skip
 try dsimp -zeta only
 refine dZ (λc=>æ (q _ 0 1 m1 (.inr (K8 c)) _)) λc=>?_;refine dZ (λc'=>æ (B _ 0 1 m1 (K8 c') _)) λc'=>?_;have hb:1 < b.length:=by have:=K9 c;exact VU lb this
 have ha:0 + 1 < a.length:=by have:=K9 c';exact VU la this
 refine Ú (wpS_get ?_);refine Ú (YC (V8 (I:=λx c C=>HS κ it a0 p C/\LA lt it a b (x + 1) c) (Q:=λc C=>HS κ it a0 p C/\HQ κ it a0 p Q c) (λx c C _ hx I=>?_) (λc C I=>?_) #[#[_],_,_,_,_,#[m1,ha,hb],Ò _]) λc C I=>?_)
 .obtain⟨⟨g⟩,⟨o,i,j,mg,m,F⟩⟩:=I;refine Ú (YC (V8 (I:=λy c C=>C=sS κ it a0 p g/\LB lt it a b (x + 1 + y) c) (Q:=λc C=>C=sS κ it a0 p g/\(HQ κ it a0 p Q c\/LB lt it a b (x + 2) c)) (λy c C _ hy I=>?_) (λc C I=>?_) #[rfl,_,_,_,_,_,m,F]) λc C I=>?_)
  .obtain⟨rfl,⟨o,i,j,ac,bc,m,F⟩⟩:=I
   first | refine DP ?_ | refine DQ ?_ | skip
   try dsimp -zeta only
   have G:=m.hi;have H:=m.hj;have J:=Nat.lt_of_succ_lt G;refine Ú (dj H (Ú (dj J (Ú (uF O (bdb _ (da H)) (bda _ (da J)) ?_)))))
   first | refine DP ?_ | refine DQ ?_ | skip
   try dsimp -zeta only
   refine dZ (λc1=>?_) λc1=>?_
   .have K:=m.mi.xv H λy hy=>d.tr _ _ _ (d.le c1) (gC d m.mi.upA J hy);refine Ú (dj H ?_);rw[pg];refine dZ (λc2=>æ #[rfl,.inl #[_,_,q _ _ _ K (.inr (K8 c2))]]) λc2=>?_;have c2:=K9 c2;exact pj (λ_=>æ #[rfl,.inr #[_,_,_,_,_,#[K,G,VU H c2],XC (Í (VO _ _) F)]]) λ_=>æ #[rfl,_,_,_,_,_,#[K,G,VU H c2],XC F]
   .have K:=m.mi.xu J λy hy=>d.tr _ _ _ c1 (gC d m.mi.upB H hy);refine Ú (dj J ?_);rw[pg];refine dZ (λc2=>æ #[rfl,.inl #[_,_,B _ _ _ K (K8 c2)]]) λc2=>?_;have c2:=K9 c2;exact pj (λ_=>æ #[rfl,.inr #[_,_,_,_,_,#[K,VU G c2,H],sA (Í (VO _ _) F)]]) λ_=>æ #[rfl,_,_,_,_,_,#[K,VU G c2,H],sA F]
  .obtain⟨rfl,⟨o,i,j,ac,bc,m,F⟩⟩:=I;exact#[rfl,.inr #[o,i,j,ac,bc,m,by rw[cR,cR] at F;omega]]
  .let(rfl,I):=I;rcases I with ⟨r,c,hq⟩ | ⟨o,i,j,ac,bc,m,F⟩
   .exact æ #[#[_],r,_,hq]
   .first | refine DP ?_ | refine DQ ?_ | skip
    try dsimp -zeta only
    refine Ú (nh ?_);refine Ú (YC (V8 (I:=λy c C=>HS κ it a0 p C/\LC lt it a b (x + 2) c) (Q:=λc C=>HS κ it a0 p C/\(HQ κ it a0 p Q c\/LC lt it a b (x + 2) c)) (λy c C _ hy I=>?_) (λc C I=>?_) #[#[_],_,_,_,_,_,_,m,F]) λc C I=>?_)
    .obtain⟨⟨g⟩,⟨o,i,j,mg,ac,bc,m,F⟩⟩:=I
     first | refine DP ?_ | refine DQ ?_ | skip
     try dsimp -zeta only
     apply gW
     case a =>
      intro sh;by_cases hm:mg > 1
      .rw[Zu hm];generalize mg - 1=mg2
       revert mg2
       exact sh
      .rw[Zv hm];exact sh mg
     case b =>
      intro mg;have G:=m.hi;have H:=m.hj;have m:=m.mi;have J:=Nat.lt_of_succ_lt G;refine Ú (YD ?_);refine Ú (dj H (Ú (lG d O (bdb _ (da H)) bda (by rw[cR];exact QQ (so J)) (by rw[cR];exact sub_pos_of_lt J) (m.upA.sublist (WB _ _)) λk hk k1 k2=>?_)))
      rw[cR] at hk k2;let(g1,L):=HP d (Xa (so J)) hk k1 k2;have K:=m.Ay k λu hu v hv=>d.tr _ _ _ (g1 u hu) (gC d m.upB H hv);rw[drop_drop] at K
      first | refine DP ?_ | refine DQ ?_ | skip
      try dsimp -zeta only
      apply gW
      case a =>
       intro sh;by_cases N:k > 0
       .rw[Zu N,tG,iy];refine dZ (λc2=>æ #[#[_],.inl #[_,_,B _ _ _ K (K8 c2)]]) λc2=>?_;refine dZ (λc3=>æ #[#[_],.inl #[_,_,q _ _ _ K (.inl (K8 c3))]]) λc3=>?_;have c2:=K9 c2;have c3:=K9 c3;have G:i + k + 1 < a.length:=VU (UB (so J) hk c3) c2;have P:x + 2<=i + k + j:=Í F (W6 (VO i k) j);have m4:=K;have g4:=L;generalize o++(a.drop i).take k=o2 at m4 ⊢;generalize i + k=i2 at G P m4 g4 ⊢
        revert g4;revert m4;revert P;revert G;revert i2;revert o2
        exact sh
       .rw[Zv N];have N:k=0:=Nat.eq_zero_of_not_pos N;exact sh o i G F m (by rw[N] at L;exact L)
      case b =>
       clear k1 k2 g1 L K hk m G F;intro o i2 G P K L;refine Ú (dj H ?_);rw[pg];have U:=K.xv H L;refine dZ (λc2=>æ #[#[_],.inl #[_,_,q _ _ _ U (.inr (K8 c2))]]) λc2=>?_;have H:j + 1 < b.length:=VU H (K9 c2);have J:=Nat.lt_of_succ_lt G;clear K L c2;generalize o++[b.getD j 0]=o at *
       refine Ú (dj J (Ú (lG d O (bda _ (da J)) bdb (by rw[cR];exact QQ (so H)) (by rw[cR];exact sub_pos_of_lt H) (U.upB.sublist (WB _ _)) λk hk k1 k2=>?_)))
       rw[cR] at hk k2;let(g1,L):=HP d (Xa (so H)) hk k1 k2;have K:=U.Az k λu hu v hv=>d.tr _ _ _ (g1 u hu) (gC d U.upA J hv);rw[drop_drop] at K
       first | refine DP ?_ | refine DQ ?_ | skip
       try dsimp -zeta only
       apply gW
       case a =>
        intro sh;by_cases X:k > 0
        .rw[Zu X,tG,iy];refine dZ (λc3=>æ #[#[_],.inl #[_,_,q _ _ _ K (.inr (K8 c3))]]) λc3=>?_;have H:=UB (so H) hk (K9 c3);have Y:x + 2<=i2 + (j + 1 + k):=Í P (XA (Í (le_succ j) (VO (j + 1) k)) _);have m4:=K;have g4:=L;generalize o++(b.drop (j + 1)).take k=o2 at m4 ⊢;generalize j + 1 + k=j2 at H Y m4 g4 ⊢
         revert g4;revert m4;revert Y;revert H;revert j2;revert o2
         exact sh
        .rw[Zv X];have X:k=0:=Nat.eq_zero_of_not_pos X;exact sh o (j + 1) H (Í P (XA (le_succ j) _)) U (by rw[X] at L;exact L)
       case b =>
        clear k1 k2 g1 L K hk U H;intro o j2 H Y K L;refine Ú (dj J ?_);rw[pg];have U:=K.xu J L;refine dZ (λc2=>æ #[#[_],.inl #[_,_,B _ _ _ U (K8 c2)]]) λc2=>?_;have c2:=K9 c2;exact dZ (λ_=>æ #[#[_],.inr #[_,_,_,_,_,_,#[U,VU G c2,H],Í Y (W6 (le_succ i2) j2)]]) λ_=>æ #[#[_],_,_,_,_,_,_,#[U,VU G c2,H],Í Y (W6 (le_succ i2) j2)]
    .exact#[I.1,.inr I.2]
    .obtain⟨⟨g⟩,I⟩:=I;rcases I with ⟨r,c,hq⟩ | ⟨o,i,j,mg,ac,bc,m,F⟩
     .exact æ #[#[_],r,_,hq]
     .exact Ú (YD (æ #[#[_],_,_,_,_,m,F]))
 .obtain⟨_,⟨o,i,j,mg,m,F⟩⟩:=I;have h1:=m.hi;have h2:=m.hj;rw[cR,cR] at F;exact absurd F ∅
 .obtain⟨⟨g⟩,⟨r,c,hq⟩⟩:=I;exact æ (hq _)
theorem tH(l:Zh)(k:Nat):(ar it l).extract 0 k=ar it (l.take k):=by rw[qQ];rfl
theorem ni{l:Zh}{i:Nat}(a:1<=i)(h:i<=l.length):(l.take i).drop (i - 1)=[l.getD (i - 1) 0]:=by
 obtain⟨j,rfl⟩:∃ j,i=j + 1:=#[i - 1,_a (_M a)]
 rw[jz h,Nat.add_sub_cancel,Y1,Xl (by grind),õ,show j - min j l.length=0 by omega]
 rfl
theorem nj(a:Od lt){l:Zh}{i:Nat}(u:Up lt (l.take i))(c:1<=i)(h:i<=l.length){y:Nat}(d:y∈l.take i):Le lt y (l.getD (i - 1) 0):=by
 obtain⟨j,rfl⟩:∃ j,i=j + 1:=#[i - 1,_a (_M c)]
 rw[jz h] at u d
 rcases Ð.mp d with d | d
 .exact(ê.mp u).2.2 y d _ È
 .rw[Ë.mp d];exact a.refl _
section
variable {a b o jW:Zh}{i j k:Nat}
theorem MH.xu(m:MH lt jW o (a.take i) (b.take j))(c:1<=i)(d:i<=a.length)(h:∀ y∈b.take j,Le lt y (a.getD (i - 1) 0)):MH lt jW (a.getD (i - 1) 0::o) (a.take (i - 1)) (b.take j):=by
 have:=m.Ay _ (by rw[ni c d];intro x e;rw[Ë.mp e];exact h)
 rwa [ni c d,take_take,Wd (sub_le _ _)] at this
theorem MH.xv(m:MH lt jW o (a.take i) (b.take j))(c:1<=j)(d:j<=b.length)(h:∀ x∈a.take i,Le lt x (b.getD (j - 1) 0)):MH lt jW (b.getD (j - 1) 0::o) (a.take i) (b.take (j - 1)):=by
 have:=m.Az _ (by rw[ni c d];intro x e;rw[Ë.mp e];exact h)
 rwa [ni c d,take_take,Wd (sub_le _ _)] at this
end
theorem DR(a:Od lt){left:Bool}(hz:z<=l.length)(c:k<=z)(d:∀ t,t < k->js lt left y l (0 + t))(e:∀ t,k<=t->t < z->js lt left y l (0 + t)=false):(∀ x∈l.take k,Le lt x y)/\∀ x∈(l.take z).drop k,Le lt y x:=by
 refine#[λx f=>?_,λx f=>?_]
 .let(t,h,i,rfl):=cQ f;have:=(jd a).1 (d t h)
  rwa [X6] at this
 .let(t,h,i,rfl):=fh f;rw[õ] at i;have:=(jd a).2 (e t h (Ñ i (_s _ _)))
  rw[X6] at this;rw[Ì,VL,Zu (Ñ i (_s _ _))]
  exact this
theorem pq(o:Zh)(x:Nat):(ar it o.reverse).push (DO it x)=ar it (x::o).reverse:=by rw[pg,reverse_cons]
theorem DS(o l:Zh)(i k:Nat):ar it o.reverse++((ar it l).extract i k).reverse=ar it ((l.take k).drop i++o).reverse:=by rw[qQ,Cr,iy,List.reverse_append]
def uJ:Array Keyed->Array Keyed->StateT SortSt Sem (Array Keyed):=sortPriv% PySem.Builtin.mergeHi
structure MR(lt:Nat->Nat->Bool)(a b o:⇑Nat)(i j:Nat):Prop where
 mi:MH lt (a++b) o (a.take i) (b.take j)
 h1:1<=i
 hi:i<=a.length
 h2:2<=j
 hj:j<=b.length
inductive HA (lt:Nat->Nat->Bool) (it:Array Keyed) (a b:⇑Nat) (t:Nat):Option (Array Keyed) × Nat × Nat × Array Keyed × Nat->Prop
 |mk (o:⇑Nat) (i j mg:Nat) (m:MR lt a b o i j) (h:i + j + t<=a.length + b.length):HA lt it a b t (none,i,j,ar it o.reverse,mg)
inductive HB (lt:Nat->Nat->Bool) (it:Array Keyed) (a b:⇑Nat) (t:Nat):Option (Array Keyed) × Nat × Nat × Array Keyed × Nat × Nat->Prop
 |mk (o:⇑Nat) (i j ac bc:Nat) (m:MR lt a b o i j) (h:i + j + t<=a.length + b.length):HB lt it a b t (none,i,j,ar it o.reverse,ac,bc)
inductive HC (lt:Nat->Nat->Bool) (it:Array Keyed) (a b:⇑Nat) (t:Nat):Option (Array Keyed) × Nat × Nat × Array Keyed × Nat × Nat × Nat->Prop
 |mk (o:⇑Nat) (i j mg ac bc:Nat) (m:MR lt a b o i j) (h:i + j + t<=a.length + b.length):HC lt it a b t (none,i,j,ar it o.reverse,mg,ac,bc)
theorem aZ{i j x y s:Nat}(h:1<=i)(p:i + j + (x + 1 + y)<=s):i - 1 + j + (x + 1 + (y + 1))<=s:=by omega
theorem eF{i j x y s:Nat}(h:1<=i)(p:i + j + (x + 1 + y)<=s):i - 1 + j + (x + 2)<=s:=by omega
theorem B9{i j x y s:Nat}(h:1<=j)(p:i + j + (x + 1 + y)<=s):i + (j - 1) + (x + 1 + (y + 1))<=s:=by
 rw[add_comm i] at p ⊢;exact aZ h p
theorem G4{i j x y s:Nat}(h:1<=j)(p:i + j + (x + 1 + y)<=s):i + (j - 1) + (x + 2)<=s:=by
 rw[add_comm i] at p ⊢;exact eF h p
theorem Tv{i j k x s:Nat}(h:k<=i)(p:i + j + x<=s):k + j + x<=s:=Í (W6 (W6 h j) x) p
theorem UC{e j k x s:Nat}(h:e<=j)(p:k + j + x<=s):k + e + x<=s:=Í (W6 (XA h k) x) p
theorem sle(k:i<=n):i - 1<=n:=Í (sub_le i 1) k
theorem two(h:2<=j)(c:j - 1≠1):2<=j - 1:=VU (Nat.le_sub_of_add_le h) (ü c)
theorem eq2(h:k<=i)(c:¬ i - k > 0):k=i:=Nat.le_antisymm h (Nat.le_of_sub_eq_zero (Nat.eq_zero_of_not_pos c))
theorem uK(d:Od lt)(O:AA prog w A s κ it n lt){a b:Zh}(bd:∀ x∈a++b,x < n)(ua:Up lt a)(ub:Up lt b)(la:1<=a.length)(lb:1<=b.length)(first:Le lt (b.getD 0 0) (a.getD 0 0))(last:∀ z,a.getLast?=↑z->∀ y∈b,Le lt y z){Q:Array Keyed->VJ->Prop}
  (h:∀ r f,r.Perm (a++b)->Up lt r->Q (ar it r) (sS κ it a0 p f)):wpS (Ü prog w) A E s (uJ (ar it a) (ar it b)) Q (sS κ it a0 p g):=by
 have bda:=λx hx=>bd x (ä _ hx);have bdb:=λx hx=>bd x (Ô _ hx);have m0:MH lt (a++b) [] (a.take a.length) (b.take b.length):=by
  rw[X3,X3];refine#[by rw[ó],.nil,λx _ y q=>absurd q ⋯,ua,ub,λz hz x hx=>?_]
  have e:z=b.getD 0 0:=by
   cases b with
   |nil=>cases hz
   |cons y r=>cases hz;rfl
  subst e;exact d.tr _ _ _ first (gC d   ua la hx)
 have m1:=m0.xu la (Ò _) λy q=>by
  rw[X3] at q;refine last _ ?_ y q;rw[List.getLast?_eq_getElem?];simp[show a.length - 1 < a.length by exact _k la (Xs _)]
 have B:∀ o i j,MH lt (a++b) o (a.take i) (b.take j)->(i=0\/j=0)->∀ f,Q ((ar it a).extract 0 i++(ar it b).extract 0 j++(ar it o.reverse).reverse) (sS κ it a0 p f):=λo i j m e f=>by
  rw[tH,tH,Cr,List.reverse_reverse,iy,iy];have:=m.done (e.imp (λe=>by rw[e];rfl) λe=>by rw[e];rfl)
  exact h _ f this.1 this.2
 have C:∀ o i j,MH lt (a++b) o (a.take i) (b.take j)->j=1->∀ f,Q ((ar it b).extract 0 j++(ar it a).extract 0 i++(ar it o.reverse).reverse) (sS κ it a0 p f):=λo i j m e f=>by
  rw[tH,tH,Cr,List.reverse_reverse,iy,iy];have:=m.N5 (by rw[õ];omega)
  exact h _ f this.1 this.2
 refine Ú (nh (Ú (dj (by rw[cR];exact _k la (Xs _)) ?_)))
 first | refine DP ?_ | refine DQ ?_ | skip
 try dsimp -zeta only
 rw[cR,cR];refine dZ (λc=>æ (B [a.getD (a.length - 1) 0] _ _ m1 (.inl (ZC c)) _)) λc=>?_;refine dZ (λc'=>æ (C [a.getD (a.length - 1) 0] _ _ m1 (ZC c') _)) λc'=>?_;have c:=ne_of_beq_false c;have c':=ne_of_beq_false c';refine Ú (wpS_get ?_);refine Ú (YC (V8 (I:=λx c F=>HS κ it a0 p F/\HA lt it a b (x + 1) c) (Q:=λc F=>HS κ it a0 p F/\HQ κ it a0 p Q c) (λx c F _ hx I=>?_) (λc F I=>?_) #[#[_],[a.getD (a.length - 1) 0],_,_,_,#[m1,by omega,_o _ _,by omega,Ò _],by omega]) λc F I=>?_)
 .obtain⟨⟨g⟩,⟨o,i,j,mg,m,G⟩⟩:=I;refine Ú (YC (V8 (I:=λy c F=>F=sS κ it a0 p g/\HB lt it a b (x + 1 + y) c) (Q:=λc F=>F=sS κ it a0 p g/\(HQ κ it a0 p Q c\/HB lt it a b (x + 2) c)) (λy c F _ q I=>?_) (λc F I=>?_) #[rfl,_,_,_,_,_,m,G]) λc F I=>?_)
  .obtain⟨rfl,⟨o,i,j,ac,bc,m,G⟩⟩:=I
   first | refine DP ?_ | refine DQ ?_ | skip
   try dsimp -zeta only
   let(m,H,J,K,L):=m;have k0:=Nat.le_of_succ_le K;have ka:=W5 H J;have kb:=W5 k0 L;refine Ú (dj kb (Ú (dj ka (Ú (uF O (bdb _ (da kb)) (bda _ (da ka)) ?_)))))
   first | refine DP ?_ | refine DQ ?_ | skip
   try dsimp -zeta only
   refine dZ (λc1=>?_) λc1=>?_
   .have N:=m.xu H J λy q=>d.tr _ _ _ (nj d m.upB k0 L q) (d.le c1);refine Ú (dj ka ?_);rw[pq];refine dZ (λc2=>æ #[rfl,.inl #[_,_,B _ _ _ N (.inl (ZC c2))]]) λc2=>?_;have c2:=ne_of_beq_false c2;exact pj (λ_=>æ #[rfl,.inr #[_,_,_,_,_,#[N,Yp c2,sle J,K,L],eF H G]]) λ_=>æ #[rfl,_,_,_,_,_,#[N,Yp c2,sle J,K,L],aZ H G]
   .have N:=m.xv k0 L λy q=>d.tr _ _ _ (nj d m.upA H J q) c1;refine Ú (dj kb ?_);rw[pq];refine dZ (λc2=>æ #[rfl,.inl #[_,_,C _ _ _ N (ZC c2)]]) λc2=>?_;have c2:=ne_of_beq_false c2;exact pj (λ_=>æ #[rfl,.inr #[_,_,_,_,_,#[N,H,J,two K c2,sle L],G4 k0 G]]) λ_=>æ #[rfl,_,_,_,_,_,#[N,H,J,two K c2,sle L],B9 k0 G]
  .obtain⟨rfl,⟨o,i,j,ac,bc,m,G⟩⟩:=I;exact#[rfl,.inr #[o,i,j,ac,bc,m,by omega]]
  .let(rfl,I):=I;rcases I with ⟨r,c,hq⟩ | ⟨o,i,j,ac,bc,m,G⟩
   .exact æ #[#[_],r,_,hq]
   .first | refine DP ?_ | refine DQ ?_ | skip
    try dsimp -zeta only
    refine Ú (nh ?_);refine Ú (YC (V8 (I:=λy c F=>HS κ it a0 p F/\HC lt it a b (x + 2) c) (Q:=λc F=>HS κ it a0 p F/\(HQ κ it a0 p Q c\/HC lt it a b (x + 2) c)) (λy c F _ q I=>?_) (λc F I=>?_) #[#[_],_,_,_,_,_,_,m,G]) λc F I=>?_)
    .obtain⟨⟨g⟩,⟨o,i,j,mg,ac,bc,m,G⟩⟩:=I
     first | refine DP ?_ | refine DQ ?_ | skip
     try dsimp -zeta only
     apply gW
     case a =>
      intro sh;by_cases hm:mg > 1
      .rw[Zu hm];generalize mg - 1=mg2
       revert mg2
       exact sh
      .rw[Zv hm];exact sh mg
     case b =>
      intro mg;let(m,H,J,K,L):=m;refine Ú (YD ?_);have k0:=Nat.le_of_succ_le K;have kb:=W5 k0 L;refine Ú (dj kb (Ú (lG d O (bdb _ (da kb)) bda (Í (WA (X6 i)) J) (W5 H (Ò i)) m.upA λk hk k1 k2=>?_)));let(P,g2):=DR d J hk k1 k2;have N:=m.Ay k λu hu v hv=>d.tr _ _ _ (nj d m.upB k0 L hv) (g2 u hu);rw[take_take,Wd hk] at N
      first | refine DP ?_ | refine DQ ?_ | skip
      try dsimp -zeta only
      apply gW
      case a =>
       intro sh;by_cases hk0:i - k > 0
       .rw[Zu hk0,DS];refine dZ (λc2=>æ #[#[_],.inl #[_,_,B _ _ _ N (.inl (ZC c2))]]) λc2=>?_;have H:1<=k:=Yp (ne_of_beq_false c2);have G:=Tv hk G;have J:=Í hk J;have m4:=N;have g4:=P;generalize (a.take i).drop k++o=o2 at m4 ⊢;generalize i - k=ac;generalize k=k2 at H G J m4 g4 ⊢
        revert g4;revert m4;revert J;revert G;revert H;revert k2;revert ac;revert o2
        exact sh
       .rw[Zv hk0];have e:k=i:=eq2 hk hk0;rw[e] at P;exact sh o (i - k) i H G J m P
      case b =>
       clear k1 k2 P g2 N hk m H G J;intro o ac k H G J N P;refine Ú (dj kb ?_);rw[pq];have U:=N.xv k0 L P;refine dZ (λc2=>æ #[#[_],.inl #[_,_,C _ _ _ U (ZC c2)]]) λc2=>?_;have K:=two K (ne_of_beq_false c2);have hj':=sle L;have ki:=W5 H J;clear N P c2;generalize b.getD (j - 1) 0::o=o at *
       refine Ú (dj ki (Ú (lG d O (bda _ (da ki)) bdb (Í (WA (X6 _)) hj') (W5 (Nat.le_of_succ_le K) (Ò _)) U.upB λe he k1 k2=>?_)));let(P,g2):=DR d hj' he k1 k2;have N:=U.Az e λu hu v hv=>d.tr _ _ _ (nj d U.upA H J hv) (g2 u hu);rw[take_take,Wd he] at N
       first | refine DP ?_ | refine DQ ?_ | skip
       try dsimp -zeta only
       apply gW
       case a =>
        intro sh;by_cases hk1:j - 1 - e > 0
        .rw[Zu hk1,DS];refine dZ (λc3=>æ #[#[_],.inl #[_,_,C _ _ _ N (ZC c3)]]) λc3=>?_;refine dZ (λc4=>æ #[#[_],.inl #[_,_,B _ _ _ N (.inr (ZC c4))]]) λc4=>?_;have K:2<=e:=VU (Yp (ne_of_beq_false c4)) (ü (ne_of_beq_false c3));have X:=UC (Í he (sub_le _ _)) G;have Y:=Í he hj';have m4:=N;have g4:=P;generalize (b.take (j - 1)).drop e++o=o2 at m4 ⊢;generalize j - 1 - e=bc;generalize e=e2 at K X Y m4 g4 ⊢
         revert g4;revert m4;revert Y;revert X;revert K;revert e2;revert bc;revert o2
         exact sh
        .rw[Zv hk1];have e1:e=j - 1:=eq2 he hk1;rw[e1] at P;exact sh o (j - 1 - e) (j - 1) K (UC (sub_le _ _) G) hj' U P
       case b =>
        clear k1 k2 P g2 N he U;intro o bc e K X Y N P;refine Ú (dj ki ?_);rw[pq];have U:=N.xu H J P;refine dZ (λc2=>æ #[#[_],.inl #[_,_,B _ _ _ U (.inl (ZC c2))]]) λc2=>?_;have c2:=ne_of_beq_false c2;exact dZ (λ_=>æ #[#[_],.inr #[_,_,_,_,_,_,#[U,Yp c2,sle J,K,Y],Tv (sub_le _ _) X]]) λ_=>æ #[#[_],_,_,_,_,_,_,#[U,Yp c2,sle J,K,Y],Tv (sub_le _ _) X]
    .exact#[I.1,.inr I.2]
    .obtain⟨⟨g⟩,I⟩:=I;rcases I with ⟨r,c,hq⟩ | ⟨o,i,j,mg,ac,bc,m,G⟩
     .exact æ #[#[_],r,_,hq]
     .exact Ú (YD (æ #[#[_],_,_,_,_,m,G]))
 .obtain⟨_,⟨o,i,j,mg,m,G⟩⟩:=I;exact absurd G (_N (_O _ (_b (Nat.le_max_right _ _))))
 .obtain⟨⟨g⟩,⟨r,c,hq⟩⟩:=I;exact æ (hq _)
end
section
variable {prog:ð}{w:ú}{A:Vl}{E:Ä->É->Prop}{s:É}{κ:XN}{it:Array Keyed}{n:Nat}{lt:Nat->Nat->Bool}
theorem DT{Q:PUnit->VJ->Prop}(h:Q ⟨⟩ x):wpS (Ü prog w) A E s (set x:StateT VJ Sem PUnit) Q σ:=by
 exact Æ #[rfl,h]
theorem tJ{c:Type}:∀ (l:⇑c) (d j:Nat) (P M R:⇑c),d + j=P.length->M.length=l.length->(l.zipIdx j).foldl (λa x=>Array.setIfInBounds a (d + x.2) x.1) (P++(M++R)).toArray=(P++(l++R)).toArray
 |[],_,_,P,M,R,_,f=>by simp_all|x::l,d,j,P,[],R,_,f=>by simp at f
 |x::l,d,j,P,m::M,R,g,f=>by
  show(l.zipIdx _).foldl _ ((P++(m::(M++R))).toArray.setIfInBounds _ x)=_;rw[(by simp_all:(P++(m::(M++R))).toArray.setIfInBounds _ x=((P++[x])++(M++R)).toArray),tJ l d _ _ M R (by grind) (by simpa using f)]
  simp
theorem tK(a:Od lt){left:Bool}{y b z k:Nat}{l:Zh}(hz:b + z<=l.length)(c:∀ t,t < k->js lt left y l (b + t))(d:∀ t,k<=t->t < z->js lt left y l (b + t)=false):(∀ x∈((l.drop b).take z).take k,Le lt x y)/\∀ x∈((l.drop b).take z).drop k,Le lt y x:=by
 have e:∀ t,t < z->((l.drop b).take z).getD t 0=l.getD _ 0:=λt f=>by
  rw[Ì,VL,Zu f,V6,<-Ì]
 have len:((l.drop b).take z).length=z:=by grind
 refine#[λx g=>?_,λx g=>?_]
 .let(t,h,i,rfl):=cQ g;rw[e t (_c i len)]
  exact(jd a).1 (c t h)
 .let(t,h,i,rfl):=fh g;rw[e t (_c i len)]
  exact(jd a).2 (d t h (_c i len))
theorem DU{z:Nat}(h:X.getLast?=↑z):∃ a,X=a++[z]:=by
 have c:X≠[]:=by intro e;rw[e] at h;cases h
 rw[List.getLast?_eq_some_getLast c] at h;cases h;exact#[X.dropLast,(WH _).symm]
theorem uL(d:Od lt)(O:AA prog w A s κ it n lt)(bd:∀ x∈pre++(X++(Y++post)),x < n)(f:Up lt X)(j:Up lt Y)(lX:1<=X.length)(lY:1<=Y.length){o p2:⇑(Nat × Nat × Nat)}(hi:i=o.length){Q:Bool->VJ->Prop}
  (h:∀ Z p,Z.Perm (X++Y)->Up lt Z->Q true (sS κ it (pre++(Z++post)) (o++(pre.length,X.length + Y.length,v)::p2) p)):wpS (Ü prog w) A E s (mergeAt' i) Q (sS κ it (pre++(X++(Y++post))) (o++(pre.length,X.length,v)::(pre.length + X.length,Y.length,B)::p2) g):=by
 subst hi;have lenA:(pre++(X++(Y++post))).length=pre.length + X.length + Y.length + post.length:=by grind
 have dX:((pre++(X++(Y++post))).drop pre.length).take X.length=X:=⋯
 have dY:((pre++(X++(Y++post))).drop (pre.length + X.length)).take Y.length=Y:=⋯
 have y0:(pre++(X++(Y++post))).getD (pre.length + X.length) 0=Y.getD 0 0:=by grind
 obtain⟨C,z,eX⟩:∃ C z,X=C++[z]:=#[X.dropLast,X.getLast (by intro e;rw[e] at lX;simp at lX),(WH _).symm]
 have lX':X.length=C.length + 1:=by simp_all
 have xz:(pre++(X++(Y++post))).getD (pre.length + C.length) 0=z:=by
  rw[eX,show pre++(C++[z]++(Y++post))=(pre++C)++z::(Y++post) by simp]
  exact lF ⋯
 have F:∀ x∈X,Le lt x z:=λx G=>by
  rw[eX] at f G;rcases Ð.mp G with k | k
  .exact(ê.mp f).2.2 x k z È
  .rw[Ë.mp k];exact d.refl z
 have H:∀ y∈Y,Le lt (Y.getD 0 0) y:=λy I=>gC d (l:=Y) (i:=0) j lY I
 have e1:(o++(pre.length,X.length,v)::(pre.length + X.length,Y.length,B)::p2).toArray[o.length]?=↑(pre.length,X.length,v):=⋯
 have e2:(o++(pre.length,X.length,v)::(pre.length + X.length,Y.length,B)::p2).toArray[o.length + 1]?=↑(pre.length + X.length,Y.length,B):=⋯
 have e3:((o++(pre.length,X.length,v)::(pre.length + X.length,Y.length,B)::p2).toArray.setIfInBounds o.length (pre.length,X.length + Y.length,v)).eraseIdxIfInBounds (o.length + 1)=(o++(pre.length,X.length + Y.length,v)::p2).toArray:=by
  rw[List.setIfInBounds_toArray,List.set_append_right _ _ (Ò _),sub_self];apply Ym.mp;simp[List.eraseIdx_append_of_length_le]
 refine Ú (wpS_get ?_);generalize g1:(XJ (sS κ it (pre++(X++(Y++post))) (o++(pre.length,X.length,v)::(pre.length + X.length,Y.length,B)::p2) g))[o.length]?=o1;generalize g2:(XJ (sS κ it (pre++(X++(Y++post))) (o++(pre.length,X.length,v)::(pre.length + X.length,Y.length,B)::p2) g))[o.length + 1]?=o2;cases e1.symm.trans g1;cases e2.symm.trans g2;refine Ú (DT ?_);generalize J:(pre++(X++(Y++post)))=a at *
 show wpS _ _ _ _ _ _ (WL κ (ar it a) (((o++(pre.length,X.length,v)::(pre.length + X.length,Y.length,B)::p2).toArray.setIfInBounds o.length (pre.length,X.length + Y.length,v)).eraseIdxIfInBounds (o.length + 1)) g none);rw[e3];show wpS _ _ _ _ _ _ (sS κ it a (o++(pre.length,X.length + Y.length,v)::p2) g);clear e1 e2 e3 g1 g2;have K:Up lt (X++Y)->Q true (sS κ it a (o++(pre.length,X.length + Y.length,v)::p2) g):=λu=>by
  have:=h (X++Y) g (.refl _) u
  rwa [Ø,J] at this
 refine Ú (dj (l:=a) ∅ (Ú (lG d O (bd _ (da ∅)) bd ∅ lX (by rw[dX];exact f) λk hk k1 k2=>?_)))
 rw[y0] at k1 k2;let(j1,j2):=tK d ∅ k1 k2
 rw[dX] at j1 j2;dsimp only;refine dZ (λc=>æ (K ?_)) λc=>?_
 .have c:=ZC c;rw[Xk ∅] at j1
  exact dG f j λx G y I=>d.tr _ _ _ (j1 x G) (H y I)
 have c:=ne_of_beq_false c;rw[show pre.length + k + (X.length - k) - 1=pre.length + C.length by omega]
 refine Ú (dj (l:=a) ∅ (Ú (lG d O (bd _ (da ∅)) bd ∅ (_k lY (Xs _)) (by rw[dY];exact j) λm hm m1 m2=>?_)))
 rw[xz] at m1 m2;let(i1,i2):=tK d ∅ m1 m2
 rw[dY] at i1 i2;dsimp only;refine dZ (λL=>æ (K ?_)) λL=>?_
 .have L:=ZC L;subst L;exact dG f j λx G y I=>d.tr _ _ _ (F x G) (i2 y I)
 have L:=ne_of_beq_false L;have x1:(ar it a).extract (pre.length + k) (pre.length + X.length)=ar it (X.drop k):=by
  rw[qQ,<-J,<-Ø,<-Ó,take_left,Y1,Xl (VO _ _),Yr]
  congr 2;exact Nat.add_sub_cancel_left _ _
 have x2:(ar it a).extract (pre.length + X.length) (pre.length + X.length + m)=ar it (Y.take m):=by
  rw[tG,<-J,<-Ø,<-Ó,drop_left,List.take_append_of_le_length hm]
 have N:∀ x∈X.drop k++Y.take m,x < n:=λx G=>bd x (by
  rw[<-J];refine Ô _ ?_;rcases Ð.mp G with q | q
  .exact ä _ (Wl q)
  .exact Ô _ (ä _ (V1 q)))
 have P:Le lt ((Y.take m).getD 0 0) ((X.drop k).getD 0 0):=by
  have e:(Y.take m).getD 0 0=Y.getD 0 0:=by rw[Ì,VL,Zu ∅,<-Ì]
  rw[e];exact j2 _ (da (by rw[Vq];omega))
 have lst:∀ u,(X.drop k).getLast?=↑u->∀ y∈Y.take m,Le lt y u:=λu hu y I=>by
  have:u=z:=by
   let(W,hW):=DU hu;have e:X=(X.take k++W)++[u]:=by rw[Ø,<-hW,è]
   have:=(congrArg getLast? e).symm.trans (congrArg getLast? eX);simpa using this
  subst this;exact i1 y I
 have fin:∀ r p,r.Perm (X.drop k++Y.take m)->Up lt r->wpS (Ü prog w) A E s (do
   modify λs=>WL (kindOf s) ((ar it r).toList.zipIdx.foldl (λa x=>a.setIfInBounds (pre.length + k + x.2) x.1) (arrOf s)) (XJ s) (gallopOf s) (failedOf s)
   let b <-get
   pure (failedOf b).isNone) Q (sS κ it a (o++(pre.length,X.length + Y.length,v)::p2) p):=λr p U ur=>by
  refine Ú (YD (Ú (wpS_get (æ ?_))));have e:(ar it r).toList.zipIdx.foldl (λa x=>a.setIfInBounds (pre.length + k + x.2) x.1) (ar it a)=ar it (pre++((X.take k++(r++Y.drop m))++post)):=by
   have e1:a=(pre++X.take k)++((X.drop k++Y.take m)++(Y.drop m++post)):=by
    rw[<-J]
    calc pre++(X++(Y++post))=pre++((X.take k++X.drop k)++((Y.take m++Y.drop m)++post)):=by rw[è,è]
     _=_:=by simp only[Ø]
   rw[e1]
   delta ar
   rw[gV,gV (l₁:=X.drop k++Y.take m)];have:=tJ (r.map (Xo it)) (pre.length + k) 0 ((pre++X.take k).map (Xo it)) ((X.drop k++Y.take m).map (Xo it)) ((Y.drop m++post).map (Xo it)) (by rw[Ã,Ó,õ];exact _a (congrArg _ (Wd hk))) (by rw[Ã,Ã,U.length_eq])
   refine this.trans ?_;rw[<-gV,<-gV];simp only[Ø]
  show Q true (WL κ ((ar it r).toList.zipIdx.foldl (λa x=>a.setIfInBounds (pre.length + k + x.2) x.1) (ar it a)) _ p none);rw[e];refine h _ p ?_ ?_
  .have e2:X++Y=X.take k++((X.drop k++Y.take m)++Y.drop m):=by
    rw[Ø,è,<-Ø,è]
   rw[e2];exact(U.append_right _).append_left _
  .have a1:∀ x∈X.take k,∀ y∈r,Le lt x y:=λx G y I=>by
    rcases Ð.mp (U.mem_iff.mp I) with q | q
    .have:=f;rw[<-è k X] at this;exact(ê.mp this).2.2 x G y q
    .exact d.tr _ _ _ (j1 x G) (H y (V1 q))
   have a2:∀ x∈r,∀ y∈Y.drop m,Le lt x y:=λx G y I=>by
    rcases Ð.mp (U.mem_iff.mp G) with q | q
    .exact d.tr _ _ _ (F x (Wl q)) (i2 y I)
    .have:=j;rw[<-è m Y] at this;exact(ê.mp this).2.2 x q y I
   refine dG (f.sublist (WB _ _)) (dG ur (j.sublist (XF _ _)) a2) λx G y I=>?_;rcases Ð.mp I with q | q
   .exact a1 x G y q
   .exact d.tr _ _ _ (F x (V1 G)) (i2 y q)
 have uA:=f.sublist (XF k X);have uB:=j.sublist (WB m Y);have l1:1<=(X.drop k).length:=by rw[Vq];omega
 have l2:1<=(Y.take m).length:=by rw[õ];omega
 refine pj (λ_=>Ú ?_) λ_=>Ú ?_
 .show wpS _ _ _ _ (uH ((ar it a).extract (pre.length + k) (pre.length + X.length)) ((ar it a).extract (pre.length + X.length) (pre.length + X.length + m))) _ _;rw[x1,x2];exact uI d O N uA uB l1 l2 P lst λr p U ur=>fin r p U ur
 .show wpS _ _ _ _ (uJ ((ar it a).extract (pre.length + k) (pre.length + X.length)) ((ar it a).extract (pre.length + X.length) (pre.length + X.length + m))) _ _;rw[x1,x2];exact uK d O N uA uB l1 l2 P lst λr p U ur=>fin r p U ur
end
section
variable {lt:Nat->Nat->Bool}
def fl(L:⇑(Zh × Nat)):Zh:=(L.map (·.1)).flatten
def pd:Nat->⇑(Zh × Nat)->⇑(Nat × Nat × Nat)
 |_,[]=>[]|a,(X,v)::r=>(a,X.length,v)::pd (a + X.length) r
def Gd(lt:Nat->Nat->Bool)(L:⇑(Zh × Nat)):Prop:=∀ x∈L,1<=x.1.length/\Up lt x.1
theorem fA(L M:⇑(Zh × Nat)):fl (L++M)=fl L++fl M:=by simp[fl]
theorem cZ(X:Zh)(v:Nat)(L:⇑(Zh × Nat)):fl ((X,v)::L)=X++fl L:=rfl
theorem lH:∀ (L M:⇑(Zh × Nat)) (a:Nat),pd a (L++M)=pd a L++pd (a + (fl L).length) M
 |[],_,_=>rfl
 |(X,v)::L,M,a=>by
  show(a,X.length,v)::pd _ (L++M)=(a,X.length,v)::(pd _ L++pd _ M);rw[lH L M,cZ,Ó,add_assoc]
theorem uM:∀ (L:⇑(Zh × Nat)) (a:Nat),(pd a L).length=L.length
 |[],_=>rfl|(_,_)::L,_=>congrArg _ (uM L _)
theorem Gd.len:∀ {L:⇑(Zh × Nat)},Gd lt L->L.length<=(fl L).length
 |[],_=>Ò _
 |(X,v)::L,g=>by
  have:=Gd.len  λx a=>g x (Î _ a);have:=(g _ È).1;rw[cZ,Ó,ã]
  grind
theorem HR{L:⇑(Zh × Nat)}{i:Nat}(h:i + 1 < L.length):∃ a x y L2,L=a++x::y::L2/\a.length=i :=
 #[_,L[i],L[i + 1],_,by rw[<-VI,<-VI,è],by grind]
end
section
variable {prog:ð}{w:ú}{A:Vl}{E:Ä->É->Prop}{s:É}{κ:XN}{it:Array Keyed}{n:Nat}{lt:Nat->Nat->Bool}
theorem xw(a:Od lt)(O:AA prog w A s κ it n lt){R:Zh}(bd:∀ x∈fl L++R,x < n)(c:Gd lt L)(d:i + 1 < L.length){Q:Bool->VJ->Prop}
  (h:∀ e f,e.length + 1=L.length->Gd lt e->(fl e).Perm (fl L)->Q true (sS κ it (fl e++R) (pd 0 e) f)):wpS (Ü prog w) A E s (mergeAt' i) Q (sS κ it (fl L++R) (pd 0 L) g):=by
 obtain⟨j,⟨X,v⟩,⟨Y,u⟩,L2,rfl,rfl⟩:=HR d;have l:=c (X,v) ⋯
 have m:=c (Y,u) ⋯
 rw[(by rw[fA,cZ,cZ];simp_all:fl _++R=fl j++(X++(Y++(fl L2++R))))] at bd ⊢;rw[(by rw[lH,X6];rfl:pd 0 _=pd 0 j++((fl j).length,X.length,v)::((fl j).length + X.length,Y.length,u)::pd _ L2)];refine uL a O bd l.2 m.2 l.1 m.1 (uM _ _).symm λZ f q r=>?_;have:=h (j++(Z,v)::L2) f (by grind) (λx y=>?_) ?_
 .rw[fA,cZ,lH] at this;have z:pd (fl j).length ((Z,v)::L2)=((fl j).length,X.length + Y.length,v)::pd ((fl j).length + X.length + Y.length) L2:=by
   show(_,Z.length,v)::pd _ L2=_;rw[q.length_eq,Ó,add_assoc]
  simp_all
 .rcases Ð.mp y with k | k
  .exact c x (ä _ k)
  .rcases ì.mp k with rfl | k
   .exact#[by have:=l.1;dsimp only at this ⊢;rw[q.length_eq,Ó];exact Í l.1 (VO _ _),r]
   .exact c x (by simp[k])
 .rw[fA,fA,cZ,cZ,cZ,<-Ø X];exact(q.append_right _).append_left _
theorem N9[Decidable c]{a b k:Nat}(d:a < k)(e:b < k):(if c then a else b) < k:=by split <;> assumption
theorem Oa{b:Bool}(a:b){Q:α->VJ->Prop}(h:wpS (Ü prog w) A E s y Q σ):wpS (Ü prog w) A E s (if (!b)=true then x else y) Q σ:=by
 subst a;exact h
theorem QR(h:1 < k):k - 2 < k - 1:=Nat.sub_lt_sub_left h (-0)
theorem DV(od:Od lt)(O:AA prog w A s κ it n lt){Q:Unit->VJ->Prop}
  (h:∀ r p' d,r.Perm (ø n)->Up lt r->Q () (sS κ it r p' d)):wpS (Ü prog w) A E s sortRuns' Q (sS κ it (ø n) [] 7):=by
 rw[sortRuns'_eq];refine Ú (wpS_get ?_);dsimp only;rw[(by show(ar it _).size=n;rw[cR,Vu]:(arrOf _).size=n)];generalize hmr:minRun' n n 0=mr;have Qe:∀ {l:Zh},l.Perm (ø n)->∀ x∈l,x < n:=λhp x f=>by simpa using hp.mem_iff.mp f
 refine Ú (YC (V8 (I:=λx c j=>∃ L R g,c=(none,(fl L).length)/\j=sS κ it (fl L++R) (pd 0 L) g/\Gd lt L/\(fl L++R).Perm (ø n)/\x<=(fl L).length)
  (Q:=λc j=>∃ L g,c=(none,(fl L).length)/\j=sS κ it (fl L) (pd 0 L) g/\Gd lt L/\(fl L).Perm (ø n)) (λx c j _ f I=>?_) (λc j I=>?_) #[[],ø n,7,rfl,rfl,λx f=>absurd f ⋯,.refl _,Ò _]) λc j I=>?_)
 .let(L,R,g,rfl,rfl,p,u,hp):=I;have z:=by have:=u.length_eq;rwa [Ó,Vu] at this
  refine pj (λc=>æ #[L,g,rfl,?_,p,?_]) λc=>?_
  .have:=Wx (_g (_a (_q z)) (_z c))
   subst this;rw[ó]
  .have:=Wx (_g (_a (_q z)) (_z c))
   subst this;rwa [ó] at u
  refine Ú (HM od O (Qe u) ∅ rfl (_q z) λB m pR C F mu=>?_)
  have u:(fl L++B).Perm (ø n):=(pR.append_left _).trans u;have z:(fl L).length + B.length=n:=by rw[pR.length_eq];exact z
  rw[<-pR.length_eq] at F;clear pR;dsimp only;apply gW
  case a =>
   intro sh;by_cases hm:m < mr
   .rw[Zu hm];have nf:n - (fl L).length=B.length:=by rw[<-z,Nat.add_sub_cancel_left]
    refine Ú (nh (Ú (N8 od O (Qe u) rfl C (Nat.le_min.2 #[nf.symm ▸ F,so hm]) (by rw[nf];exact Nat.min_le_left _ _) mu λR2 p2 u2=>Oa rfl ?_)))
    have pm4:(fl L++R2).Perm (ø n):=(p2.append_left _).trans u;have G:(fl L).length + R2.length=n:=by rw[p2.length_eq];exact z
    have m3:1<=min (n - (fl L).length) mr:=Nat.le_min.2 #[nf.symm ▸ Í C F,Í C (so hm)];have m4:min (n - (fl L).length) mr<=R2.length:=by rw[p2.length_eq,<-nf];exact Nat.min_le_left _ _
    clear p2;generalize min (n - (fl L).length) mr=m5 at m3 m4 u2 ⊢
    revert u2;revert m4;revert m3;revert G;revert pm4;revert m5;revert R2
    exact sh
   .rw[Zv hm];exact sh B m u z C F mu
  case b =>
   clear mu F C z u;intro B m u z C F mu;refine Ú (wpS_get ?_);have H:∀ L2 J,Gd lt L2->(fl L2).Perm (fl L)->wpS (Ü prog w) A E s (do
     modify λs=>setPending s ((XJ s).push ((fl L).length,m,0))
     pure (yield ((none,(fl L).length + m):Option Unit × Nat))) (λr st'=>match r with
     |.done c'=>∃ L g,c'=(none,(fl L).length)/\st'=sS κ it (fl L) (pd 0 L) g/\Gd lt L/\(fl L).Perm (ø n)
     |.yield c'=>∃ L R g,c'=(none,(fl L).length)/\st'=sS κ it (fl L++R) (pd 0 L) g/\Gd lt L/\(fl L++R).Perm (ø n)/\x + 1<=(fl L).length) (sS κ it (fl L2++B) (pd 0 L2) J):=λL2 J K p2=>by
    have e2:=p2.length_eq;have tl:(B.take m).length=m:=by rw[õ];exact Wd F
    refine Ú (YD (æ #[L2++[(B.take m,0)],B.drop m,J,?_,?_,λy hy=>?_,?_,?_]))
    .rw[fA,Ó,e2];show _=(none,_ + (B.take m++[]).length);rw[ó,tl]
    .show WL κ (ar it (fl L2++B)) ((pd 0 L2).toArray.push ((fl L).length,m,0)) J none=_;unfold sS;have e3:fl (L2++[(B.take m,0)])++B.drop m=fl L2++B:=by
      rw[fA];show fl L2++(B.take m++[])++B.drop m=_;rw[ó,Ø,è]
     have e4:(pd 0 L2).toArray.push ((fl L).length,m,0)=(pd 0 (L2++[(B.take m,0)])).toArray:=by
      rw[lH,push_toArray,X6,e2];show _=(pd 0 L2++[((fl L).length,(B.take m).length,0)]).toArray;rw[tl]
     rw[e3,e4]
    .rcases Ð.mp hy with k | k
     .exact K y k
     .rw[Ë.mp k];exact#[by rw[tl];exact C,by assumption]
    .rw[fA];show(fl L2++(B.take m++[])++B.drop m).Perm _;rw[ó,Ø,è];exact(p2.append_right _).trans u
    .rw[fA,Ó,e2];show _<=_ + (B.take m++[]).length;rw[ó,tl];exact _P hp C
   have back:∀ (o:Option (Nat × Nat × Nat)),(XJ (sS κ it (fl L++B) (pd 0 L) g)).back?=o->(o=none\/∃ x,o=↑x/\1<=L.length):=λo e=>by
    cases L with
    |nil=>exact .inl (by rw[<-e];rfl)
    |cons y L =>
     cases o with
     |none=>exact .inl rfl|some x=>exact .inr #[x,rfl,⋯]
   generalize hb:(XJ (sS κ it (fl L++B) (pd 0 L) g)).back?=o;rcases back _ hb with rfl | ⟨⟨s1,n1,v1⟩,rfl,hL⟩
   .exact H L g p (.refl _)
   .dsimp only;generalize power' n (2 * s1 + n1) (2 * s1 + n1 + n1 + m) n=N;refine Ú (YC (V8 (I:=λy c j=>c=(none,())/\∃ L2 J,j=sS κ it (fl L2++B) (pd 0 L2) J/\Gd lt L2/\(fl L2).Perm (fl L)/\1<=L2.length)
     (Q:=λc j=>c=(none,())/\∃ L2 J,j=sS κ it (fl L2++B) (pd 0 L2) J/\Gd lt L2/\(fl L2).Perm (fl L)/\1<=L2.length) (λy c j _ hy I=>?_) (λc j I=>I) #[rfl,L,g,rfl,p,.refl _,hL]) λc j I=>?_)
    .let(rfl,L2,J,rfl,K,p2,P):=I;refine Ú (wpS_get ?_);have U:(XJ (sS κ it (fl L2++B) (pd 0 L2) J)).size=L2.length:=by show(pd 0 L2).toArray.size=_;rw[á,uM]
     rw[U];generalize ho:(if L2.length > 1 then(XJ (sS κ it (fl L2++B) (pd 0 L2) J))[L2.length - 2]? else none)=o2;cases o2 with
     |none=>exact æ #[rfl,L2,J,rfl,K,p2,P]
     |some q =>
      let(q1,q2,q3):=q;have l3:L2.length > 1:=by
       rcases lt_or_ge 1 L2.length with k | k
       .exact k
       .rw[Zv (YA k)] at ho;cases ho
      dsimp only;refine pj (λ_=>æ #[rfl,L2,J,rfl,K,p2,P]) λ_=>?_;have pm2:=(p2.append_right B).trans u;refine Ú (xw od O (Qe pm2) K (Nat.add_lt_of_lt_sub (QR l3)) λL' d h1 h2 h3=>Oa rfl (æ #[rfl,L',d,rfl,h2,h3.trans p2,YQ (Ñ l3 (WA h1.symm))]))
    .let(rfl,L2,J,rfl,K,p2,P):=I;dsimp only;obtain⟨Y,X,v,rfl⟩:∃ Y X v,L2=Y++[(X,v)]:=#[L2.dropLast,(L2.getLast (by intro e;rw[e] at P;simp at P)).1,(L2.getLast (by intro e;rw[e] at P;simp at P)).2,(WH _).symm]
     refine Ú (YD ?_);have e5:fl (Y++[(X,v)])=fl (Y++[(X,N)]):=by rw[fA,fA];rfl
     have e6:(pd 0 (Y++[(X,v)])).toArray.modify ((pd 0 (Y++[(X,v)])).toArray.size - 1) (λx=>(x.1,x.2.1,N))=(pd 0 (Y++[(X,N)])).toArray:=by
      rw[lH,lH,á];show(pd 0 Y++[((0 + (fl Y).length),X.length,v)]).toArray.modify ((pd 0 Y++[((0 + (fl Y).length),X.length,v)]).length - 1) _=(pd 0 Y++[((0 + (fl Y).length),X.length,N)]).toArray;rw[Ó,XW,Nat.add_sub_cancel];apply Ym.mp;rw[Array.toList_modify];simp[List.modify_eq_take_cons_drop]
     show wpS _ _ _ _ _ _ (WL κ (ar it (fl (Y++[(X,v)])++B)) ((pd 0 (Y++[(X,v)])).toArray.modify ((pd 0 (Y++[(X,v)])).toArray.size - 1) (λx=>(x.1,x.2.1,N))) J none);rw[e6,e5];refine H (Y++[(X,N)]) J (λy hy=>?_) (by rw[<-e5];exact p2)
     rcases Ð.mp hy with k | k
     .exact K y (ä _ k)
     .rw[Ë.mp k];exact K (X,v) ⋯
 .let(L,R,g,rfl,rfl,p,u,hp):=I;have z:(fl L).length + R.length=n:=by have:=u.length_eq;rwa [Ó,Vu] at this
  have:R=[]:=Wx (_g (_a (_q z)) (_z hp))
  subst this;rw[ó] at u ⊢;exact#[L,g,rfl,rfl,p,u]
 .let(L,g,rfl,rfl,p,u):=I;dsimp only;have z:(fl L).length=n:=by rw[u.length_eq,Vu]
  refine Ú (YC (V8 (I:=λx c j=>c=(none,())/\∃ L g,j=sS κ it (fl L) (pd 0 L) g/\Gd lt L/\(fl L).Perm (ø n)/\(L.length<=1\/L.length + x<=n))
   (Q:=λc j=>c=(none,())/\∃ L g,j=sS κ it (fl L) (pd 0 L) g/\Gd lt L/\(fl L).Perm (ø n)/\L.length<=1) (λx c j _ f I=>?_) (λc j I=>?_) #[rfl,L,g,rfl,p,u,by rw[<-z];exact .inr p.len]) λc j I=>?_)
  .let(rfl,L,g,rfl,p,u,hl):=I;refine Ú (wpS_get ?_);have U:(XJ (sS κ it (fl L) (pd 0 L) g)).size=L.length:=by show(pd 0 L).toArray.size=_;rw[á,uM]
   refine pj (λq=>æ #[rfl,L,g,rfl,p,u,by rw[U] at q;exact q]) λq=>?_
   rw[U] at q;have e0:sS κ it (fl L) (pd 0 L) g=sS κ it (fl L++[]) (pd 0 L) g:=by rw[ó]
   rw[U];generalize hi:(if (Option.any (λx=>decide (x < (XJ (sS κ it (fl L) (pd 0 L) g))[L.length - 2 + 1]?.elim 0 λx=>x.2.1)) (if L.length - 2 > 0 then Option.map (λx=>x.2.1) (XJ (sS κ it (fl L) (pd 0 L) g))[L.length - 2 - 1]? else none))=true then L.length - 2 - 1 else L.length - 2)=i;have hi2:i + 1 < L.length:=by
    have q':=QR (lt_of_not_le q);have:i < L.length - 1:=by rw[<-hi];exact N9 (VA (sub_le _ _) q') q'
    exact Nat.add_lt_of_lt_sub this
   rw[e0];refine Ú (xw od O (by rw[ó];exact Qe u) p hi2 λL' d h1 h2 h3=>Oa rfl (æ #[rfl,L',d,by rw[ó],h2,h3.trans u,.inr (by rw[<-add_assoc,Nat.add_right_comm,h1];exact hl.resolve_left q)]))
  .let(rfl,L,g,rfl,p,u,hl):=I;exact#[rfl,L,g,rfl,p,u,hl.elim id λh=>Í (Nat.le_of_add_le_add_right (Í (XA (Nat.le_max_right 0 n) _) (Í h (WA (X6 n).symm)))) (Wg 1)]
  .let(rfl,L,g,rfl,p,u,hl):=I;refine æ (h _ _ _ u ?_)
   match L,hl,p with
   |[],_,_=>exact .nil|[(X,v)],_,p=>rw[cZ];show Up lt (X++[]);rw[ó];exact(p (X,v) ⋯).2
end
end NS
namespace MySort
open PySem PySem.W PyProof.Rows
def aU:Zl->Zl->Bool
 |[],[]=>false|[],_::_=>true|_::_,[]=>false|x::r,y::q=>if x=y then aU r q else decide (x < y)
theorem fi:∀ a,aU a a=false
 |[]=>rfl|x::r=>by show(if x=x then aU r r else _)=_;rw[Zu rfl];exact fi r
theorem fZ:∀ a b c,aU a b->aU b c->aU a c
 |[],[],_,h,_=>by cases h
 |[],_::_,[],_,h=>by cases h
 |[],_::_,_::_,_,_=>rfl|_::_,[],_,h,_=>by cases h
 |_::_,_::_,[],_,h=>by cases h
 |x::a,y::b,z::c,d,e=>by
  have d:(if x=y then aU a b else decide _)=true:=d;have e:(if y=z then aU b c else decide _)=true:=e;show(if x=z then aU a c else decide _)=true;by_cases f:x=y
  .rw[Zu f] at d;by_cases g:y=z
   .rw[Zu g] at e;rw[Zu (f.trans g)];exact fZ a b c d e
   grind
  grind
theorem iz:∀ a b,aU a b=false->aU b a=false->a=b
 |[],[],_,_=>rfl|[],_::_,h,_=>by cases h
 |_::_,[],_,h=>by cases h
 |x::a,y::b,c,d=>by
  have c:(if x=y then aU a b else decide _)=false:=c;have d:(if y=x then aU b a else decide _)=false:=d;by_cases e:x=y
  .subst e;rw[Zu rfl] at c d;rw[iz a b c d]
  grind
theorem uN(a b c:Zl)(h:aU a c):aU a b=true\/aU b c:=by
 cases d:aU a b with
 |true=>exact .inl rfl
 |false =>
  right;cases e:aU b a with
  |true=>exact fZ b a c e h|false=>rw[<-iz a b d e];exact h
section
variable {P:ð}{w:ú}{A:Vl}{E:Ä->É->Prop}{s:É}
def sortedBy(ks:⇑Zl)(p:Zh):Prop:=p.Perm (ø ks.length)/\(p.map λi=>ks.getD i []).Pairwise λx y=>aU y x=false
theorem range_getD(d:α):∀ (l:⇑α),(ø l.length).map (λi=>l.getD i d)=l:=λl=>by
 refine List.ext_getElem ⋯ λi a c=>?_
 simp at a;simp[a]
def Ob(P:ð)(w:ú)(A:Vl)(s:É)(a:Zi)(c:Zh->Prop)(d:XN):Prop:=∀ (E:Ä->É->Prop) (Q:Unit × VJ->É->Prop),(∀ p e,c p->failedOf e=none->arrOf e=(p.toArray).map (Xo (a.toArray.zip a.toArray))->Q ((),e) s)->â (Ü P w) A (sortRuns'.run (WL d (a.toArray.zip a.toArray) [].toArray 7 none)) Q E s
structure uO(P:Program)(w:World)(A:Around)(s:Shared)(vs:⇑Value)(Pr:⇑Nat->Prop)(kd:SortKind):Prop where
 len:vs.length<=60000
 few:vs.length < 2->Pr (range vs.length)
 all:∀ p,Pr p->p.length=vs.length
 kind:2<=vs.length->∀ (E:Value->Shared->Prop) (Q:SortKind->Shared->Prop),Q kd s->wpAny (model P w) A (keyKind' vs.toArray) Q E s
 run:2<=vs.length->Ob P w A s vs Pr kd
theorem HU(a:n=ks.length)(c:n < 2):sortedBy ks (ø n):=by
 subst a;refine#[.refl _,?_];rw[range_getD]
 match ks,c with
 |[],_=>exact .nil|[_],_=>simp|_::_::_,q=>simp at q;omega
theorem HV(ks:⇑Zl):NS.Od λi j=>aU (ks.getD i []) (ks.getD j []) where
 asym x y h:=by
  cases q:aU (ks.getD y []) (ks.getD x []) with
  |false=>rfl|true=>have:=fZ _ _ _ h q;rw[fi] at this;cases this
 tr x y z h1 h2:=by
  have h1:aU (ks.getD y []) (ks.getD x [])=false:=h1;have h2:aU (ks.getD z []) (ks.getD y [])=false:=h2;show aU (ks.getD z []) (ks.getD x [])=false;cases q:aU (ks.getD z []) (ks.getD x []) with
  |false=>rfl
  |true =>
   rcases uN _ (ks.getD y []) _ q with q | q
   .rw[h2] at q;cases q
   .rw[h1] at q;cases q
theorem DW(a:c.length=ks.length)(_:c.length < 60001)(d:∀ i j,i < c.length->j < c.length->∀ (E:Ä->É->Prop) (C:Bool->É->Prop),C (aU (ks.getD i []) (ks.getD j [])) s->â (Ü P w) A (keyLt' f (c.getD i ö) (c.getD j ö)) C E s)(_:2<=c.length):Ob P w A s c (sortedBy ks) f:=λE Q q=>by
 rw[(by
  have e:=kas_range (c.toArray.zip c.toArray);rw[show(c.toArray.zip c.toArray).size=c.length by simp] at e
  show _=WL f ((ø c.length).map _).toArray _ 7 none;rw[<-map_toArray,e]:WL f _ _ 7 none=NS.sS f _ _ [] 7)];refine VY (NS.DV (Q:=λ_ k=>Q ((),k) s) (HV ks) (λi j C l m n=>?_) λr o p u v=>?_) (λx y h=>by simp_all) λ_ _ e=>e
 .show â _ A (keyLt' f (Xo (pairsOf c) i).1 (Xo (pairsOf c) j).1) C _ s;rw[kas_item_eq c i,kas_item_eq c j];exact d i j l m _ C n
 .refine q r _ #[by simp_all,?_] rfl ?_
  .rw[W8];exact v
  .show(r.map _).toArray=_;rw[map_toArray]
def uP(h a:þ):Prop:=∀ b o,h.get? b=↑o->o.cls=.type "tuple"->a.get? b=↑o
theorem pz{a:Ê}{vs:Zi}{Pr:Zh->Prop}{kd:XN}{n:Nat}{R:PySem.Fin->É->Prop}(ho:s.heap.get? a=↑(V0 "list" vs.toArray n))(hk:∀ h',uP s.heap h'->uO P w A { s with heap:=h' } vs Pr kd)
  (h:∀ (p:Zh) (h':þ) (c:Nat),Pr p->(∀ b o,b≠a->s.heap.get? b=↑o->h'.get? b=↑o)->h'.get? a=↑(V0 "list" (p.map λi=>vs.getD i ö).toArray c)->R (.done (.ret .none)) { s with heap:=h' }) :
  â (Ü P w) A (Xh.«list.sort» #[[↥a],[]]) R E s:=by
 have h64:=(hk s.heap λ_ _ e _=>e).len;obtain⟨e1,ho1⟩:∃ e1,(s.heap.update a _).get? a=↑(V0 _ _ e1):=#[_,get?_update_seq ho _];have kp:∀ b o,b≠a->s.heap.get? b=↑o->(((s.heap.update a _).push (V0 "tuple" vs.toArray 0)).push (V0 "list" [].toArray 0)).get? b=↑o:=λb o hb e=>Â _ (Â _ (((WC s.heap a (VF λ_=>([].toArray))).2 b hb).trans e));have ho6:(((s.heap.update a _).push (V0 "tuple" vs.toArray 0)).push (V0 "list" [].toArray 0)).get? a=↑_:=Â _ (Â _ ho1);have hk6:=hk _ (λb o e hc=>kp b o (λq=>by grind) e)
 rw[list_sort_plain];refine À (listItems_at ho rfl (À (listUpdate_at ho rfl ?_ (by rw[á,VD];omega) (Wg _))))
 refine À (seqEpoch_at ho1 rfl (À (wpAny_newTuple ?_ (by show vs.length<=_;rw[VD];omega))));refine À (YW (Vw ?_) (Wg _))
 generalize hH:((s.heap.update a _).push _).push _=h6 at kp ho6 hk6 ⊢;have fin:∀ (p) (out),out=(p.map λi=>vs.getD i ö).toArray->Pr p->â (Ü P w) A (do
   let touched:=(<-seqEpoch a) != e1
   Builtin.List.listUpdate _ λ_=>out
   if touched then rule "list.sort.modified";raiseError "ValueError" "list modified during sort"
   ret _) R E { s with heap:=h6 }:=λp out eo hp=>by
  subst eo;refine À (seqEpoch_at ho6 rfl (À (listUpdate_at ho6 rfl ?_ (Wg _) (Í (WA (by rw[á,Ã,(hk s.heap λ_ _ e _=>e).all p hp])) (by rw[VD];omega)))))
  simp only[bne_self_eq_false,false_eq_true,if_false];exact Æ (h p _ _ hp (λb o hb e=>((WC h6 a (VF λ_=>(p.map λi=>vs.getD i ö).toArray)).2 b hb).trans (kp b o hb e)) (get?_update_seq ho6 _))
 dsimp only;by_cases h2:vs.toArray.size < 2
 .rw[Zu h2,Zu h2];refine À (Æ ?_);refine À (Æ ?_);refine fin _ _ ?_ ((hk s.heap λ_ _ e _=>e).few (by simp_all))
  rw[range_getD];apply Ym.mp;rw[Array.toList_map];rw[ksk_zip];exact List.map_snd_zip (Ò _)
 .rw[Zv h2,Zv h2];have h2' :=by simpa using h2
  refine À (hk6.kind h2' _ _ ?_);refine À (hk6.run h2' _ _ λp st' hp hf har=>?_);rw[hf];exact fin p _ (kat_snds rfl har) hp
end
end MySort
namespace TS
open PySem PySem.W PyProof.Rows
def neN:Nat->Nat->Nat->Zh
 |0,_,_=>[]|b + 1,v,h=>(h + v)::(neN b (2 * v) (h + v)++neN b (2 * v) h)
def sN(b:Nat):Zh:=0::neN b 1 0
def xy:Nat->Nat->Nat->Zh
 |0,_,_=>[]|k + 1,i,m=>if Nat.testBit m 0 then i::xy k (i + 1) (m / 2) else xy k (i + 1) (m / 2)
end TS
namespace HT
open PySem PyProof.Rows
section
open PySem.SeqAt
open PySem.AutoSeq1 (wpAny_loadPart')
open PySem.MeetsSeq PySem.MeetsSeq2 PySem.MeetsSeq3
open MySort (aU)
def leB(a c:Zl):Bool:=!aU c a
theorem HW(x y:Int)(r q:Zl):leB (x::r) (y::q)=if x=y then leB r q else decide (x<=y):=by
 show(!(if y=x then aU q r else decide _))=_;by_cases e:x=y
 .rw[Zu e,Zu e.symm];rfl
 grind
theorem HX(A:Vl)(s:É)(a:Int)(t:Tok)(c:Int)(u:Tok)(P:ð)(w:ú)(E:Ä->É->Prop)(Q:Ä->É->Prop)(h:Q (.bool (decide (a<=c))) s):â (Ü P w) A (richCompare .LtE (.int a t) (.int c u)) Q E s :=
 (PyProof.Rows.le_int h:â _ A _ Q E s)
theorem wO(l b:Ê)(f i:Zo)(n n2:Nat)(dd j:Zk)(sl k:Array Zn)(m o:Zl)(hi:Yv f.toList m)(hj:Yv i.toList o) :
  Meets (Xh.«tuple.__le__» #[[↥l,↥b],[]]) (λ_ R s=>s.heap.get? l=↑{ cls:=.type "tuple",dict:=dd,data:=.seq f n,slots:=sl }/\s.heap.get? b=↑{ cls:=.type "tuple",dict:=j,data:=.seq i n2,slots:=k }/\R (.ok (.ret (.bool (leB m o)))) s) :=
 .of_wp λP w A R s h=>by
  let(p,g,d,r,v):=s;let(hl,hb,h):=h;have f2:=AutoSeq1.sub_tuple_tuple;have z1:f.size=m.length:=by rw[<-hi.length];simp
  have z2:i.size=o.length:=by rw[<-hj.length];simp
  wp_walk using Xm hl,Xm hb,wpAny_forIn_list _ (λz b B=>b.1=none/\B=#[p,g,d,r,v]/\∃ (C E:Zi) (F G:Zl),z=C.zip E/\Yv C F/\Yv E G/\F.length + i.size=G.length + f.size/\R (.ok (.ret (.bool (leB F G)))) #[p,g,d,r,v]) _
  case turn =>
   rintro ⟨y,x⟩ z b B ⟨H,rfl,C,E,F,G,hz,I,J,hlen,hR⟩;cases I with
   |nil=>rw[List.zip_nil_left] at hz;cases hz
   |cons a t K =>
    cases J with
    |nil=>rw[List.zip_nil_right] at hz;cases hz
    |cons c u L =>
     rw[YM] at hz;injection hz with N U;injection N with hy hx;subst hy hx;rw[HW] at hR;simp only[ã] at hlen;let(e,he,X):=Hu A.in1 #[p,g,d,r,v] a t c u;refine À (he P w _ _ ?_);cases e with
     |true =>
      rw[Zu (X.mp rfl)] at hR;wp_walk;exact#[rfl,rfl,_,_,_,_,U,K,L,by omega,hR]
     |false =>
      rw[Zv (λq=>absurd (X.mpr q) ï)] at hR;have Y:=HX A.in1 #[p,g,d,r,v] a t c u P w
      wp_walk using Y
      exact#[_,rfl,by simpa using hR]
  case fin =>
   rintro ⟨b1,b2⟩ B ⟨H,rfl,C,E,F,G,hz,I,J,hlen,hR⟩;simp only at H;subst H;have hv:leB F G=decide (f.size<=i.size):=by
    cases I with
    |nil =>
     cases J with
     |nil=>simp only[WD] at hlen;exact(Zy (WA (_a (_Q hlen)))).symm|cons c u hw=>simp only[WD,ã] at hlen;exact(Zy ∅).symm
    |cons a t hv =>
     cases J with
     |nil=>simp only[WD,ã] at hlen;exact(Zz ∅).symm|cons c u hw=>rw[YM] at hz;cases hz
   rw[hv] at hR;wp_walk;exact#[_,rfl,by simpa [tupleCompareSizes] using hR]
  case h=>exact#[rfl,rfl,f.toList,i.toList,m,o,rfl,hi,hj,by omega,h]
end
section
variable {P:ð}{w:ú}{A:Vl}{E:Ä->É->Prop}{s:É}
theorem Cs(a:IsTup s.heap l c)(d:IsTup s.heap b e)(f:Yv c.toList ns)(g:Yv e.toList ms)
  (i:A.units < WN) (h:Q (.bool (leB ns ms)) s):â (Ü P w) A (VZ .LtE ↥l ↥b) Q E s:=by
 obtain⟨⟨j,k,m,sl⟩,o,p,n,q⟩:=id a;obtain⟨⟨r,u,v,y⟩,z,B,n2,C⟩:=id d;subst p q B C;exact richCompare_meets_room (op:=.LtE) #[_,o,rfl] #[_,z,rfl] PySem.F.slot_tuple_le PySem.F.entry_tuple_le (PySem.F.args_tuple_le_2 _ _) (wO l b c e n n2 k u sl y ns ms f g)
  #[o,z,show YJ _≠Value.notImplemented/\Q _ s from#[(λx=>nomatch x),h]] i
theorem DX{t b:Ê}{a:Zi}{Q:Ä->É->Prop}(c:IsTup s.heap t [].toArray)(d:IsTup s.heap b a.toArray)(h:Q ↥b s):â (Ü P w) A (Wu .Add ↥t ↥b) Q E s:=by
 obtain⟨⟨e,f,g,sl⟩,i,j,n,k⟩:=id c;obtain⟨⟨l,m,o,p⟩,q,r,n2,u⟩:=id d;subst j k r u;exact concat_meets #[_,i,rfl] #[_,q,rfl] noFill_tuple_add seq_tuple_add XT XH (Xy _ _) (tuple_addW0 t b _ a.toArray n n2 f m sl p ⋯) #[i,q,h]
theorem pA:seqRepeat? (.type "tuple")=pure ↑(.builtin "tuple.__mul__"):=by
 first | kernel_rfl | rfl | grind
theorem jA:fillsNumberSlot (.type "tuple") "mul"=pure false:=by
 first | kernel_rfl | rfl
theorem uQ(a:Int)(t:Tok)(l:Ê)(c:Zo)(n:Nat)(d:Zk)(sl:Array Zn) :
  Meets (Xh.«int.__rmul__» #[[.int a t,↥l],[]]) (λ_ R s=>s.heap.get? l=↑{ cls:=.type "tuple",dict:=d,data:=.seq c n,slots:=sl }/\R (.ok (.ret Value.notImplemented)) s) :=
 .of_wp λP w A R s h=>by let(e,h):=h;wp_walk;exact#[_,rfl,h]
theorem AE(l:Ê)(a:Zo)(k:Int)(u:Tok)(n:Nat)(c:Zk)(sl:Array Zn)(d:¬ (decide (k < -(2 ^ 63)) || decide (k ≥ 2 ^ 63)))(e:(a.isEmpty || k == 1)) :
  Meets (Xh.«tuple.__mul__» #[[↥l,.int k u],[]]) (λ_ R s=>s.heap.get? l=↑{ cls:=.type "tuple",dict:=c,data:=.seq a n,slots:=sl }/\R (.ok (.ret ↥l)) s) :=
 .of_wp λP w A R s h=>by
  let(f,h):=h
  wp_walk using W0 f
  simp only[d,if_false]
  wp_walk using W0 f
  exact#[_,rfl,h]
theorem mul_zero(l:Ê)(a:Zo)(k:Int)(u:Tok)(n:Nat)(c:Zk)(sl:Array Zn)(d:¬ (decide (k < -(2 ^ 63)) || decide (k ≥ 2 ^ 63)))(e:¬ (a.isEmpty || k == 1))(f:(decide (k<=0) || a.isEmpty)) :
  Meets (Xh.«tuple.__mul__» #[[↥l,.int k u],[]]) (λ_ R s=>s.heap.get? l=↑{ cls:=.type "tuple",dict:=c,data:=.seq a n,slots:=sl }/\R (.ok (.ret ↥s.heap.objs.size)) { s with heap:=s.heap.push { cls:=.type "tuple",data:=.seq [].toArray } }) :=
 .of_wp λP w A R s h=>by
  let(g,h):=h
  wp_walk using W0 g
  simp only[d,if_false]
  wp_walk using W0 g
  exact#[_,rfl,h]
theorem AF(l:Ê)(a:Zo)(k:Int)(u:Tok)(n:Nat)(c:Zk)(sl:Array Zn)(d:¬ (decide (k < -(2 ^ 63)) || decide (k ≥ 2 ^ 63)))(e:¬ (a.isEmpty || k == 1))(f:¬ (decide (k<=0) || a.isEmpty))
  (g:¬ (a.size:Int) * k > (2 ^ 63 - 1) / 8) (i:¬ tupleTooMany ((a.size:Int) * k)) (j:(foldl (λx y=>x++y) [].toArray (ÿ k.toNat a)).size<=sizeLine) :
  Meets (Xh.«tuple.__mul__» #[[↥l,.int k u],[]]) (λ_ R s=>s.heap.get? l=↑{ cls:=.type "tuple",dict:=c,data:=.seq a n,slots:=sl }/\R (.ok (.ret ↥s.heap.objs.size)) { s with heap:=s.heap.push { cls:=.type "tuple",data:=.seq (foldl (λx y=>x++y) [].toArray (ÿ k.toNat a)) } }) :=
 .of_wp λP w A R s h=>by
  let(o,h):=h
  wp_walk using W0 o
  simp only[d,if_false]
  wp_walk using W0 o
  simp only[g,i,if_false];refine À (m:=tupleExact _) (Vn (Æ ?_) j);exact#[_,rfl,h]
end
theorem nY(f:α->Option β)(g:α->β):∀ (l:⇑α),(∀ k∈l,f k=↑(g k))->l.filterMap f=l.map g
 |[],_=>rfl|x::r,h=>by rw[VM,h x È,Xc,nY f g r λk a=>h k (Î _ a)]
section
variable {P:ð}{w:ú}{A:Vl}{E:Ä->É->Prop}{s:É}
theorem nQ{t sl:Ê}{a:Zo}{c d:Ä}{e f:Zq}{Q:Ä->É->Prop}(g:IsTup s.heap t a)(hs:s.heap.IsSliceOf sl c d .none)(pl:IsPart c e)(i:IsPart d f)
  (hw:dO a.size 0 e=0/\dO a.size a.size f=a.size) (h:Q ↥t s):â (Ü P w) A (Y2 ↥t ↥sl) Q E s:=by
 let(j,k,l,m):=id hs;delta Y2;try with_reducible apply Vw
 refine À (wpAny_sequenceKey g.typeIs (-0) ?_);refine À (VB  g.typeIs ô (Vt ô g.typeIs entry_tuple_getitem ?_ (Y7 _ _)))
 show â _ _ (tupleItemsOf _ >>= _) _ _ s;refine À (tupleItemsOf_ g (À (Xe #[j,k,l] ?_)));refine À (dW hs pl i ?_);rw[hw.1,hw.2];show â _ _ (if (((0:Nat):Int) == 0&&(1:Int) == 1&&(a.size - 0) == a.size)=true then _ else _) _ _ s;rw[Zu ⋯]
 apply À ;refine À (Xe g.typeIs (Æ ?_))
 first
  |grind
  |exact À (XQ (À (Æ (Æ #[_,rfl,Æ h]))))
theorem iR{t sl:Ê}{a:Zi}{u:Tok}{Q:Ä->É->Prop}(c:IsTup s.heap t a.toArray)(hs:s.heap.IsSliceOf sl .none .none (.int (-1) u))
  (h:Q ↥s.heap.objs.size { s with heap:=s.heap.push { cls:=.type "tuple",data:=.seq a.reverse.toArray } }) (hz:a.length<=sizeLine):â (Ü P w) A (Y2 ↥t ↥sl) Q E s:=by
 let(d,f,g,j):=id hs;delta Y2;try with_reducible apply Vw
 refine À (wpAny_sequenceKey c.typeIs (-0) ?_);refine À (VB  c.typeIs ô (Vt ô c.typeIs entry_tuple_getitem ?_ (Y7 _ _)))
 show â _ _ (tupleItemsOf _ >>= _) _ _ s;refine À (tupleItemsOf_ c (À (Xe #[d,f,g] ?_)));refine À ((λ{R} q=>by
  refine À (À (Wh f j (x:=.none) rfl (À (Wh f j (x:=.none) rfl (À (Wh f j  rfl (Æ ?_)))))));show â _ _ (match sliceAdjust none none (-1) _ with | (o,p)=>pure (o,(-1),Yo o p (-1))) _ _ s
  rw[(by simp[sliceAdjust]:sliceAdjust none none (-1) (a.toArray.size)=((a.length:Int) - 1,-1))];show â _ _ (pure _) _ _ s;rw[(by
   delta Yo
   rw[Zv (-0)]
   split
   .simp only[Int.neg_neg,Int.ediv_one];omega
   .omega:Yo ((a.length) - 1) (-1) (-1)=a.length)];exact Æ q:∀ {R:Int × Int × Nat->É->Prop},R _ s->â (Ü P w) A.in1 (sliceApplied _ (pure _)) R E s) ?_);show â _ _ (if (((a.length:Int) - 1) == 0&&(-1) == 1&&a.length == a.toArray.size)=true then _ else _) _ _ s;rw[Zv ⋯]
 have pick:((ø a.length).filterMap λ(k:Nat)=>a.toArray[((a.length:Int) - 1 + (k) * -1).toNat]?)=a.reverse:=by
  refine List.ext_getElem? λi=>?_;have r:∀ k∈ø a.length,a.toArray[((a.length:Int) - 1 + (k) * -1).toNat]?=↑(a.getD (a.length - 1 - k) ö):=λk v=>by
   have y :=by simpa using v
   have e:((a.length:Int) - 1 + (k) * -1).toNat=a.length - 1 - k:=by omega
   rw[e];have:a.length - 1 - k < a.length:=VA (_o _ _) (_A y)
   simp[this]
  rw[nY _ _ _ r,å];by_cases p:i < a.length
  .have z:a.length - 1 - i < a.length:=VA (_o _ _) (_A p)
   rw[List.getElem?_range p,List.getElem?_reverse p];simp[z]
  .rw[List.getElem?_eq_none (by simpa using p),List.getElem?_eq_none (by simpa using p)];rfl
 rw[pick];have B :=by show a.reverse.toArray.size<=sizeLine;rw[á,Xd];exact hz
 first
  |exact À  (Vn (Æ #[_,rfl,Æ h]) B)
  |exact À  _
  |exact À _
  |exact À _
end
end HT
namespace L2
open PySem PySem.Spec PyProof.Rows
theorem ag.jB{K:Å}{H c:Hp}{a:Ê}{d:⇑V}(e:ag H c)(h:dU K H a d):dU K c a d:=by
 rcases h with (h | ⟨o,h⟩) | h
 .exact .inl (.inl (e _ _ h))
 .exact .inl (.inr #[o,e _ _ h])
 .exact .inr h
theorem ag.new(o:HO)(n:H p=none):ag H (upd H p o):=λb u e=>by rw[ah (aD e n)];exact e
def yI(K:Å)(H:Hp)(a:⇑V)(Q:VK):Prop:=∀ p c,ag H c->dU K c p a->Q ↥p c
section
variable {X:Cx}{aa:⇑(Ê × Obj)}{σ:St}{H:Hp}{s:É}
theorem yI.here(q:yI X.K H zs Q)(I:Inv X aa σ H s)(h:dU X.K H a zs):EP X aa σ Q ↥a s:=#[↥a,H,I,rfl,q a H (ag.refl H) h]
theorem yI.new(q:yI X.K H zs Q)(I:Inv X aa σ H s)(r:Vals zs us)(hz:zs.length<=sizeLine) :
  EP X aa σ Q ↥s.heap.objs.size { s with heap:=s.heap.push { cls:=.type "tuple",data:=.seq us.toArray } } :=
 have a :=I.aX.fresh (Ò _)
 #[↥s.heap.objs.size,_,I.laid  (o:=.tup zs) (λb c q=>Â _ q) (Ò _) #[hz,_,r,IsTup.new _ _],rfl,q _ _ (ag.new _ a) (dU.of aB)]
end
section
variable {X:Cx}
inductive QT (K:PySem.W.Frag) (x:V) (y:V) (H:Hp) (Q:VK):Prop where
 |mk (a b ns ms) (h0_:x=↥a) (h1_:y=↥b) (h2_:dU K H a (ns.map V.int)) (h3_:dU K H b (ms.map V.int)) (h4_:Q (.bl (HT.leB ns ms)) H):QT K x y H Q
theorem Oc(c:X.A.units < WN):gQ X (VZ .LtE) (QT X.K):=by
 intro d s e H x y v u Q I f g h;let(a,b,i,j,rfl,rfl,k,l,q):=h;subst f;subst g;let(v1,m,n,_):=I.tuple k;let(v2,o,p2,_):=I.tuple l;exact HT.Cs n p2 (show Yv v1.toArray.toList i from intsAre_of m) (show Yv v2.toArray.toList j from intsAre_of o) c #[.bl _,H,I,rfl,q]
inductive HY (K:PySem.W.Frag) (x:V) (y:V) (H:Hp) (Q:VK):Prop where
 |mk (a b xs ys) (h0_:x=↥a) (h1_:y=↥b) (h2_:dU K H a xs) (h3_:dU K H b ys) (h4_:xs.length + ys.length<=sizeLine) (h5_:yI K H (xs++ys) Q):HY K x y H Q
theorem La:gQ X (Wu .Add) (HY X.K):=by
 intro c s d H x y v u Q I f g h;let(a,b,i,j,rfl,rfl,k,l,hz,q):=h;subst f;subst g;let(v1,m,n,_):=I.tuple k;let(v2,o,p2,_):=I.tuple l;by_cases p:i=[]
 .subst p;have e:=m.jZ.mpr rfl;subst e;exact HT.DX n p2 (q.here I l)
 .refine HT.Dz n p2 (λz=>p (m.jZ.mp z)) (λz=>?_) (λz=>q.new I (m.append o) (by simp_all)) (by rw[<-m.length,<-o.length];exact hz)
  have e:=o.jZ.mp z;subst e;rw[ó] at q;exact q.here I k
inductive HZ (K:PySem.W.Frag) (x:V) (y:V) (H:Hp) (Q:VK):Prop where
 |mk (a k xs) (h0_:x=↥a) (h1_:y= ~~~k) (h2_:dU K H a xs) (h3_:0<=k) (h4_:k < 1000000) (h5_:k.toNat * xs.length<=sizeLine) (h6_:yI K H (replicate k.toNat xs).flatten Q):HZ K x y H Q
theorem Lb:gQ X (Wu .Mult) (HZ X.K):=by
 intro aa s σ H x y v u Q I rx ry h;let(a,k,xs,rfl,rfl,ha,hk,hk2,hz,q):=h;subst rx;let(t,rfl):=ry;let(v1,r1,p1,_):=I.tuple ha;have hl:=r1.length;obtain⟨⟨cls,dd,data,sl⟩,ho,hc,n,hd⟩:=id p1;subst hc hd;have h1:¬ (decide (k < -(2 ^ 63)) || decide (k ≥ 2 ^ 63))=true:=by grind
 refine YN   (-0) #[_,ho,rfl] (λs'=>Y6 s' k t) HT.jA F.fills_int_mul XG HT.pA F.slot_int_index.lookup
  (Wv XG (Y6 s k t) F.entry_int_rmul (F.args_int_rmul_2 _ _) (HT.uQ k t a v1.toArray n dd sl) #[ho,rfl,#[_,ho,rfl],?_])
 by_cases hx:v1=[]\/k=1
 .refine Wv YF #[_,ho,rfl] Yk (X5 _ _) (HT.AE a v1.toArray k t n dd sl h1 (by simp_all)) #[ho,?_]
  rw[(by
   rcases hx with hx | hx
   .simp_all
   .rw[hx];simp:(ÿ k.toNat xs).flatten=xs)] at q;exact q.here I ha
 .have h2:¬ (v1.toArray.isEmpty || k == 1)=true:=by simp_all
  by_cases hk0:k=0
  .refine Wv YF #[_,ho,rfl] Yk (X5 _ _) (HT.mul_zero a v1.toArray k t n dd sl h1 h2 (by simp[hk0])) #[ho,?_]
   rw[show(ÿ k.toNat xs).flatten=[] by rw[hk0];rfl] at q
   exact q.new I .nil (Wg _)
  have hfl :=by
   have:=foldl_rep v1 k.toNat [];rw[Yr] at this;exact this
  have hsz:v1.length * k.toNat<=sizeLine:=by rw[<-hl,Y8];exact hz
  have hcast:((v1.toArray.size:Nat):Int) * k=((v1.length * k.toNat:Nat):Int):=by rw[á,Int.natCast_mul,Xn ∅]
  have hline:(sizeLine:Nat)<=(2 ^ 63 - 1) / 8:=by decide
  refine Wv YF #[_,ho,rfl] Yk (X5 _ _) (HT.AF a v1.toArray k t n dd sl h1 h2 (by simp[λz=>hx (.inl z)];omega) (by rw[hcast];generalize v1.length * k.toNat=m at hsz;omega) (by rw[hcast];generalize v1.length * k.toNat=m at hsz;delta tupleTooMany;intro z;have z':=ZA z;omega)
   (by rw[hfl,á,len_rep,Y8];exact hsz)) #[ho,?_]
  rw[hfl];exact q.new I (r1.rep k.toNat) (by rw[len_rep];exact hz)
inductive QU (K:PySem.W.Frag) (x:V) (lo:Option Int) (hi:Option Int) (H:Hp) (Q:VK):Prop where
 |mk (a xs) (h0_:x=↥a) (h1_:dU K H a xs) (h2_:yI K H (yz xs lo hi) Q):QU K x lo hi H Q
theorem Lf:QJ X (QU X.K):=by
 intro c s d H x v f g i j sl Q I k hs pl l h;let(a,m,rfl,n,q):=h;subst k;let(o,r,p,hz):=I.tuple n;have u:o.toArray.size=m.length:=by exact r.length.symm
 refine#[_,_,ô.lookup,p.typeIs,?_];by_cases hw:HT.dO m.length 0 i=0/\HT.dO m.length m.length j=m.length
 .apply HT.nQ p hs pl l (by rw[u];exact hw)
  rw[(by delta yz;rw[hw.1,hw.2];simp:yz m i j=m)] at q;exact q.here I n
 .refine HT.oX p hs pl l (by rw[u];exact hw) ?_ (by rw[u];exact hz)
  rw[u];exact q.new I ((r.drop _).take _) (Í (lD m i j) hz)
def QV(K:Å)(c d:TE):TE:=λe H Q=>c e H λx f=>d e f λy g=>y= ~~~(-1)/\((∃ a h,x=↥a/\dU K g a h/\yI K g h.reverse Q)\/∃ a h,x=↥a/\jX K g a h/\∀ p,g p=none->Q ↥p (upd g p (.lst h.reverse)))
theorem Oe{e c:Þ}{d f:TE}{p2 pos:Pos}(g:PE X e d)(i:PE X c f):PE X (.Subscript e (.Slice none none ↑c p2) pos) (QV X.K d f):=by
 intro j s k H Q I h;refine Subscript_ (cF (g j s k H _ I h) λv s1 #[x,H1,l,m,n]=>?_);apply wpAny_Slice;refine Æ (Æ ?_);refine cF (i j s1 k H1 _ l n) λp s2 #[y,u,w,z,A]=>?_;let(rfl,A):=A;let(t,rfl):=z;have B:Inv X j k u { s2 with heap:=s2.heap.push { cls:=.type "slice",data:=.fields [.none,.none,.int (-1) t].toArray } }:=w.kept  λb C q=>Â _ q;rcases A with ⟨a,E,rfl,F,q⟩ | ⟨a,E,rfl,F,q⟩
 .cases m;let(G,r,J,hz):=B.tuple F;exact tail_any  J.typeIs ô.lookup (HT.iR J (Ye ..) (q.new B r.reverse (by simp_all)) (by rw[<-r.length];exact hz)) (rfl)
 .cases m;let(G,r,J,hz):=B.list F;have L:=r.length;refine tail_any  J.isList.typeIs slot_list_getitem.lookup (YX J.isList (Ye ..) .none .none (.int _ t) ⋯ ?_ (by grind)) (rfl)
  rw[krv_pick];refine#[↥_,_,B.laid (t':=s2.toks) (o:=.lst E.reverse) (λb C q=>Â _ q) (Ò _) ?_,rfl,q _ (B.aX.fresh (Ò _))];exact#[by rw[Xd];exact hz,G.reverse,0,r.reverse,Ï _ rfl]
theorem Of:gQ X (VZ .Is) (λx y H Q=>∃ b c,x=.bl b/\y=.bl c/\Q (.bl (b == c)) H):=by
 intro a s d H x y v u Q I e f h;let(b,c,rfl,rfl,q):=h;subst e;subst f;exact is_bool (Hn I q rfl)
theorem Inv.big(I:Inv X a σ H s):sysModules < s.heap.objs.size:=by
 exact Nat.lt_trans (-0) ((I.mod.glob.keeps I.bk).lt)
def QW:TE:=λ_ H Q=>∀ p,H p=none->Q ↥p (upd H p (.dK []))
theorem Lg{pos:Pos}:PE X (.Dict [] [] pos) QW:=λa s c H Q I h =>
 wpAny_Dict_empty #[↥s.heap.objs.size,_,I.laid  (o:=.dK [])  (λ_ _ q=>Â _ q) (Ò _) #[Wg _,beq_eq_false_iff_ne.mpr (ü (Û I.big)),[],.nil,þ.DictOf.new _],rfl,h _ (I.aX.fresh (Ò _))]
end
end L2
namespace MySort
open PySem PySem.W PyProof.Rows
section
variable {P:ð}{w:ú}{A:Vl}{E:Ä->É->Prop}{s:É}
theorem rO(a:s.heap.get? l=↑o)(c:o.cls=.type "list"\/o.cls=.type "tuple")(d:o.data=.seq e.toArray n)
  (h:Q e { s with heap:=(s.heap.push (V0 "list" [].toArray 0)).update s.heap.objs.size (VF (·++e.toArray)) }) (hz:e.length<=sizeLine):â (Ü P w) A (collect ↥l) Q E s:=by
 refine À (wpAny_runValue (Wr entry_proto_collect' ?_));refine À (YW (Æ #[Code.quiet_builtin _ (by decide +kernel),Wr entry_list_iadd' ?_]))
 show â _ _ (Builtin.List.listExtendWith _ _ _) _ _ _;have f:(s.heap.push (V0 "list" [].toArray 0)).get? l=↑o:=Â _ a;have g:â (Ü P w) A (do
   let o <-load s.heap.objs.size
   match o.data with
   |.seq i _=>pure i.toList
   |_=>unsupported "internal:collect") Q E { s with heap:=(s.heap.push (V0 "list" [].toArray 0)).update s.heap.objs.size (VF (·++e.toArray)) }:=by
  refine À (wpAny_load (get?_update_seq (Ï _ rfl) _) ?_);show â _ _ (pure _) Q E _;rw[show(([].toArray:Zo)++e.toArray).toList=e by simp];exact Æ h
 rcases c with c | c
 .refine À (Xe  #[o,f,c] ?_);rw[Zu ⋯]
  refine À (listItems_at f d (À (listItems_at   (Ï _ rfl) rfl ?_)));exact À (listUpdate_at   (Ï _ rfl) rfl (Æ g) (Wg _) (by simp only[Array.size_append,á,WD];omega))
 .refine À (Xe (T:="tuple") #[o,f,c] ?_);rw[Zu (by rw[show(Wz "tuple" == Wz "tuple")=true by rfl];simp)]
  refine À (listItems_at f d (À (listItems_at (xs:=[].toArray) (n:=0) (Ï _ rfl) rfl ?_)));rw[Zv ⋯]
  exact À (listUpdate_at (xs:=[].toArray) (n:=0) (Ï _ rfl) rfl (Æ g) (Wg _) (by show([].toArray++e.toArray).size<=sizeLine + 1;simp only[Array.size_append,á,WD];omega))
theorem FN(a:s.heap.get? l=↑o)(d:o.cls=.type "list"\/o.cls=.type "tuple")(f:o.data=.seq g.toArray n)
  (j:∀ k,uP s.heap k->uO P w A.in1.in1 { s with heap:=k } g m r)
  (h:∀ (p:Zh) (k:þ) (c:Nat),m p->(∀ b o,s.heap.get? b=↑o->k.get? b=↑o)->k.get? (s.heap.objs.size + 1)=↑(V0 "list" (p.map λi=>g.getD i ö).toArray c)->Q ↥(s.heap.objs.size + 1) { s with heap:=k }) :
  â (Ü P w) A (call (.builtin "sorted") [↥l]) Q E s:=by
 have u:=(j s.heap λ_ _ e _=>e).len;apply Yx kind_sorted plain_sorted entry_sorted (args_sorted1 _);refine À  (Æ ?_);refine À (rO a d f ?_ (by rw[VD];omega));refine À (YW ?_ (by rw[VD];omega))
 have v:((s.heap.push (V0 "list" [].toArray 0)).update s.heap.objs.size (VF (·++g.toArray))).objs.size=s.heap.objs.size + 1:=⋯
 have x:(((s.heap.push (V0 "list" [].toArray 0)).update s.heap.objs.size (VF (·++g.toArray))).push (V0 "list" g.toArray 0)).get? (s.heap.objs.size + 1)=↑(V0 "list" g.toArray 0):=by rw[<-v];exact Ï _ rfl
 have keep:∀ b o,s.heap.get? b=↑o->(((s.heap.push _).update s.heap.objs.size _).push (V0 "list" g.toArray 0)).get? b=↑o:=λb o q=>by
  have y :=é q;rw[Heap.get?_push_ne _ _ _ (by rw[v];exact Û (Wa y)),Heap.get?_update_ne _ _ _ _ (Û y),Heap.get?_push_ne _ _ _ (Û y)];exact q
 rw[v];refine À (Vw (Vt slot_list_sort #[_,x,rfl] entry_list_sort (pz x (λk z=>j k λb o e d=>z b o (keep b o e) d) λp k c B z C=>#[_,rfl,Æ #[_,rfl,h p k c B (λb o e=>z b o (Û (Wa (é e))) (keep b o e)) C]]) (args_list_sort _)))
end
end MySort
namespace L2
open PySem PySem.Spec PyProof.Rows
open MySort (sortedBy)
section
variable {X:Cx}
def uR(X:Cx)(H:Hp)(a:⇑V)(c:Zh->Prop):Prop:=∀ (d:⇑(Ê × Obj)) (e:St) (s:É) (f:Zi),Inv X d e H s->Vals a f->∃ g,∀ h,MySort.uP s.heap h->MySort.uO X.prog X.w X.A.in1.in1 { s with heap:=h } f c g
theorem gZ:cA X (.builtin "sorted") (λargs H Q=>∃ a d,∃ f:Zh->Prop,args=[↥a]/\(jX X.K H a d\/dU X.K H a d)/\uR X H d f/\(∀ p,f p->∀ i∈p,i < d.length)/\∀ p l,f p->H l=none->Q ↥l (upd H l (.lst (p.map λi=>d.getD i .cq)))):=by
 intro g s k H args us Q I r h;let(a,d,f,rfl,m,hk,v,q):=h;let(u,rfl,rx):=vals1 r;subst rx;have y:∀ (z:Zi) (o:Obj) (n:Nat),Vals d z->s.heap.get? a=↑o->(o.cls=.type _\/o.cls=.type _)->o.data=.seq z.toArray n->â _ X.A _ (EP X g k Q) X.xe s:=λz o n B C E F=>by
  let(kd,G):=hk g k s z I B;have J:=G s.heap λ_ _ e _=>e;refine MySort.FN C E F G λp h' c L kp N=>?_;have P:(p.map λi=>d.getD i .cq).length<=sizeLine:=by rw[Ã,J.all p L,VD];have:=J.len;omega
  exact#[↥_,_,I.laid  kp (VO _ 1) (show cO X.prog X.w _ h' _ (.lst _) from#[P,_,c,by
   have Y:=v p L;clear L N P
   induction p with
   |nil=>exact .nil
   |cons i r ih =>
    refine .cons ?_ (ih λj hj=>Y j (Î _ hj));have hi:=Y i È;let(u,hu,ru):=B.get (i:=i) (x:=d[i]) ⋯
    simp_all,N]),rfl,q p _ L (I.aX.fresh (VO _ 1))]
 rcases m with m | m
 .let(z,B,pl,_):=I.list m;let(o,C,E,n,F):=pl.isList;exact y z o n B C (.inl E) F
 .obtain⟨z,B,⟨o,C,E,n,F⟩,_⟩:=I.tuple m;exact y z o n B C (.inr E) F
end
section
variable {K:Å}{g:TG}{tt:TT}{te:TE}{σ0:St}{H:Hp}{Q:VK}
theorem H9{lo:Int}{n:Nat}(a:Nat->⇑V->Hp->Prop)(hz:n<=sizeLine)(c:a 0 [] H)(d:∀ i f H,a i f H->f.length<=i)
  (hs:∀ i f H,i < n->a i f H->g (~~~(lo + i)) σ0 H λh j=>tt h j λb k=>if b=true then te h k (λy l=>a (i + 1) (f++[y]) l) else a (i + 1) f k)
  (o:∀ f H p,a n f H->H p=none->Q ↥p (upd H p (.lst f))):xq (Qb lo n) σ0 H g tt te Q:=by
 refine#[λi m f H=>m=n - i/\i<=n/\a i f H,#[n,⋯,Wg _,c],?_]
 rintro i m f H ⟨rfl,q,p⟩;by_cases s:i < n
 .refine .inr #[s,Ñ (VA (d i f H p) s) hz,_,λu v w=>#[_,_u s (Xs _),rfl,s,w],λx v y=>?_]
  let(e,y):=y;simp_all
 .have e:=_m q (Y9 s)
  subst e;exact .inl #[Ò _,λz hz=>o f H z p hz]
end
inductive D where
 |cq | bl (b:Bool) | int (i:Int) | str (x:Str) | tup (ds:⇑D) | lst (ds:⇑D) | dct
def D.ty:D->String
 |.cq=>"NoneType"|.bl _=>"bool"|~~~_=>"int"|.str _=>"str"|.tup _=>"tuple"|.lst _=>"list"|.dct=>"dict"
mutual
def Ia(K:Å)(H:Hp):D->V->Prop
 |.cq,v=>v=.cq|.bl b,v=>v=.bl b|~~~i,v=>v= ~~~i|.str x,v=>v=.str x|.tup ds,v=>∃ a c,v=↥a/\dU K H a c/\qR K H ds c|.lst ds,v=>∃ a c,v=↥a/\jX K H a c/\qR K H ds c|.dct,v=>∃ a e,v=↥a/\H a=↑(.dK e)
def qR(K:Å)(H:Hp):⇑D->⇑V->Prop
 |[],c=>c=[]|d::ds,c=>∃ x r,c=x::r/\Ia K H d x/\qR K H ds r
end
def Ib(T C:String):Bool:=T == C || (T == "bool"&&C == "int")
theorem Ic(K:Å)(d:D):∀ C∈["int","bool","tuple","list","str"],PySem.W.kitOne K (.type d.ty) (.type C)=↑(Ib d.ty C):=by
 intro C a;simp[VP,Vp,ZE] at a;rcases a with rfl | rfl | rfl | rfl | rfl <;> cases d <;> first | rfl | kernel_rfl | decide +kernel
section
variable {X:Cx}
theorem Ie:cA X (.builtin "isinstance") (λc H Q=>∃ d x C,c=[x,.ty C]/\Ia X.K H d x/\C∈["int","bool","tuple","list","str"]/\Q (.bl (Ib d.ty C)) H):=by
 intro f s g H c j Q I r h;let(d,x,C,rfl,k,l,q):=h;let(u,m,rfl,n,rt):=vals2 r;cases (show m=Wz C from rt);have e:=Ic X.K d C l;have v:∀ A,EP X f g Q _ _:=λA=>#[.bl _,H,I.tok A,rfl,q];cases d with
 |cq=>subst k;subst n;exact X0 kitx_none I.mW True.intro e (λz=>nomatch z) v|bl b=>subst k;subst n;exact X0 kitx_bool I.mW True.intro e (λz=>nomatch z) v|int i=>subst k;let(t,rfl):=n;exact X0 kitx_int I.mW True.intro e (λz=>nomatch z) v
 |str y=>subst k;let(t,rfl):=n;exact X0 kitx_str I.mW True.intro e (λz=>nomatch z) v
 |tup ds =>
  let(a,B,rfl,E,_):=k;cases n;obtain⟨F,_,⟨o,G,J,_⟩,_⟩:=I.tuple E;exact X0 kitx_tuple I.mW #[o,G,J] e (λz=>nomatch z) v
 |lst ds =>
  let(a,B,rfl,E,_):=k;cases n;let(F,_,pl,_):=I.list E;let(o,G,J,_):=pl.isList;exact X0 kitx_list I.mW #[o,G,J] e (λz=>nomatch z) v
 |dct =>
  let(a,L,rfl,E):=k;subst n;let(_,_,N,_,p):=(show cO X.prog X.w H s.heap a _ from I.aX a _ E);let(o,P,U,G,J,_):=p;exact X0 kitx_dict I.mW #[o,G,J.1] e (λz=>nomatch z) v
end
def hide(a:Ê)(H:Hp):Hp:=λb=>if b=a then none else H b
theorem cL(a:Ê)(H:Hp):ag (hide a H) H:=λb o e=>by
 delta hide at e
 simp_all
theorem qS{a:Ê}{H c:Hp}(e:∀ b o,b≠a->H b=↑o->c b=↑o):ag (hide a H) (hide a c):=λb o h=>by
 delta hide at h ⊢
 simp_all
theorem pB{a b:Ê}{H:Hp}(h:H b=↑o)(n:b≠a):hide a H b=↑o:=by
 delta hide;rw[Zv n];exact h
end L2
namespace L2
open PySem PySem.Spec PyProof.Rows
def qT(a c:ý)(N own:Zj)(d:⇑(Str × Nat)):Bool :=
 a.kind == .function&&a.names.all (λy=>y.2 != .cell)&&a.names.all (λy=>y.2 != .local || a.names.lookup y.1 == ↑.local) &&
  a.names.all (λy=>y.2 != .free || (c.names.lookup y.1 == ↑.cell || c.names.lookup y.1 == ↑.free))&&d.all λp=>N[p.2]? == ↑p.1&&a.names.lookup p.1 == ↑.free
theorem dP.of{a scX:ý}{N own:Zj}(e:X.env.scope=scX)(c:X.N=N)(h:qT a scX N own d):dP X a own d:=by
 refine BB.b5 h λf g i j k=>?_;rw[VT] at g i j k;refine#[by simpa using f,λy l=>by simpa using g y l,λy l m=>?_,λy l n=>?_,λp o=>?_]
 .have:=i y l;simp_all
 .have:=j y l;show X.env.scope.names.lookup y.1=_\/X.env.scope.names.lookup y.1=_
  simp_all
 .rw[c];simpa using (k p o)
theorem gN{R:St->Hp->Prop}(h:R (σ.set i ↑v) H):lB i v σ H R:=h
theorem Ig{R:Bool->Hp->Prop}(h:R true H):Aw σ H R:=h
theorem pC{n:Nat}(h:n<=64):n<=sizeLine:=Í h (-0)
section
variable {X:Cx}
theorem Og(K:Å)(d:D):kitAny K (.type d.ty) [.type "tuple",.type "list"]=↑(Ib d.ty "tuple" || Ib d.ty "list"):=by
 unfold kitAny;rw[Ic K d _ ⋯];cases Ib d.ty _ with
 |true=>rfl
 |false =>
  show kitAny K _ _=_;unfold kitAny;rw[Ic K d _ ⋯];cases Ib d.ty _ <;> rfl
theorem FO:cA X (.builtin "isinstance") (λc H Q=>∃ d x a,c=[x,↥a]/\Ia X.K H d x/\dU X.K H a [.ty "tuple",.ty "list"]/\Q (.bl (Ib d.ty "tuple" || Ib d.ty "list")) H):=by
 intro f s g H c us Q I r h;let(d,x,a,rfl,j,k,q):=h;let(u,l,rfl,m,rt):=vals2 r;cases (show l=Wn a from rt);obtain⟨v,A,⟨⟨B,dd,C,sl⟩,E,F,n,G⟩,_⟩:=I.tuple k;subst F G;have J:v=[.type "tuple",.type "list"]:=by
  cases A with
  |cons p r=>cases r with
   |cons p2 r2=>cases r2;rw[show _=Wz _ from p,show _=Wz _ from p2]
 subst J;have e:=Og X.K d;have L:∀ N,EP X f g Q _ _:=λN=>#[.bl _,H,I.tok N,rfl,q];cases d with
 |cq=>subst j;subst m;exact kia_tup kitx_none I.mW True.intro E e (λz=>nomatch z) L|bl b=>subst j;subst m;exact kia_tup kitx_bool I.mW True.intro E e (λz=>nomatch z) L|int i=>subst j;let(t,rfl):=m;exact kia_tup kitx_int I.mW True.intro E e (λz=>nomatch z) L
 |str y=>subst j;let(t,rfl):=m;exact kia_tup kitx_str I.mW True.intro E e (λz=>nomatch z) L
 |tup ds =>
  let(b,ys,rfl,P,_):=j;cases m;obtain⟨_,_,⟨o,U,Y,_⟩,_⟩:=I.tuple P;exact kia_tup kitx_tuple I.mW #[o,U,Y] E e (λz=>nomatch z) L
 |lst ds =>
  let(b,ys,rfl,P,_):=j;cases m;let(_,_,pl,_):=I.list P;let(o,U,Y,_):=pl.isList;exact kia_tup kitx_list I.mW #[o,U,Y] E e (λz=>nomatch z) L
 |dct =>
  let(b,kvs,rfl,P):=j;subst m;let(_,_,vs,_,p):=(show cO X.prog X.w H s.heap b _ from I.aX b _ P);let(o,es,ep,U,Y,_):=p;exact kia_tup kitx_dict I.mW #[o,U,Y.1] E e (λz=>nomatch z) L
end
open PySem PySem.Spec PyProof.Rows PySem.SeqAt
theorem wQ(l b:Ê)(a:Array DictEntry)(n:Nat)(it:Zo)(n2:Nat)(c d:Zk)(sl e:Array Zn) :
  Meets (Xh.«dict.__ne__» #[[↥l,↥b],[]]) (λ_ R s=>s.heap.get? l=↑{ cls:=.type "dict",dict:=c,data:=.dict a n,slots:=sl }/\s.heap.get? b=↑{ cls:=.type "tuple",dict:=d,data:=.seq it n2,slots:=e }/\R (.ok (.ret .notImplemented)) s) :=
 .of_wp λf w A R s h=>by
  let(g,i,h):=h;have j:=F.sub_tuple_dict
  wp_walk using Xm g,Xm i
  exact#[_,rfl,h]
theorem wU(l b:Ê)(a:Array DictEntry)(n:Nat)(it:Zo)(n2:Nat)(c d:Zk)(sl e:Array Zn) :
  Meets (Xh.«tuple.__ne__» #[[↥b,↥l],[]]) (λ_ R s=>s.heap.get? l=↑{ cls:=.type "dict",dict:=c,data:=.dict a n,slots:=sl }/\s.heap.get? b=↑{ cls:=.type "tuple",dict:=d,data:=.seq it n2,slots:=e }/\R (.ok (.ret .notImplemented)) s) :=
 .of_wp λf w A R s h=>by
  let(g,i,h):=h;have j:=F.sub_dict_tuple
  wp_walk using Xm g,Xm i
  exact#[_,rfl,h]
section
variable {X:Cx}
theorem Lh(hu:X.A.units + 64 < WN):gQ X (VZ .NotEq) (λx y H Q=>∃ a b c d,x=↥a/\y=↥b/\H a=↑(.dK c)/\dU X.K H b d/\Q (.bl true) H):=by
 intro aa s σ H x y v u Q I f g h;let(a,b,c,d,rfl,rfl,i,j,q):=h;subst f;subst g;obtain⟨v2,r2,⟨k,l,c2,n2,m⟩,_⟩:=I.tuple j;let(_,_,vs,_,p):=(show cO X.prog X.w H s.heap a _ from I.aX a _ i);let(n,o,n1,r,c1,z,_):=p;have c1:=c1.1;let(B,C,E,sl):=n;let(G,J,L,N):=k;subst c1 z c2 m;refine rc_ne_decline_or  #[_,r,rfl] #[_,l,rfl] (-0) F.sub_tuple_dict F.slot_dict_ne F.slot_tuple_ne_refl
  (λ_ Y=>Wv F.slot_dict_ne #[_,r,rfl] F.entry_dict_ne (F.args_dict_ne_2 _ _) (wQ a b o n1 v2.toArray n2 C J sl N) #[r,l,Y])
  (λ_ Y=>Wv F.slot_tuple_ne_refl #[_,l,rfl] F.entry_tuple_ne (F.args_tuple_ne_2 _ _) (wU a b o n1 v2.toArray n2 C J sl N) #[r,l,Y])
  (λ_ Y=>wpAny_isSame_ref_other (λe=>by simp_all) r l ⋯ Y) (.inr (VA (VO _ _) hu)) #[.bl true,H,I,rfl,q]
end
end L2
namespace L2
open PySem PySem.Spec PyProof.Rows
section
variable {P:ð}{w:ú}{A:Vl}{E:Ä->É->Prop}{s:É}
abbrev Tw(h:þ)(l:Ê):Heap:=h.push { cls:=.type "tuple_iterator",data:=.fields [↥l,.int 0 0].toArray }
abbrev Tx(h:þ)(l:Ê):Heap:=(Tw h l).push { cls:=.type "enumerate",data:=.fields [.none,.bool false,↥h.objs.size,Wj 0,.none,.none].toArray }
set_option tactic.hygienic true in
theorem AG(l:Ê)(a:Zo) :
  Meets (Xh.«enumerate.__new__» #[[.type "enumerate",↥l],[]]) (λ_ R s=>s.heap.IsTuple l a/\R (.ok (.ret ↥(Tw s.heap l).objs.size)) { s with heap:=Tx s.heap l }) :=
 .of_wp λP w A R s h=>by
  let(e,g,d,f,i):=s;let(j,h):=h;have k:=sub_enumerate;have m:=j
  wp_walk;refine wpAny_stack_any λq=>Æ ?_;split
  .rename_i c _ _ _ _ _;cases (c == Wz "enumerate") <;> (wp_walk using WJ m) <;> exact#[_,rfl,h]
  .wp_walk using WJ m
   exact#[_,rfl,h]
theorem Ct(a:s.heap.IsTuple l xs)
  (h:∀ d,IsEnum d (s.heap.objs.size + 1) s.heap.objs.size 0 .none->d.IsTupleIter s.heap.objs.size l 0->(∀ c o,s.heap.get? c=↑o->d.get? c=↑o)->Q ↥(s.heap.objs.size + 1) { s with heap:=d }) :
  â (Ü P w) A (call (.type "enumerate") [↥l]) Q E s:=by
 refine callType_new F.called_enumerate (-0) (F.typeCall_enumerate_1 _) (F.newCall_enumerate_1 _) (λobj=>F.args_object_init_2 obj _) F.entry_enumerate_new (AG l xs) #[a,?_]
 have n1:(Tw s.heap l).objs.size=s.heap.objs.size + 1:=Xz ..;have e:(Tx s.heap l).get? _=↑_:=Ï _ rfl;rw[n1] at e;rw[n1];exact#[#[_,e,rfl],h _ e #[_,Â _ (Ï _ rfl),rfl,rfl] λc o q=>Â _ (Â _ q)]
theorem FP(a:A.handled=none){it l:Ê}(n:l≠it):Draws P w A it [it,l] xs.size (λi x=>xs[i]?=↑x) (λi h=>h.IsTupleIter it l i/\h.IsTuple l xs) where
 live:=λi h q=>by obtain⟨⟨o,e,_⟩,_⟩:=q;exact#[o,e]
 frame:=λi h c q k=>by
  obtain⟨⟨o,e,r⟩,⟨d,f,g⟩⟩:=q;exact#[#[o,k it ⋯ _ e,r],#[d,k l ⋯ _ f,g]]
 item:=λi s Q E j q k=>j5 q.1 q.2 (x:=xs[i]) (by simp[j]) λc m p=>k _ c s.toks (by simp[j]) #[m,q.2.extBut p.extBut n] p
 done:=λs Q E q k=>jc a q.1 q.2 ⋯ λc e m p=>k c e m p
end
theorem Ih{A:Vl}(b:Bool)(a:A.handled=none){it l:Ê}{xs:Zo}(n:l≠it):Draws P w A it [it,l] xs.size (λi x=>xs[i]?=↑x) (λi h=>lE b h it l i/\yG b h l xs):=match b with
 |true=>Draws.list a it l n xs|false=>FP a n
def SE(b:Bool)(K:Å)(a:Ê):It :=
 #[λi H=>∃ c x,Aj b K H a c/\c[i]?=↑x,
  λi H v d=>∃ T,v=↥T/\H T=none/\∀ c x,Aj b K H a c->c[i]?=↑x->d=upd H T (.tup [~~~i,x]),
  λi H=>∃ c,Aj b K H a c/\c.length=i]
theorem xA{P:ð}{w:ú}{K:Å}{es:Zm}{ek:Nat}{ep:Pos}{a e it:Ê}{b:Bool}(d:e≠it)(h2:a≠e)(h3:a≠it) :
  Turn P w K (.Tuple es ek ep) (SE b K a) [e,it] e (λi h=>(∃ f,IsEnum h e it i f)/\lE b h it a i) where
 mem:=⋯
 obj:=λi h j c l=>by
  obtain⟨⟨f,m⟩,j⟩:=j;let(o1,n,d1,_):=j.obj;simp only[VP,Vp,ZE] at l;rcases l with rfl | rfl
  .exact#[_,m,λv e=>by cases e]
  .exact#[_,n,d1]
 keep:=λi h h' j k=>by
  obtain⟨⟨f,m⟩,j⟩:=j;let(o1,n,_,r1):=j.obj;exact#[#[f,k e ⋯ _ m],r1 h' (k it ⋯ _ n)]
 item:=by
  intro X p hw r l i z s B H E I C j F;subst p hw r;let(xs,x,hq,hx):=F;let(v1,rv,p1,_,z1):=I.sQ hq;let(u,hu,ru):=rv.get hx;obtain⟨⟨f,m⟩,G⟩:=j;have hl:i < v1.toArray.size:=by simpa using (ç.mp hu).1
  refine wpAny_pyNext_enum_itemD (Ih (A:=X.A.in1) b (by exact I.ok.hd l) h3) m #[G,p1] hl d (by simp[d,h2.symm]) λy n J hy ge gs gT sz kp=>#[_,rfl,?_]
  have L:v1[i]?=↑y:=by simpa using hy
  rw[hu] at L;cases L;refine wpAny_letOwnedTupleGo_enum (s:={ s with heap:=n,toks:=J + 1 }) ge λN ge2 sb=>?_;have hT:H s.heap.objs.size=none:=I.aX.fresh (Ò _);have U:∀ c o,c ∉ [e,it]->s.heap.get? c=↑o->N.get? c=↑o:=λc o l q=>by
   simp only[VP,Vp,ZE,not_or] at l;exact sb.extBut _ _ l.1 (kp c o l.1 l.2 q)
  have I2:Inv X z B H { s with heap:=N,toks:=J + 1 }:=I.tE (t':=J + 1) C U;have fT:lC X z H s.heap.objs.size:=I.oh (Ò _) hT;have gT2:N.get? s.heap.objs.size=↑{ cls:=.type "tuple",data:=.seq [.int i J,u].toArray }:=sb.extBut _ _ (λq=>VH _ (by have:=é m;rw[<-q] at this;exact this)) gT
  have I3:Inv X z B (upd H s.heap.objs.size (.tup [~~~i,x])) { s with heap:=N,toks:=J + 1 }:=I2.DJ fT I.sz (I2.aX.HF hT (aw:=[.int i J,u]) (.cons #[_,rfl] (.cons ru .nil)) (by show 2<=sizeLine;rw[VD];decide) #[_,gT2,rfl,_,rfl])
  refine#[↥s.heap.objs.size,_,I3,rfl,#[_,rfl,hT,λxs' x' e1 e2=>?_],#[#[_,ge2],by let(o,q1,_,q2):=gs.1.obj;exact q2 _ (sb.extBut _ _ d.symm q1)],λc l=>?_]
  .rw[z1 _ e1] at e2;rw[hx] at e2;cases e2;rfl
  .rw[ah]
   .exact(C c l).1
   .intro q;simp only[VP,Vp,ZE] at l;rcases l with l | l
    .exact VH _ (by have:=é m;rw[<-l,q] at this;exact this)
    .let(o,ho,_):=lE.obj G;exact VH _ (by have:=é ho;rw[<-l,q] at this;exact this)
 done:=by
  intro X p hw r l i z s B H E I C j F;subst p hw r;let(xs,hq,rfl):=F;let(v1,rv,p1,_,z1):=I.sQ hq;obtain⟨⟨f,m⟩,G⟩:=j;refine wpAny_pyNext_enum_endD (Ih (A:=X.A.in1) (xs:=v1.toArray) b (by exact I.ok.hd l) h3) m #[by rw[show v1.toArray.size=xs.length by simpa using rv.length.symm];exact G,p1] λg kp=>#[rfl,I.tE (t':=s.toks) C λc o Y q=>?_]
  simp only[VP,Vp,ZE,not_or] at Y;exact kp c o Y.2 q
 self:=λ_ _ _ _ _ j h=>by obtain⟨⟨_,m⟩,_⟩:=j;exact wpAny_pyIter_enum m h
def MX(K:Å)(c:TA):TI:=λd H R=>c d H λe f=>∃ b a,e=[↥a]/\(∃ g,Aj b K f a g)/\R (SE b K a) f
theorem uT(d:yG b s.heap l xs)
  (h:∀ e,IsEnum e (s.heap.objs.size + 1) s.heap.objs.size 0 .none->lE b e s.heap.objs.size l 0->(∀ c o,s.heap.get? c=↑o->e.get? c=↑o)->Q ↥(s.heap.objs.size + 1) { s with heap:=e }) :
  â (Ü P w) A (call (.type "enumerate") [↥l]) Q E s:=match b,d,h with
 |true,d,h=>call_enumerate_list d λe a b _ c=>h e a b c|false,d,h=>Ct d h
theorem xB:Vk "enumerate"=↑(.type "enumerate"):=by decide +kernel
theorem Li{p pos:Pos}(d:Gl X "enumerate")(f:X.mg "enumerate"=none)(g:PA X [a] i)(hs:VC [a] X.env=[(false,eval a X.env)]:=by rfl) :
  PI X (.Tuple j k l) (.Call (.Name "enumerate" p) [a] [] pos) (MX X.K i):=by
 intro m s n H R I h;refine Call_ (gI I d f xB (Vo (cF (g pos m s n H _ I h) λus s1 #[o,H1,v,w,x]=>?_) (by rw[hs];rfl) (by rfl)))
 obtain⟨b,y,e,⟨z,A⟩,q⟩:=x;subst e;let(u,rfl,r):=vals1 w;subst r;let(v1,B,C,E,_):=v.sQ A;refine uT C λF G J L=>wpAny_pyIter_enum  G ?_;refine#[_,_,_,_,H1,rfl,v.kept  L,xA (Nat.succ_ne_self _) (Û (Wa E)) (Û E),#[#[_,G],J],λc N=>?_,q];have P:s1.heap.objs.size<=c:=by
  simp[VP,Vp,ZE] at N;rcases N with rfl | rfl
  .simp_all
  .exact Ò _
 exact v.oh P (v.aX.fresh P)
end L2
namespace HT
open PySem PySem.W PyProof.Rows
set_option maxRecDepth 100000
section
variable {P:ð}{w:ú}{A:Vl}{E:Ä->É->Prop}{s:É}
theorem wV{a b c:Int}{n:Nat}(hh:A.handled=none)(hr:IsRange s.heap r a b c t u v)(hs:Builtin.Range.small a b c=true)(hn:V7 a b c=n)(hl:n<=2 ^ 24)
  (hQ:∀ (h':þ) (tk:Nat) (acc:Zo),(∀ b o,s.heap.get? b=↑o->h'.get? b=↑o)->s.heap.objs.size<=h'.objs.size->ItemsOf (λi v=>∃ t,v=.int (a + i * c) t) acc n->Q acc.toList { s with heap:=h',toks:=tk }):â (Ü P w) A (collect ↥r) Q E s:=by
 refine À (wpAny_runValue (Wr PySem.F.entry_proto_collect ?_));refine À (Vn (Æ #[plainId_quiet PySem.F.plain_list_iadd _,Wr PySem.F.entry_list_iadd ?_]));have hS:(s.heap.push _).get? s.heap.objs.size=↑{ cls:=.type "list",data:=.seq [].toArray 0 }:=Ï _ rfl;refine VY (wpAny_extend_range   (R:=λx s'=>x=.ok _/\∃ h' tk acc c',s'={ s with heap:=h',toks:=tk }/\(∀ b o,s.heap.get? b=↑o->h'.get? b=↑o)/\h'.get? s.heap.objs.size=↑{ cls:=.type _,dict:=none,data:=.seq acc c',slots:=[].toArray }/\ItemsOf _ acc n) hh (Â _ hr) hs hn hl _ _ 0 hS λh' tk acc c' hk hS' hi=>#[rfl,h',tk,acc,c',rfl,λb o e=>hk b o (Û (é e)) (Â _ e),hS',hi]) (λfin s' h=>?_) λe s' h=>?_
 .have go:∀ s',(∃ h' tk acc c',s'={ s with heap:=h',toks:=tk }/\(∀ b o,s.heap.get? b=↑o->h'.get? b=↑o)/\h'.get? s.heap.objs.size=↑{ cls:=.type "list",dict:=none,data:=.seq acc c',slots:=[].toArray }/\ItemsOf (λi v=>∃ t,v=.int (a + i * c) t) acc n)->â (Ü P w) A (match Wn s.heap.objs.size with
   |Wn a=>do
    match (<-load a).data with
     |Data.seq xs _=>pure xs.toList|_=>unsupported "internal:collect"
   |_=>unsupported "internal:collect") Q E s':=λs' #[h',tk,acc,c',e,hk,hS',hi]=>by
   subst e;exact À (wpAny_load hS' (Æ (hQ h' tk acc hk (so (é hS')) hi)))
  cases fin with
  |done f =>
   let(e,h):=h;cases e;exact go _ h
  |again c'=>exact#[h.1,Xg h.2 λx s'' hx=>by let(rfl,hx):=hx;exact go _ hx]
 .exact absurd h.1 ⋯
open AutoSeq1 (wpAny_loadPart')
theorem sT{a b c:Int}{n:Nat}(d:A.handled=none)(e:IsRange s.heap r a b c t u v)(hs:Builtin.Range.small a b c)(f:V7 a b c=n)(g:n<=200000)
  (h:∀ (j:þ) (k:Nat) (l:Zo),(∀ b o,s.heap.get? b=↑o->j.get? b=↑o)->s.heap.objs.size<=j.objs.size->ItemsOf (λi v=>∃ t,v=.int (a + i * c) t) l n->Q ↥j.objs.size { s with heap:=j.push { cls:=.type "tuple",data:=.seq l },toks:=k }) :
  Wy (Ü P w) A (.call (.builtin "tuple.__new__") #[[.type "tuple",↥r],[]]) (wants Q E) s:=by
 apply codeAny_of_tree;refine À (wpAny_of_eq (PySem.F.newCall_tuple_1 _) (Æ #[plainId_quiet PySem.F.plain_tuple_new _,Wr PySem.F.entry_tuple_new ?_]));rw[Around.under_plainId PySem.F.plain_tuple_new _];have m:=sub_tuple_self;have p:=init_tuple_lookup;have q:=madeHere_tuple
 wp_walk using Xe x,wV  (show A.in1.handled=none from d) e hs f ∅
 intro j k l y hz z;show â _ _ (tupleExact l.toList.toArray >>= λv=>ret v) _ _ _;refine À (Vn (Æ (h j k l y hz z)) (by show l.size<=_;rw[z.1,VD];omega))
theorem tuple_range{a b c:Int}{n:Nat}(d:A.handled=none)(e:IsRange s.heap r a b c t u v)(hs:Builtin.Range.small a b c)(f:V7 a b c=n)(g:n<=200000)
  (h:∀ (j:þ) (k:Nat) (l:Zo),(∀ b o,s.heap.get? b=↑o->j.get? b=↑o)->s.heap.objs.size<=j.objs.size->ItemsOf (λi v=>∃ t,v=.int (a + i * c) t) l n->Q ↥j.objs.size { s with heap:=j.push { cls:=.type "tuple",data:=.seq l },toks:=k }):â (Ü P w) A (call (.type "tuple") [↥r]) Q E s:=by
 refine callType_codes (Q₁:=λobj m=>m.TypeIs obj _/\Q obj m) PySem.F.called_tuple (PySem.F.typeCall_tuple_1 _) PySem.F.entry_object_init (sT d e hs f g λj k l p hz q=>#[#[_,Ï _ rfl,rfl],h j k l p hz q]) λobj m x=>?_;exact#[x.1,PySem.F.args_object_init_2 obj _,object_init_meets PySem.F.called_tuple.init.lookup PySem.F.called_tuple.made (-0) P w A.in1 _ m #[x.1,rfl,x.2]]
end
end HT
namespace L2
open PySem PySem.Spec PyProof.Rows
theorem cO.there(x:cO P w H h a o):∃ u,h.get? a=↑u:=by
 cases o with
 |lst c=>let(_,_,_,_,e):=x;exact#[_,e]
 |tup c=>let(_,_,_,o,e,_):=x;exact#[_,e]
 |dK d=>let(_,_,_,_,o,_,_,e,_):=x;exact#[_,e]
 |dT d=>let(_,_,_,_,o,_,_,e,_):=x;exact#[_,e]
 |set S n=>let(o,_,_,_,e,_):=x;exact#[_,e]
 |ins C g fs=>let(_,_,_,e,_):=x;exact#[_,e]
 |own y=>let(_,e):=x;exact#[_,e]
 |xd fs=>obtain⟨_,⟨_,_,_,e,_⟩,_⟩:=x;exact#[_,e]
 |Kh i j=>let(_,_,_,e):=x;exact#[_,e]
 |frz k u=>let(e,_):=x;exact#[_,e]
 |dk l=>exact#[_,(show h.get? a=↑_ from x)]|met f y=>exact#[_,(show h.get? a=↑_ from x)]|ext m=>obtain⟨_,⟨_,e⟩,_⟩:=x;exact#[_,e]
def QX(B:þ)(fs:Zp)(a:Hp)(h c:þ):Prop:=∀ b u,c.get? b=↑u->b ∉ fs->((∃ o,h.get? b=↑o)\/a b≠none)->B.get? b=↑u
inductive rP (P:Program) (w:World) (outer:⇑Env) (H:Hp) (s:Shared) (E:XK) (e:Value) (s':Shared):Prop where
 |mk (a:Addr) (cls a0:Value) (H':Hp) (B:Heap) (h0_:e=↥a) (h1_:s'.os=s.os) (h2_:AllBare s'.gens) (h3_:Un (fw outer) [] H H' s.heap s'.heap) (h4_:jV P w H' s'.heap) (h5_:Heap.FlyingW B outer a cls a0 s'.heap) (h6_:H' a=none) (h7_:QX B (fw outer) H' s.heap s'.heap) (h8_:E cls ↑a H'):rP P w outer H s E e s'
section
variable {X:Cx}{aa:⇑(Ê × Obj)}{σ:St}{H H':Hp}{s s':É}{B h'':þ}{a:Ê}{cls a0:Ä}{E:XK}
theorem yJ(hS:X.stack=X.env::X.outer)(d:X.ex=[])(hf:X.env.frame=↑X.env.locals)(I:Inv X aa σ H s)(os:s'.os=s.os)(bare:AllBare s'.gens)(un:Un (fw X.stack) [] H H' s.heap s'.heap)(f:jV X.prog X.w H' s'.heap)
  (g:QX B (fw X.stack) H' s.heap s'.heap) (na:H' a=none) (fl:Heap.FlyingW B X.outer a cls a0 h'') (sm:s'.heap.UpToSlots h'') (he:E cls ↑a H'):rP X.prog X.w X.outer X.H₀ X.s₀ E ↥a { s' with heap:=h'' }:=by
 have h:fw X.stack=X.env.locals::fw X.outer:=by unfold fw;simp_all
 have i:=I.base;rw[d] at i;have U :=(i.mono (λb j=>by rw[h];simp_all) λb j=>j).trans un
 have k:∀ b o,X.s₀.heap.get? b=↑o->b ∉ fw X.outer->b ∉ fw X.stack:=λb o e l m=>by
  rw[h] at m;rcases ì.mp m with z | z
  .exact absurd (é e) (by rw[z];exact Nat.not_lt.mpr I.ok.above)
  .exact l z
 have p:∀ b∈fw X.stack,H' b=none:=λb j=>by
  let(_,o,r,_):=I.stack.mem j;exact un.free b o r (I.gU b j) ⋯
 have v:∀ b o,X.s₀.heap.get? b=↑o->b ∉ fw X.outer->∃ u,s'.heap.get? b=↑u/\B.get? b=↑u:=λb o e l=>by
  let(x,y):=i.there b o e ⋯
  let(A,C):=un.there b x y ⋯
  exact#[A,C,g b A C (k b o e l) (.inl #[x,y])]
 have MK:∀ b,H' b≠none->∃ u,s'.heap.get? b=↑u/\B.get? b=↑u:=λb j=>by
  let(o,e):=Option.ne_none_iff_exists'.mp j;let(u,F):=(f b o e).there;exact#[u,F,g b u F (λm=>by rw[p b m] at e;cases e) (.inr j)]
 refine#[a,cls,a0,H',B,rfl,os.trans I.os,bare,#[λb o e n j _=>?_,λb o e n j _=>?_,λb o e n j=>U.free b o e n j,λb o e _=>?_,U.tups,U.frzs,U.tbls],λc o e=>?_,fl,na,λb u e l G=>?_,he]
 .let(u,y,C):=v b o e j;have J:=U.keep b o e n (k b o e j) ⋯
  rw[y] at J;cases J;exact fl.1 b _ C
 .let(sl,y):=U.slot b o e n (by rw[h];simp_all) ⋯
  let(_,K,L,hd):=I.ok.ll.mem j;rw[e] at L;cases L;let(N,C):=sm b _ y hd;exact#[N,C]
 .by_cases j:b∈fw X.outer
  .let(_,K,L,_):=fl.2.2.1.mem j;exact#[K,L]
  .let(u,_,C):=v b o e j;exact#[u,fl.1 b _ C]
 .refine(f c o e).jv (λb u j q=>?_) (λ_ q=>q) λ_ _ q=>q;have P:H' b≠none:=by grind
  let(Y,y,C):=MK b P;rw[q] at y;cases y;exact fl.1 b _ C
 .have:∃ Y,B.get? b=↑Y:=by
   rcases G with ⟨o,r⟩ | G
   .let(Y,_,C):=v b o r l;exact#[Y,C]
   .let(Y,_,C):=MK b G;exact#[Y,C]
  let(Y,C):=this;have J:=fl.1 b _ C
  simp_all
end
section
variable {P:ð}{w:ú}{K:Å}{mg:Str->Zn}{base:þ}{N:Zj}{qual:Str}{scope:ý}{f:Ê}{cd:Ä}{A:Vl}{outer:⇑Env}{s₀:É}{H₀:Hp}{E:XK}
theorem FQ(I:Inv (jx (rP P w) P w K mg base N qual scope f cd A outer s₀ H₀ E) c σ H s)(d:Heap.MadeExcOf s.heap g e cls h)(i:E cls ↑e H) :
  (jx (rP P w) P w K mg base N qual scope f cd A outer s₀ H₀ E).xe ↥e { s with heap:=g }:=by
 refine wpAny_leaves_madeW   I.ok.frames rfl (λb o q=>of_hideAll _ q) (PySem.W.funFrames_hide I.stack (λk i a l=>List.mem_filterMap.mpr #[k,i,l])) d λn t fl _ _ p=>?_;refine yJ   rfl rfl rfl I rfl I.bare (Un.kept d.keeps) (I.aX.kept d.keeps) (λb u q x y=>?_) (by
  cases z:H e with
  |none=>rfl|some o=>let(u,v):=(I.aX e o z).there;rw[d.new] at v;cases v) fl p i;let(o,B):=(by
  rcases y with y | y
  .exact y
  .let(o,z):=Option.ne_none_iff_exists'.mp y;exact(I.aX b o z).there:∃ o,s.heap.get? b=↑o);have C :=q;rw[d.keeps b o B] at C;cases C;exact hideAll_get _ B x
theorem QY:Passes (rP P w) (jx (rP P w) P w K mg base N qual scope f cd A outer s₀ H₀ E) E:=by
 intro c d H s e g I h;let(a,i,j,k,B,rfl,l,bare,un,m,fl,n,o,p):=h;refine wpAny_leaves_onW I.ok.frames rfl fl λq r u=>?_;exact yJ   rfl rfl rfl I l bare un m o n r u p
end
set_option tactic.hygienic true in
theorem Lj{K:Å}{h:þ}{C:Ê}{bmB:Zi}{newId:String}(KX:K.In h)(hq:Yy K C bmB newId=true) :
  ∃ bm N nm q bs hdct sn sub ab col dd k0 k1 k2 k3 k5 mN,h.get? C=↑(excClassObj nm q C N bs bm hdct sn sub ab col dd k0 k1 k2 k3 k5 newId)/\h.Ns N mN/\mN "__init__"=none/\OwnTail h bmB bm:=by
 delta Yy at hq
 split at hq
 case h_2=>cases hq
 case h_1 dd cd sl ho =>
  split at hq
  case h_2=>cases hq
  case h_1 C' bm k0 k1 k2 k3 n k5 hm hs =>
   simp[Á,Zx,ò] at hq;obtain⟨⟨⟨⟨⟨z1,z2⟩,hdel⟩,ht⟩,aX⟩,hni⟩:=hq;subst z1 z2;cases cd with
   |mk nm bs mro ns qn hd sn sub ab col del =>
    dsimp only at hm hdel aX hni;subst hm hdel;have esl:sl=[k0,k1,k2,k3,↑(.builtin n),k5].toArray:=by cases sl with | mk l=>simp only at hs;rw[hs]
    subst esl;refine#[bm,ns,nm,qn,bs,hd,sn,sub,ab,col,dd,k0,k1,k2,k3,k5,h.nsMap ns,KX _ _ ho,?_,PySem.W.nsMap_none_of_in KX aX hni,PySem.W.tail_of_in KX ht];exact .of_isNs (PySem.W.isNs_of_in KX aX)
def uU(X:Cx)(E:XK):Prop:=∀ (a:⇑(Ê × Obj)) (c:St) (H:Hp) (s:É) (d:þ) (e:Ê) (f:Ä) (g:Zi),Inv X a c H s->Heap.MadeExcOf s.heap d e f g->E f ↑e H->X.xe ↥e { s with heap:=d }
theorem FU{P:ð}{w:ú}{K:Å}{a:Str->Zn}{c:þ}{N:Zj}{d:Str}{e:ý}{f:Ê}{g:Ä}{A:Vl}{h:⇑Env}{i:É}{j:Hp}{E:XK} :
  uU (jx (rP P w) P w K a c N d e f g A h i j E) E:=λ_ _ _ _ _ _ _ _ I k l=>FQ I k l
def Oh(E:XK)(C:Ê)(t:TA):TS:=λ_ a H=>t a H λc d=>c.length<=sizeLine/\∀ e,d e=none->E ↥C ↑e d
section
variable {X:Cx}{x:Str}{C:Ê}{E:XK}{e₀:Þ}{rest:Zm}{t:TA}{np cpos pos:Pos}
theorem Ii(a:uU X E)(c:X.calm)(d:Gl X x)(f:X.mg x=↑↥C)(g:Yy X.K C [.type "ValueError",.type "Exception",.type "BaseException",.type "object"] "ValueError.__new__")(i:PA X (e₀::rest) t)
  (j:(x == ("__debug__":Str))=false:=by decide) (l:VC (e₀::rest) X.env=(false,eval e₀ X.env)::VC rest X.env:=by rfl) (m:(backTo cpos (VC rest X.env)).any (·.1)=false:=by rfl) :
  PS X (.Raise ↑(.Call (.Name x np) (e₀::rest) [] cpos) none pos) (Oh E C t):=by
 intro n s p H D I h;let(bm,N,v,q,bs,w,y,sub,ab,A,B,G,k1,k2,k3,k5,mN,hC,hN,J,T):=Lj I.ok.mod.kin g;refine wpAny_Raise_call_subT  (nm:=v) (q:=q) (N:=N) (bs:=bs)  (hdct:=w) (sn:=y) (sub:=sub) (ab:=ab) (col:=A) (dd:=B) (k0:=G) (k1:=k1) (k2:=k2) (k3:=k3) (k5:=k5)
  PySem.F.excBase_ValueError  (T.hasType PySem.F.excBase_ValueError.hasBase) (I.ok.hd c) (by rw[l];exact m) J (mZ I d f #[rfl,?_] j)
 have k:=i cpos n s p H _ I h;rw[l] at k ⊢;refine Calls.evalArgs_plain (cF k λus s2 #[vs,L,P,r,z,q]=>#[rfl,by rw[<-r.length];exact z,P.bk _ _ hC,hN.keeps P.bk,T.keeps P.bk,λh' e U=>?_])
 refine a n p L s2 h' e _ us P U (q e ?_);cases z:L e with
 |none=>rfl|some o=>let(u,Y):=(P.aX e o z).there;rw[U.new] at Y;cases Y
end
open PySem PySem.Spec PyProof.Rows PySem.W PySem.Builtin PySem.Builtin.ObjectAttr PySem.Builtin.Getset_descriptor
section
variable {prog:ð}{w:ú}{A:Vl}{E:Ä->É->Prop}{K:Å}{h:þ}{gg:Array GenState}{d:Drawn}{t:Nat}{os:OsState}{x D:Ê}{ox:Obj}
structure eS(K:PySem.W.Frag)(D:Addr):Prop where
 ga:findIn K ↥D "__getattribute__"=↑↑(.builtin "BaseException.__getattribute__")
 gh:findIn K ↥D "__getattr__"=↑none
 mb:mroIn K D (.type "BaseException")=↑true
 mo:mroIn K D (.type "object")=↑true
 fc:findIn K ↥D "__class__"=↑↑(.builtin "object.__class__")
 fg:specialIn K (.builtin "object.__class__") "__get__"=↑↑(.builtin "getset_descriptor.__get__")
 ft:takesIn K (.builtin "object.__class__")=↑true
def excAt(a D:Ê)(h:þ):Prop:=∃ ox,h.get? a=↑ox/\ox.cls=↥D
theorem excAt.ty{M:Model}{a D:Ê}(p:excAt a D h):Looks M h (typeOf ↥a) ↥D:=by
 let(ox,e,c):=p;rw[<-c];exact(Looks.ld e).andThen .now
theorem Ij{M:Model}(a:K.In h)(L:eS K D):Looks M h (find ↥x ↥D "__class__") (.bind (.builtin "getset_descriptor.__get__") (.builtin "object.__class__")):=by
 have c:=looks_takesIn (M:=M) a L.ft;have e:Looks M h (dataDescriptor? ↑_ ↑_) ↑(.builtin "getset_descriptor.__get__",.builtin _):=c.andThen .now;exact(looks_findIn a L.fc).andThen ((looks_specialIn a L.fg).andThen (e.andThen (Looks.tag .now)))
theorem Lk{R:Result->É->Prop}{tp:Ä}(KX:K.In h)(I:excAt x D h)(hm:mroIn K D (.type "object")=↑true)(hq:R (.ok (.ret ↥D)) #[h,gg,d,t,os]) :
  Wy (Ü prog w) A (.call (.builtin "getset_descriptor.__get__") #[[.builtin "object.__class__",↥x,tp],[]]) R #[h,gg,d,t,os]:=by
 have L0:=I.ty (M:=Ü prog w);have L1:=looks_mroIn (M:=Ü prog w) KX hm
 (refine codeAny_call_builtin KF.slot_gs.plain KF.entry_gs (KF.slot_gs.check _ _ _ _ _ _ _ _ KF.type_class (KF.args_gs _ _ _) ?_);delta Xh.«getset_descriptor.__get__» descrGet;rw[dga_obj];refine À (Æ ?_);delta descrGetter descrCheckInstance descrNameAndClass isInstance;simp only[KF.owner_class];repeat lk)
 (refine#[Code.quiet_builtin _ (by decide +kernel),Wr KF.entry_class ?_];repeat lk)
 exact hq
theorem FV{M:Model}{nameV:Ä}{Q:Unit->É->Prop}(KX:K.In h)(I:excAt x D h)(L:eS K D)(hq:Q () #[h,gg,d,t,os]) :
  â M A (checkBuiltinCall "BaseException.__getattribute__" #[[↥x,nameV],[]]) Q E #[h,gg,d,t,os]:=by
 have L0:=I.ty (M:=M);have L1:=looks_mroIn (M:=M) KX L.mb;refine À (À (L0.at (L1.at ?_)))
 repeat (first | assumption | wp_step)
theorem FW(a:K.In h)(I:excAt x D h)(L:eS K D)(c:Q (.done (.ret ↥D)) #[h,gg,d,t,os]) :
  â (Ü prog w) A (Xh.«object.__getattribute__» #[[↥x,.str "__class__" e],[]]) Q E #[h,gg,d,t,os]:=by
 have f:=I.ty (M:=Ü prog w);have g:=Ij (M:=Ü prog w) (x:=x) a L;refine À (Æ (À (Æ (À (f.at (À (g.at ?_)))))));refine À (Vw (wpAny_call (Lk a I L.mo ?_)));exact Æ c
theorem Ik{R:Result->É->Prop}(a:K.In h)(I:excAt x D h)(L:eS K D)(c:R (.ok (.ret ↥D)) #[h,gg,d,t,os]) :
  Wy (Ü prog w) A (.call (.builtin "BaseException.__getattribute__") #[[↥x,.str "__class__" e],[]]) R #[h,gg,d,t,os] :=
 codeAny_call_builtin F.attr_ValueError.ga.plain F.entry_bexc_ga (FV a I L (FW a I L c))
theorem Oi{fill expr:Bool}(KX:K.In h)(I:excAt x D h)(L:eS K D)(hq:Q ↥D #[h,gg,d,t,os]) :
  â (Ü prog w) A (getAttrBy ↥x (.str "__class__" tk) fill expr) Q E #[h,gg,d,t,os]:=by
 have L0:=I.ty (M:=Ü prog w);have L1:=looks_findIn (M:=Ü prog w) KX L.ga;have L2:=looks_findIn (M:=Ü prog w) KX L.gh;have f3:=F.attr_ValueError.ga.bind ↥x;have hno:(expr&&onTheHeap (Value.builtin "BaseException.__getattribute__"))=false:=by cases expr <;> rfl
 (refine Vw (À (L0.at (À (L1.at ?_)))));
 refine À (L2.at ?_)
 repeat (any_goals (first | assumption | (with_reducible refine wpAny_call (Ik KX I L ?_)) | wp_step))
theorem Il(a:K.In s.heap)(I:excAt x D s.heap)(L:eS K D)(c:Q ↑↥D { s with toks:=s.toks + 1 }):â (Ü prog w) A (getAttr? ↥x "__class__") Q E s:=by
 refine À (wpAny_mkText (À (wpAny_attempt (Oi a I L ?_))));exact Æ c
theorem AH(L:eS K D)(hd:hasDictIn K D=true):KitX K ↥x ↥D (excAt x D) where
 ty:=λ_ _ _ I=>I.ty
 it:=λM h KX _=>by
  let(cdD,hcD,_):=any_some hd;unfold clsIn at hcD;split at hcD
  case h_2=>cases hcD
  case h_1 ho =>
   intro A' Q' E' s' k q;unfold isType loadHead;exact À (wpAny_loadPart (k _ _ (KX _ _ ho)) (Æ q))
 ne:=λh tp dd aw n sl KX htp=>by
  let(cdD,hcD,_):=any_some hd;refine Bool.eq_false_iff.mpr λsame=>?_;cases Wn.inj (Zx.mp same);unfold clsIn at hcD;split at hcD
  case h_2=>cases hcD
  case h_1 ho=>cases (KX _ _ ho).symm.trans htp
 ca:=λKX I k=>Il KX I L k
end
def FY(H:Hp)(a D:Ê):Prop:=H a=↑(.ext (excAt a D))
theorem Cu{a D:Ê}(h:excAt a D d)(k:∀ o,d.get? a=↑o->f.get? a=↑o):excAt a D f:=by
 let(g,e,c):=h;exact#[g,k _ e,c]
section
variable {X:Cx}
theorem Cv:cA X (.builtin "isinstance") (λd H Q=>∃ (a D:Ê) (c:V) (f:Ä) (b:Bool),d=[↥a,c]/\((∃ C,c=↥C/\f=↥C)\/∃ T,c=.ty T/\f=.type T)/\FY H a D/\eS X.K D/\hasDictIn X.K D/\kitOne X.K ↥D f=↑b/\Q (.bl b) H):=by
 intro g s i H d j Q I r h;let(a,D,c,f,b,rfl,k,l,L,m,e,q):=h;let(u,n,rfl,o,rt):=vals2 r;cases (show u=Wn a from o);let(p,_,_):=(show cO X.prog X.w H s.heap a _ from I.aX a _ l);have y:n=f:=by
  rcases k with ⟨C,rfl,rfl⟩ | ⟨T,rfl,rfl⟩
  .exact rt
  .exact rt
 subst y;exact kia_one (AH L m) I.mW p e (λz=>by grind) (λx=>#[.bl b,H,I.tok x,rfl,q])
end
end L2
namespace L2
open PySem PySem.Spec PyProof.Rows
section
variable {X:Cx}{aa:⇑(Ê × Obj)}{σ:St}{H H':Hp}{s s':É}{B h4:þ}
theorem Im(I:Inv X aa σ H s)(a:s'.os=s.os)(bare:AllBare s'.gens)(un:Un (fw X.stack) [] H H' s.heap s'.heap)(d:jV X.prog X.w H' s'.heap)(f:QX B (fw X.stack) H' s.heap s'.heap)(g:B.StaysIn h4)(h:s'.heap.UpToSlots h4) :
  Inv X aa σ H' { s' with heap:=h4 }:=by
 have l:∀ b o,s.heap.get? b=↑o->b∈fw X.stack->∃ sl,h4.get? b=↑{ o with slots:=sl }:=λb o e j=>by
  let(sl,m):=un.slot b o e (I.gU b j) j ⋯
  let(_,p,r,v):=I.stack.mem j;rw[e] at r;cases r;let(x,y):=h b _ m v;exact#[x,y]
 have z:∀ b o,s.heap.get? b=↑o->b ∉ fw X.stack->∃ u,s'.heap.get? b=↑u/\h4.get? b=↑u:=λb o e A=>by
  let(C,y):=un.there b o e ⋯
  exact#[C,y,g b _ (f b C y A (.inl #[o,e]))]
 refine I.G6   a #[λb o e n j _=>?_,λb o e n j _=>l b o e j,un.free,λb o e _=>?_,un.tups,un.frzs,un.tbls] (λc o e=>?_) bare λb j=>absurd j ⋯
 .let(u,m,y):=z b o e j;have E:=un.keep b o e n j ⋯
  simp_all
 .by_cases j:b∈fw X.stack
  .let(sl,m):=l b o e j;exact#[_,m]
  .let(u,_,y):=z b o e j;exact#[u,y]
 .refine(d c o e).jv (λb u j q=>?_) (λ_ q=>q) λ_ _ q=>q;have F:H' b≠none:=by grind
  exact g b _ (f b u q (λG=>F ((λb j=>by
  let(_,o,k,_):=I.stack.mem j;exact un.free b o k (I.gU b j) ⋯:∀ b∈fw X.stack,H' b=none) b G)) (.inr F))
theorem Inv.DY(I:Inv X aa σ H s)(a:∀ (i:Nat) (x:Str) (v:V),X.N[i]?=↑x->σ[i]?=↑↑v->Fx X.env.scope x->∃ u,RelV v u/\Look X.env s.heap m x u)
  (f:g.Ns X.env.locals h) (hs:Yw X.env.locals s.heap g) (j:∀ (i:Nat) (x:Str),X.N[i]?=↑x->h x=m x):Inv X aa σ H { s with heap:=g,toks:=t' }:=by
 have w:∀ b o,b≠X.env.locals->s.heap.get? b=↑o->g.get? b=↑o:=λb o y e=>(hs.2 b y).trans e;have A:∀ b o,X.s₀.heap.get? b=↑o->b≠X.env.locals:=λb o e=>Û (Ñ (é e) I.ok.above);have C:∀ x c v,X.env.cells.lookup x=↑c->s.heap.IsCell c v->g.IsCell c v:=λx c v e #[o,E,hd]=>#[o,w c o (I.Fy x c e) E,hd];refine#[I.ok,I.os,I.bare,#[λb o e n y F=>w b o (A b o e) (I.base.keep b o e n y F),λb o e n y F=>?_,I.base.free,λb o e F=>?_,I.base.tups,I.base.frzs,I.base.tbls],#[h,f,λi x v G J K=>?_],λx c e=>?_,I.free,I.freeC,λp L=>?_,λc o e=>?_,I.len]
 .let(sl,G):=I.base.slot b o e n y F;exact#[sl,w b _ (A b o e) G]
 .let(P,G):=I.base.there b o e F;exact#[P,w b _ (A b o e) G]
 .let(u,r,l):=a i x v G J K;refine#[u,r,?_];rcases l with ⟨k,z⟩ | ⟨k,c,U,z⟩
  .exact .inl #[k,(j i x G).trans z]
  .exact .inr #[k,c,U,C x c _ U z]
 .let(v,z):=I.cell x c e;exact#[v,C x c v e z]
 .let(e,n,ne,Y,d):=I.pin p L;exact#[w _ _ ne e,n,ne,Y,d]
 .refine(I.aX c o e).jv (λb u y q=>w b u (λz=>?_) q) (λ_ q=>q) λ_ _ q=>q;rcases y with rfl | y
  .rw[z,I.free] at e;cases e
  .rw[z,I.free] at y;cases y
theorem Inv.Cw{T:Ê}{o:HO}(I:Inv X aa σ H s)(a:H T=none)(n0:X.s₀.heap.get? T=none)(d:T≠X.env.locals)(f:∀ x c,X.env.cells.lookup x=↑c->c≠T)(g:∀ p∈X.pn++aa,p.1≠T)(new:cO X.prog X.w (upd H T o) s.heap T o) :
  Inv X aa σ (upd H T o) s:=by
 have u:=I.base;refine#[I.ok,I.os,I.bare,#[u.keep,u.slot,λb h e n i=>?_,u.there,λb j e=>?_,λb h j e=>?_,λb k e=>?_],I.loc,I.cell,?_,λx c e=>?_,λp l=>?_,λc v e=>?_,I.len]
 .rw[ah (λz=>by grind)];exact u.free b h e n i
 .have z:=u.tups b j e;rw[ah (aD z a)];exact z
 .have z:=u.frzs b h j e;rw[ah (aD z a)];exact z
 .let(m,z):=u.tbls b k e;exact#[m,by rw[ah (aD z a)];exact z]
 .rw[ah d.symm];exact I.free
 .rw[ah (f x c e)];exact I.freeC x c e
 .let(e,n,r):=I.pin p l;exact#[e,by rw[ah (g p l)];exact n,r]
 .by_cases y:c=T
  .subst y;rw[aB] at e;cases e;exact new
  .rw[ah y] at e;exact(I.aX c v e).jv (λ_ _ _ q=>q) (λb q=>by rw[ah (aD q a)];exact q) λb j q=>by rw[ah (aD q a)];exact q
end
structure pD(P:Program)(w:World)(K:PySem.W.Frag)(mg:Str->Option Value)(base:Heap)(CX:G2)(k:Nat)(f:Addr)(fd:FuncData)(ps:⇑Str)(sp:Shared->Sp):Prop where
 len:∀ s vs H Q E,sp s vs H Q E->vs.length=ps.length
 run:∀ (A:Around) (outer:⇑Env) (s:Shared) (H:Hp) (args:Args) (us:⇑Value) (vs:⇑V) (Q:VK) (E:XK),eG k A->wK P w K mg base A outer s H->BindsTo s fd args (ps.zip us)->Vals vs us->sp s vs H Q E ->
  codeAny (model P w) A (.call ↥f args) (CR CX outer P w H s Q E) s
theorem Oj{a:G2}{P:ð}{w:ú}{K:Å}{c:Str->Zn}{d:þ}{k:Nat}{f:Ê}{g h:Str}{i:Yl}{j:⇑V9}{l:ý}{dV kV m pm p ct oc:Ä}{an od:Zk}
  {osl:Array Zn}{N ps:Zj}{sp:É->Sp} (lk:K.lookup f=↑#[oc,od,.func (fnOf g h i j l dV kV m pm an p ct),osl]) (hcd:PySem.W.codeIn K p h) (S:fy N ps l)
  (len:∀ s z H Q E,sp s z H Q E->z.length=ps.length)
  (B:∀ (A:Vl) (C:⇑Env) (s:É) (H:Hp) (z:⇑V) (Q:VK) (E:XK),eG k (A.deeper (envOfC h l s.heap.objs.size f p))->sp s z H Q E ->
   ∃ t,eV (jx a P w K c d N h l f p A C s H E) j t/\t { nx:=λ_ F=>Q .cq F,rt:=Q } (start N z) H) :
  pD P w K c d a (k + 1) f (fnOf g h i j l dV kV m pm an p ct) ps sp:=by
 refine#[len,λA C s H args us z Q E hr G hb r L=>?_];have KX :=G.mod.kin.keeps λb o e=>(G.bs b o e).1;have lim :=G.mod.nolimit.keeps λb o e=>(G.bs b o e).1;refine codeAny_call_function hr.depth (KX _ _ lk) rfl S.co S.gen rfl (codeRec_of KX hcd) (hb _ _ _ _ ?_);refine wpAny_newFunctionEnv_cells S.kind (λ#[n,v] hy=>by
  rcases S.par n (of_mem_zip hy).1 with q | q
  .exact .inl q
  .exact .inr #[q,cellsFrom_some _ _ _ (.inl q)]) λenv he s1 x=>?_;subst he;refine#[lim.keeps x.toInCall.keep,codeAny_func ?_];let(t,ht,hq):=B A C s H z Q E (hr.deeper _) L;refine VY (ht [] s1 _ H _ (xn S hr.hd G (len _ _ _ _ _ L) r x) hq) (λfl s' hs=>?_) λe s' hs=>hs;have X:∀ {Y:St}{F:Hp}{v:V}{u:Ä},Inv (jx a P w K c d N h l f p A C s H E) [] Y F s'->RelV v u->Q v F->CE C P w H s Q u s' :=
  λ{Y F v u} J rv q=>#[v,F,J.os,J.bare,J.base,J.aX,rv,q]
 cases fl with
 |ret u =>
  let(v,Y,F,J,rv,q):=hs;exact X J rv q
 |next =>
  let(Y,F,J,q):=hs;exact X (v:=V.cq)  J rfl q
 |brk =>
  let(_,_,_,q):=hs;exact tv q
 |cont =>
  let(_,_,_,q):=hs;exact tv q
theorem Hy.U5{P:ð}{w:ú}{K:Å}{a:Str->Zn}{c:þ}{x d:Str}{e:V9}{f:Ê}{fd:V2}{N g:Zj}{k:Nat}{i:É->Sp}(F:Hy K x d e f fd)(S:fy N g (bA e))(len:∀ s j H Q E,i s j H Q E->j.length=g.length)
  (l:∀ (m:Ä) (A:Vl) (n:⇑Env) (s:É) (H:Hp) (j:⇑V) (Q:VK) (E:XK),eG k (A.deeper (envOfC d (bA e) s.heap.objs.size f m))->i s j H Q E ->
   ∃ t,eV (jx Au P w K a c N d (bA e) f m A n s H E).Sz (fz e) t/\t { nx:=λ_ o=>Q .cq o,rt:=Q } (start N j) H):pD P w K a c Au (k + 1) f fd g i:=by
 let(p,r,kV,u,v,y,m,z,B,rfl,lk,C):=F.ex;refine Oj lk C S len λA n s H j Q E G I=>?_;let(t,h,q):=l m A n s H j Q E G I;exact#[t,h.Sz,q]
def kK(P:ð)(w:ú)(K:Å)(mg:Str->Zn)(base:þ)(N:Zj)(qual:Str)(scope:ý)(f:Ê)(cd:Ä)(cl:⇑(Str × Ê))(A:Vl)(outer:⇑Env)(s:É)(H:Hp)(E:XK):Cx where
 prog:=P
 w:=w
 K:=K
 mg:=mg
 base:=base
 A:=A.deeper (envX qual scope s.heap.objs.size f cd cl)
 N:=N
 s₀:=s
 H₀:=H
 env:=envX qual scope s.heap.objs.size f cd cl
 outer:=outer
 stack:=envX qual scope s.heap.objs.size f cd cl::outer
 ex:=[]
 calm:=true
 fn:=λ_=>false
 pn:=[]
 xe:=λe s'=>â (Ü P w) (A.deeper (envX qual scope s.heap.objs.size f cd cl)) (leaving (envX qual scope s.heap.objs.size f cd cl) e) (λ_ s''=>rP P w outer H s E e s'') (λe' s''=>rP P w outer H s E e' s'') s'
section
variable {P:ð}{w:ú}{K:Å}{mg:Str->Zn}{base:þ}{N:Zj}{qual:Str}{scope:ý}{f:Ê}{cd:Ä}{cl:⇑(Str × Ê)}{A:Vl}{outer:⇑Env}{s₀:É}{H₀:Hp}{E:XK}
theorem yK:Passes (rP P w) (kK P w K mg base N qual scope f cd cl A outer s₀ H₀ E) E:=by
 intro c d H s e g I h;let(a,i,j,k,B,rfl,l,bare,un,m,fl,n,o,p):=h;refine wpAny_leaves_onW I.ok.frames rfl fl λq r u=>?_;exact yJ   rfl rfl rfl I l bare un m o n r u p
structure iS(scope:Scope)(cl:⇑(Str × Addr))(N:⇑Str)(vs:⇑V)(H:Hp)(h:Heap):Prop where
 inj:∀ x y c,cl.lookup x=↑c->cl.lookup y=↑c->x=y
 has:∀ x,(scope.names.lookup x=↑.cell\/scope.names.lookup x=↑.free)->∃ c,cl.lookup x=↑c
 cell:∀ x c,cl.lookup x=↑c->∃ v,h.IsCell c v
 free:∀ x c,cl.lookup x=↑c->H c=none
 val:∀ (i:Nat) (x:Str) (v:V),N[i]?=↑x->vs[i]?=↑v->scope.names.lookup x=↑.free/\∃ c u,cl.lookup x=↑c/\RelV v u/\h.IsCell c ↑u
 len:vs.length=N.length
theorem Ll(a:wK P w K mg base A outer s₀ H₀)(d:A.handled=none)(e:scope.kind=.function)(g:iS scope cl N j H₀ s₀.heap)(l:m.Ns s₀.heap.objs.size λ_=>none)
  (n:∀ b o,s₀.heap.get? b=↑o->m.get? b=↑o) :
  Inv (kK P w K mg base N qual scope f cd cl A outer s₀ H₀ E) [] (j.map some) H₀ { s₀ with heap:=m,toks:=t }:=by
 have q:∀ b ,b ∉ (kK P w K mg base N qual scope f cd cl A outer s₀ H₀ E).ex:=λb z=>absurd (show b∈([]:Zp) from z) ⋯
 have s:∀ c v,s₀.heap.IsCell c v->m.IsCell c v:=λc v #[o,y,d]=>#[o,n c o y,d];refine#[#[a.mod,e,rfl,rfl,Ò _,g.inj,g.has,(λ_ _ z=>nomatch z),(λ_=>d),Around.frames_deeper a.frames,.inr #[rfl,rfl],λb z=>absurd z (q b),a.bs,a.bsz,λb _ _=>q b,λb z=>absurd z (q b),a.ll,a.frf],
  rfl,a.bare,Un.kept n,#[_,l,λi x v B C F=>?_],λx c h=>?_,a.aX.fresh (Ò _),g.free,λp G=>absurd (show p∈([]:⇑_) from G) ⋯,a.aX.kept n,?_]
 .let(k,c,u,I,r,z):=g.val i x v B (by simp_all);exact#[u,r,.inr #[.inr k,c,I,s c _ z]]
 .let(v,z):=g.cell x c h;exact#[v,s c v z]
 .rw[Ã];exact g.len
end
def recAt(c:Ê)(a:Str):þ->Prop:=λh=>h.CodeRec ↥c a
theorem j7(h:recAt c qual a)(k:∀ o,a.get? c=↑o->d.get? c=↑o):recAt c qual d:=by
 let(f,g,i,j,e,l,m,n):=h;cases e;exact#[c,g,i,j,rfl,k _ l,m,n]
section
variable {P:ð}{w:ú}{K:Å}{mg:Str->Zn}{base:þ}{N:Zj}{qual:Str}{scope:ý}{f c':Ê}{cl:⇑(Str × Ê)}{s₀:É}{H₀:Hp}{k:Nat}{pm ctv cls:Ä}{params:Yl}{body:Þ}{vs:⇑V}
theorem iS.later{a:⇑Env}{H:Hp}{s:É}(d:iS scope cl N vs H₀ s₀.heap)(un:Un (fw a) [] H₀ H s₀.heap s.heap):iS scope cl N vs H s.heap:=by
 have g:∀ x c v,cl.lookup x=↑c->s₀.heap.IsCell c v->s.heap.IsCell c v:=λx c v e #[o,h,hd]=>by
  let(sl,j):=un.any h (d.free x c e) ⋯
  exact#[_,j,hd]
 refine#[d.inj,d.has,λx c e=>?_,λx c e=>?_,λi x v l m=>?_,d.len]
 .let(v,z):=d.cell x c e;exact#[v,g x c v e z]
 .let(v,o,h,_):=d.cell x c e;exact un.free c o h (d.free x c e) ⋯
 .let(k,c,u,n,r,z):=d.val i x v l m;exact#[k,c,u,n,r,g x c _ n z]
end
def Tab(H:Hp)(P:Ê)(a:Str):Prop:=∃ d:Zo,H P=↑(.dk d)/\TriplesOk d.toList/\∀ pos c,YI pos d.toList=↑c->∃ e,c=↥e/\H e=↑(.ext (recAt e a))
theorem uV{line col:Int}{pos':Pos}{c c2:Ä}(tl:Zi)(h:TriplesOk tl)(e:YI pos' (tl++[Wj line,Wj col,c])=↑c2):c2=c\/YI pos' tl=↑c2:=by
 fun_induction TriplesOk tl with
 |case1 =>
  dsimp only [Yr,YI,Wj] at e
  simp_all
 |case2 a t b u x rest ih =>
  dsimp only [cons_append,YI] at e ⊢;split at e
  .rename_i hc;rw[Zu hc];exact .inr e
  .rename_i hc;rw[Zv hc];exact ih h e
 |case3 tl h1 h2=>exact h.elim
theorem AI(a:∀ y∈d.names,y.2=.free->∃ c,env.cells.lookup y.1=↑c):∃ cl,closureFor d env=pure cl/\(∀ x c,cl.lookup x=↑c->env.cells.lookup x=↑c)/\∀ y∈d.names,y.2=.free->∃ c,cl.lookup y.1=↑c:=by
 let(cl,e,f,_,g):=tD env d.names [] a (λx c z=>by simp at z)
 refine#[cl,?_,f,g]
 delta closureFor
 simp_all
structure iT(P:Addr)(H H':Hp):Prop where
 same:∀ b o,b≠P->H b=↑o->H' b=↑o
section
variable {X:Cx}{aa:⇑(Ê × Obj)}{σ:St}{H:Hp}{s:É}{c P:Ê}{qual:Str}{params:Yl}{body:Þ}{bJ:ý}{lpos:Pos}{A:Vl}{Q:Ä->É->Prop}{E:Ä->É->Prop}
theorem pE(I:Inv X aa σ H s)(hdef:defaultsOf params X.env=([],[]))(a:X.env.code=↥c)(hhd:Vy X.K c P)(TB:Tab H P qual)(hqu:X.env.qual++"<lambda>"=qual)
  (hbm:∃ bm d,X.mg "__builtins__"=↑↥bm/\bm≠WK/\X.base.get? bm=↑d/\d.cls=.type "module"/\d.dict=↑WK/\d.data=.plain)
  (hfr:∀ y∈bJ.names,y.2=.free->∃ c,X.env.cells.lookup y.1=↑c)
  (k:∀ (cl:⇑(Str × Ê)) (f g:Ê) (pm h:Ä) (h2:þ) (i:Tok) (H2:Hp),(∀ x c,cl.lookup x=↑c->X.env.cells.lookup x=↑c)->(∀ y∈bJ.names,y.2=.free->∃ c,cl.lookup y.1=↑c) ->
   Inv X aa σ H2 { s with heap:=h2,toks:=i }->Tab H2 P qual->iT P H H2->(∃ o,h2.get? f=↑o/\o.data=.func (kla_fn "<lambda>" qual params body bJ cl pm ↥g h))->H2 f=none->H2 g=↑(.ext (recAt g qual))->s.heap.objs.size<=f ->
   Q ↥f { s with heap:=h2,toks:=i }):â (Ü X.prog X.w) A (eval (.Lambda params body bJ lpos) X.env) Q E s:=by
 apply kla_eval hdef;rw[hqu];let(cl,ecl,cl1,cl2):=AI hfr;let(ps,j,ht,l):=TB;have v :=I.aX P _ j;have hg:=I.mod.glob.keeps I.bk;have bsN:∀ b o,X.base.get? b=↑o->b≠P:=λb o e z=>by have:=(I.bs b o e).2;simp_all
 let(bm,d,b1,b2,b3,b4,b5,b6):=hbm;have BA:s.heap.BuiltinsAt X.mg P:=#[bm,d,b1,b2,λq=>by
  let(o,es,ep,e,hd,_):=I.mod.glob
  grind,bsN _ _ b3,I.bk _ _ b3,b4,b5,b6];have CH:=codeHd_of_K I.mW hhd;cases B:YI lpos ps.toList with
 |some cv =>
  let(g,rfl,hc'):=l lpos cv B;refine PySem.W.kla_makeFunctionHit ecl I.ok.glob hg a CH v ht B BA λh C i hk hsz=>?_;have F:∀ b o,s.heap.get? b=↑o->(C.push { cls:=.type "function",data:=.func (kla_fn "<lambda>" qual params body bJ cl ((X.mg "__name__").getD .none) ↥g h) }).get? b=↑o:=λb o e=>Â _ (hk b o e);exact k cl C.objs.size g _ h _ i H cl1 cl2 (I.kept  F) #[ps,j,ht,l] #[λ_ _ _ e=>e] #[_,Ï _ rfl,rfl] (I.aX.fresh hsz) hc' hsz
 |none =>
  refine PySem.W.kla_makeFunction ecl I.ok.glob hg a CH v ht B (by let(o,_,_,e,_):=I.mod.glob;exact bsN _ o e) BA λg h C i hx G hlt hrec htb=>?_;have lP :=é v;have cP :=XD (Ñ lP G);have nC :=I.aX.fresh G;have F:∀ b o,b≠P->s.heap.get? b=↑o->(C.push (kla_obj "<lambda>" qual params body bJ cl ((X.mg "__name__").getD .none) g h)).get? b=↑o:=λb o J e=>Â _ (hx b o J e);have tb:(C.push (kla_obj "<lambda>" qual params body bJ cl ((X.mg "__name__").getD .none) g h)).get? P=↑_:=Â _ htb;have rc:recAt g qual (C.push (kla_obj "<lambda>" qual params body bJ cl ((X.mg "__name__").getD .none) g h)):=j7 hrec λo q=>Â _ q;have L:upd (upd H P (.dk (ps++[Wj lpos.line,Wj lpos.col,↥g].toArray))) g (.ext (recAt g qual)) P=↑(.dk (ps++[Wj lpos.line,Wj lpos.col,↥g].toArray)):=by rw[ah cP.symm];exact aB
  have N:∀ b,b≠P->b≠g->upd (upd H P (.dk (ps++[Wj lpos.line,Wj lpos.col,↥g].toArray))) g (.ext (recAt g qual)) b=H b:=λb h1 h2=>by rw[ah h2,ah h1]
  have U:∀ b o,H b=↑o->b≠g:=λb o e=>aD e nC;have I2:Inv X aa σ (upd (upd H P (.dk (ps++[Wj lpos.line,Wj lpos.col,↥g].toArray))) g (.ext (recAt g qual))) { s with heap:=C.push (kla_obj "<lambda>" qual params body bJ cl ((X.mg "__name__").getD .none) g h),toks:=i }:=by
   have nP:∀ b,H b=none->b≠P:=λb n z=>by rw[z,j] at n;cases n
   refine I.step   (ch:=[]) (λb J=>absurd J ⋯) (λb o _ _ _ e n=>F b o (nP b n) e) (λb o _ _ _ e n=>#[o.slots,F b o (nP b n) e]) (λb o _ e n=>?_) (λb o _ e=>?_) (λb xs e=>?_) (λb o u e=>?_) (λb qs e=>?_) (λm hm=>?_) (λb u e=>?_) I.bare
   .rw[N b (nP b n) (Û (Ñ (é e) G))];exact n
   .by_cases J:b=P
    .subst J;exact#[_,tb]
    .exact#[o,F b o J e]
   .rw[N b (λz=>by rw[z,j] at e;cases e) (U b _ e)];exact e
   .rw[N b (λz=>by rw[z,j] at e;cases e) (U b _ e)];exact e
   .by_cases J:b=P
    .subst J;rw[j] at e;cases e;exact#[_,L]
    .exact#[[].toArray,by rw[N b J (U b _ e),e];simp]
   .let(o,es,ep,ho,r):=hm;exact#[o,es,ep,F _ o (nP _ I.free) ho,r]
   .by_cases hbc:b=g
    .subst hbc;rw[aB] at e;cases e;let(_,oc,_,_,e1,e2,_):=id rc;cases e1;exact#[rc,#[oc,e2],λh1 h2 p kk=>j7 p kk]
    .by_cases J:b=P
     .subst J;rw[L] at e;cases e;exact tb
     .rw[N b J hbc] at e;refine(I.aX b u e).jv (λb2 u2 hb2 q=>F b2 u2 (λz=>?_) q) (λb2 q=>?_) λb2 xs q=>?_
      .rcases hb2 with y | y
       .exact J (y.symm.trans z)
       .rw[z,j] at y;cases y
      .rw[N b2 (λz=>by rw[z,j] at q;cases q) (U b2 _ q)];exact q
      .rw[N b2 (λz=>by rw[z,j] at q;cases q) (U b2 _ q)];exact q
  have lf :=so (VA G hlt);refine k cl C.objs.size g _ h _ i _ cl1 cl2 I2 #[_,L,?_,λpos cc e=>?_] #[λb o J e=>by rw[N b J (U b _ e)];exact e] #[_,Ï _ rfl,rfl] ?_ aB lf
  .rw[toList_append];exact TriplesOk_snoc _ _ _ _ ht
  .rw[toList_append] at e;rcases uV _ ht e with z | z
   .exact#[g,z,aB]
   .let(c2,rfl,Y):=l pos cc z;exact#[c2,rfl,by rw[N c2 (λy=>by rw[y,j] at Y;cases Y) (U c2 _ Y)];exact Y]
  .rw[N _ (XD (Ñ lP lf)) (XD hlt)];exact I.aX.fresh lf
end
def BMain(a:Str->Zn)(h:þ):Prop:=∃ bm c,a "__builtins__"=↑↥bm/\bm≠WK/\h.get? bm=↑c/\c.cls=.type "module"/\c.dict=↑WK/\c.data=.plain
theorem Ol:Passes (rP P w) X (λ_ _ _=>False):=λ_ _ _ _ _ _ _ h=>by
 let(_,_,_,_,_,_,_,_,_,_,_,_,_,e):=h;exact e.elim
theorem Tab.same{H a:Hp}(t:Tab H P q)(s:ag H a):Tab a P q:=by
 let(d,e,f,h):=t;refine#[d,s _ _ e,f,λpos c g=>?_];let(i,j,k):=h pos c g;exact#[i,j,s _ _ k]
def Om(P:ð)(w:ú)(a:Hp)(e:É)(f:Ê)(fd:V2):Prop:=∀ (g:⇑Env) (s:É) (H:Hp),Un (fw g) [] a H e.heap s.heap->ag a H->jV P w H s.heap->∃ c d sl,s.heap.get? f=↑#[c,d,.func fd,sl]
theorem Om.new{fd:V2}(a:∃ o,g.heap.get? f=↑o/\o.data=.func fd)(i:j f=none):Om P w j g f fd:=λk s H un _ _=>by
 obtain⟨⟨c,d,l,sl⟩,e,m⟩:=a;subst m;let(sl,h):=un.any e i ⋯
 exact#[_,_,sl,h]
structure j8(P:Program)(w:World)(K:PySem.W.Frag)(mg:Str->Option Value)(base:Heap)(k:Nat)(f:Addr)(H₀:Hp)(s₀:Shared)(cls:Value)(RR:Hp->Prop):Prop where
 fn:∃ fd,Om P w H₀ s₀ f fd
 run:∀ (A:Around) (outer:⇑Env) (s:Shared) (H:Hp),eG k A->wK P w K mg base A outer s H->Un (fw outer) [] H₀ H s₀.heap s.heap->ag H₀ H ->
  codeAny (model P w) A (.call ↥f ⟨[],[]⟩) (CR (rP P w) outer P w H s (λ_ _=>False) λc _ H'=>c=cls/\RR H') s
def QZ(X:Cx)(i j:Nat)(f C:Ê)(c:Hp->Prop):TS:=λD d H=>d[i]?=↑↑↥f/\ag X.H₀ H/\∀ a e,c e->e a=none->D.nx (d.set j ↑↥a) (upd e a (.ext (excAt a C)))
section
variable {X:Cx}{k i j:Nat}{f C D:Ê}{x y z n:Str}{p1 p2 p3 p4 p5 p6 p7 p8 p9:Pos}
theorem FZ(hx0:X.ex=[])(hS:X.stack=X.env::X.outer)(hf:X.env.frame=↑X.env.locals)(hr:eG k X.A)(th:j8 X.prog X.w X.K X.mg X.base k f X.H₀ X.s₀ ↥C RR)
  (hy:X.N[i]?=↑y) (vy:Fx X.env.scope y) (dy:(y == ("__debug__":Str))=false) (cy:(y == ("__classdict__":Str))=false)
  (hg:Gl X x) (hm:X.mg x=↑↥D) (dx:(x == ("__debug__":Str))=false) (he:PySem.W.exmOne X.K ↥C ↥D=↑true)
  (hn:X.env.kindOf n=↑.local) (nN:n ∉ X.N) (dn:(n == ("__debug__":Str))=false) (hN:X.N.Nodup) (hz:X.N[j]?=↑z) (lz:Loc X.env.scope z) (hfn:X.fn z) :
  PS X (.Try [.Expr (.Call (.Name y p1) [] [] p2) p3] [.ExceptHandler ↑(.Name x p4) ↑n [.Assign [.Name z p5] (.Name n p6) p7] p8] [] [] p9) (QZ X i j f C RR):=by
 intro aa s σ H Dd I h;let(eσ,sH,q):=h;have U0:Un (fw X.stack) [] X.H₀ H X.s₀.heap s.heap:=by
  have u:=I.base;rw[hx0] at u;exact u.mono (λb d=>by rw[hS];delta fw;rw[VM,hf];exact Î _ d) λb d=>d
 let(fd,hfd):=th.fn;let(c0,d0,sl,hof):=hfd X.stack s H U0 sH I.aX;have g:(X.env.scope.kind == .class || (X.env.scope.kind == .module&&X.env.locals != X.env.globals))=false:=by rw[I.ok.kind];rfl
 refine wpAny_Try_except (wpAny_execs_cons ?_);refine wpAny_Expr_any ?_ I.quiet rfl;apply Xx;apply (λ{Q E} F=>by
  let(m,hnm,hl):=I.loc;let(u,r,l):=hl i y _ hy eσ vy;cases (show u=Wn f from r);rcases l with ⟨hk,hv⟩ | ⟨hk,c,hc,G⟩
  .exact X9 (WM I.ok.kind hk hnm hv F) dy
  .rcases hk with hk | hk
   .exact X9 (wpAny_loadName_cell I.ok.kind hk hc G F) dy
   .exact X9 (wpAny_loadName_free I.ok.kind hk hc G F cy) dy:∀ {Q:Ä->É->Prop}{E:Ä->É->Prop},Q _ s->â (Ü X.prog X.w) X.A (eval (.Name y p1) X.env) Q E s);refine PySem.W.callWith_of (P:=λh=>h.get? f=↑_) rfl (λh e=>#[_,.inl rfl,?_]) (evalArgs_nil3 #[hof,?_])
 .exact(PySem.W.Looks.ld  e).andThen .now
 refine wpAny_call (Xg (th.run X.A X.stack s H hr I.Ht U0 sH) λr s1 F=>?_);cases r with
 |ok fl =>
  cases fl with
  |ret u=>let(_,_,_,_,_,_,_,z):=F;exact z.elim
  |next=>exact tv F
  |brk=>exact tv F|cont=>exact tv F
 |error e =>
  let(a,cls,a0,H1,B,rfl,os1,J,un,aX,fl,na,bB,rfl,s1H):=F;have nA:s.heap.get? a=none:=by
   cases ea:s.heap.get? a with
   |none=>rfl
   |some o =>
    exfalso;let(L,vs,hoe,_,hde,_):=fl.first;by_cases d:a∈fw X.stack
    .let(sl',U):=un.slot a o ea (I.gU a d) d ⋯
     let(_,o',ho',hd'):=I.stack.mem d;rw[ea] at ho';cases ho';rw[hoe] at U;cases U;exact hd' vs hde
    .have:=bB a L hoe d (.inl #[o,ea]);rw[fl.2.1] at this;cases this
  have n0:X.s₀.heap.get? a=none:=by
   cases ea:X.s₀.heap.get? a with
   |none=>rfl
   |some o =>
    let(o',U):=U0.there a o ea ⋯
    rw[nA] at U;cases U
  have aL:a≠X.env.locals:=λz=>by
   obtain⟨m,⟨o,_,_,ho,_⟩,_⟩:=I.loc;rw[z,ho] at nA;cases nA
  have aC:∀ x c,X.env.cells.lookup x=↑c->c≠a:=λx c e z=>by
   let(v,o,ho,_):=I.cell x c e;rw[z,nA] at ho;cases ho
  have aP:∀ p∈X.pn++aa,p.1≠a:=λp hp z=>by
   have:=(I.pin p hp).1;rw[z,nA] at this;cases this
  refine wpAny_looks_onW (I.ok.frames.trans (by rw[hS])) hf (by rw[<-hS];exact fl) λh2 held2 sm2=>?_
  refine wpAny_landsW held2 λh3 fl3 sm3=>?_;have I3 :=Im I os1 J un aX bB fl3.1 (sm2.trans sm3);have at3:excAt a C h3:=by let(L,U,e2):=fl3.there;exact#[L,U,e2]
  refine wpAny_handleBy_cons (codeAny_handlers_test ?_) (λz=>nomatch z);refine Calls.Name_function_global I3.ok.kind hg (Calls.loadGlobal_global (by rw[I3.ok.glob];exact I3.mod.glob.keeps I3.bk) hm ?_) dx
  refine(PySem.W.exm_one  I3.mW at3.ty he).here ?_;refine codeAny_handlers_suite_as (lands_againW fl3 λh4 fl4 sm4=>?_);have I4 :=Im I os1 J un aX bB fl4.1 ((sm2.trans sm3).trans sm4);have at4:excAt a C h4:=by let(L,U,e2):=fl4.there;exact#[L,U,e2]
  let(m4,hn4,hl4):=id I4.loc;refine W7 hn hn4 (λh5 hn5 hs5=>?_) g;have Y:∀ (i) (x),X.N[i]?=↑x->x≠n:=λi x e z=>nN (by rw[<-z];exact ë e)
  have I5:Inv X aa σ H1 { s1 with heap:=h5,toks:=s1.toks + 1 }:=Inv.DY (s:={ s1 with heap:=h4 }) I4 hl4 hn5 hs5 λi x e=>Zv (Y i x e);refine wpAny_execs_cons (wpAny_Assign_Name ?_ rfl);refine X9 (WM I.ok.kind hn hn5 (Zu rfl) ?_) dn;refine mY (v:=↥a) I5 hN hz lz rfl (λs6 I6 hsame=>?_) (.inl hfn);refine wpAny_execs_nil ?_;let(m6,hn6,hl6):=id I6.loc;refine wpAny_nameGoes_keeps hn hn6 g λh7 v7 hn7 hs7=>?_;have I7:=Inv.DY (t':=s6.toks + 1) I6 hl6 hn7 hs7 λi x e=>Zv (Y i x e);have at7:excAt a C h7:=by
   let(L,U,e2):=at4;let(b6,hb6,hor):=hsame;have e5 :=(hs5.2 a aL).trans U;have e6 :=(hb6.2 a (λz=>by
    rcases hor with y | y
    .exact aL (z.trans y)
    .exact aC _ _ y z.symm)).trans e5
   exact#[L,(hs7.2 a aL).trans e6,e2]
  have nT :=na;have I8:=Inv.Cw  (o:=.ext _) I7 nT n0 aL aC aP #[at7,by let(L,U,_):=at7;exact#[L,U],λh1 h2 p kk=>Cu p kk]
  exact#[_,_,I8,q a H1 s1H na]
end
section
variable {P:ð}{w:ú}{K:Å}{mg:Str->Zn}{base:þ}{N:Zj}{qual:Str}{scope:ý}{f c':Ê}{cl:⇑(Str × Ê)}{s₀:É}{H₀:Hp}{k:Nat}{pm ctv cls:Ä}{params:Yl}{body:Þ}{vs:⇑V}
theorem oo(a:Om P w H₀ s₀ f (kla_fn "<lambda>" qual params body scope cl pm ↥c' ctv))(d:H₀ c'=↑(.ext (recAt c' qual)))
  (g:scope.kind=.function) (h:scope.isCoroutine=false) (i:scope.isGenerator=false) (j:∀ x∈scope.names,x.2≠.cell)
  (l:bindArgs (kla_fn "<lambda>" qual params body scope cl pm ↥c' ctv) #[[],[]]=pure []) (m:iS scope cl N vs H₀ s₀.heap)
  (n:∀ (A:Vl) (p:⇑Env) (s:É) (H:Hp),eG k (A.deeper (envX qual scope s.heap.objs.size f ↥c' cl))->ag H₀ H ->
   ∃ t,PE (kK P w K mg base N qual scope f ↥c' cl A p s H λc _ q=>c=cls/\r q) body t/\t (vs.map some) H λ_ _=>False) :
  j8 P w K mg base (k + 1) f H₀ s₀ cls r:=by
 refine#[#[_,a],λA p s H u B un C=>?_];let(c0,d0,sl,E):=a p s H un C B.aX;have G :=B.mod.nolimit.keeps λb o e=>(B.bs b o e).1;apply PySem.W.kla_callFunE u.depth E rfl h i rfl ((B.aX c' _ (C _ _ d)).1);rw[l];refine Æ (wpAny_newFunctionEnv j (λy J=>absurd J ⋯) (λL U X=>#[G.fresh _ X,?_]) g)
 let(t,ht,hq):=n A p s H (u.deeper _) C;have I:Inv (kK P w K mg base N qual scope f ↥c' cl A p s H λc _ q=>c=cls/\r q) [] _ H { s with heap:=L,toks:=s.toks + 0 }:=Ll B u.hd g (m.later un) U (λb o e=>X.extBut b o (Û (é e)) (Â _ e));refine PySem.W.kla_codeExpr (VY (ht [] _ _ H _ I hq) (λv s' hv=>?_) λe s' he=>he);let(_,_,_,_,z):=hv;exact z.elim
end
section
variable {X:Cx}{c P f:Ê}{fd:V2}{qual g par:Str}{N:Zj}{params:Yl}{body:Þ}{bJ:ý}{lpos p pos:Pos}{k kr:Nat}{cls:Ä}{sp:É->Sp}
end
def fnAt(f:Ê)(fd:V2):þ->Prop:=λh=>∃ o,h.get? f=↑o/\o.data=.func fd
theorem xC(h:fnAt f fd a)(k:∀ o,a.get? f=↑o->c.get? f=↑o):fnAt f fd c:=by
 let(o,e,d):=h;exact#[o,k _ e,d]
theorem Om.at(h:a f=↑(.ext (fnAt f fd))):Om P w a s₀ f fd:=λg s H _ i j=>by
 obtain⟨⟨⟨c,d,k,sl⟩,e,l⟩,_⟩:=j f _ (i _ _ h);subst l;exact#[_,_,_,e]
def MZ(X:Cx)(P:Ê)(a:Str)(d:Yl)(e:Þ)(g:ý):TE:=λh H Q=>Tab H P a/\∀ (cl:⇑(Str × Ê)) (f i:Ê) (j k:Ä) (l:Hp),(∀ x c,cl.lookup x=↑c->X.env.cells.lookup x=↑c)->(∀ y∈g.names,y.2=.free->∃ c,cl.lookup y.1=↑c) ->
 Tab l P a->iT P H l->H f=none->l f=↑(.ext (fnAt f (kla_fn "<lambda>" a d e g cl j ↥i k)))->l i=↑(.ext (recAt i a))->Q ↥f l
section
variable {X:Cx}{c P:Ê}{qual:Str}{params:Yl}{body:Þ}{bJ:ý}{lpos:Pos}
theorem Oo(a:X.env.code=↥c)(d:Vy X.K c P)(g:X.env.qual++"<lambda>"=qual)(i:defaultsOf params X.env=([],[]))
  (j:∃ bm l,X.mg "__builtins__"=↑↥bm/\bm≠WK/\X.base.get? bm=↑l/\l.cls=.type "module"/\l.dict=↑WK/\l.data=.plain)
  (n:∀ y∈bJ.names,y.2=.free->X.env.kindOf y.1=↑.cell):PE X (.Lambda params body bJ lpos) (MZ X P qual params body bJ):=by
 intro aa s σ H Q I h;let(r,q):=h;refine pE I i a d r g j (λy hy hf=>I.ok.has y.1 (.inl (n y hy hf))) λcl f u pm w h2 tk H2 A B I2 C KB E F hc G=>?_;have J:∀ {b:Ê}{o:Obj},s.heap.get? b=↑o->b≠f:=λe z=>by subst z;exact VH _ (Ñ (é e) G)
 have fP:f≠P:=λz=>by
  let(N,e,_):=r;subst z;exact J (I.aX f _ e) rfl
 have fC:f≠u:=λz=>by simp_all
 have U :=I.aX.fresh G;refine#[↥f,_,Inv.Cw  (o:=.ext _) I2 F (by
  cases e:X.s₀.heap.get? f with
  |none=>rfl|some o=>exact absurd (Ñ (é e) (Í I.sz G)) (VH _)) (λz=>by
  obtain⟨m,⟨o,_,_,e,_⟩,_⟩:=I.loc;exact J e z.symm) (λx c e=>by
  let(v,o,L,_):=I.cell x c e;exact J L) (λp hp=>J (I.pin p hp).1) #[E,by let(o,e,_):=E;exact#[o,e],λh1 h2 p kk=>xC p kk],rfl,q cl f u pm w _ A B ?_ #[λb o hb e=>?_] U aB ?_]
 .let(N,e,tr,k):=C;refine#[N,by rw[ah fP.symm];exact e,tr,λpos cc h=>?_]
  let(c2,L,Y):=k pos cc h;exact#[c2,L,by rw[ah (λz=>by rw[z,F] at Y;cases Y)];exact Y]
 .rw[ah (λz=>by rw[z,U] at e;cases e)];exact KB.same b o hb e
 .rw[ah fC.symm];exact hc
end
section
variable {X:Cx}{f:Ê}{fd:V2}{g par n:Str}{p p2 pos:Pos}{i k kr:Nat}{sp:É->Sp}{Ok:Ê->Ä->(Hp->Prop)->Hp->Prop}
theorem yL(F:pD X.prog X.w X.K X.mg X.base Au kr f fd [par] sp)(hr:eG kr X.A)(hg:Gl X g)(hm:X.mg g=↑↥f)(hk:Yc X.K ↥f=true)(hb:Binds X.K fd [par] [])
  (hi:X.N[i]?=↑n) (hv:Fx X.env.scope n) (d1:(n == ("__debug__":Str))=false) (d2:(n == ("__classdict__":Str))=false)
  (th:∀ aa σ H s,Inv X aa σ H s->∀ a cls RR,Ok a cls RR H->j8 X.prog X.w X.K X.mg X.base (k + 1) a H s cls RR)
  (hdb:(g == ("__debug__":Str))=false:=by decide) :
  PE X (.Call (.Name g p) [.Name n p2] [] pos) (λσ H Q=>∃ a cls RR,σ[i]?=↑↑↥a/\Ok a cls RR H/\∀ s2:É,j8 X.prog X.w X.K X.mg X.base (k + 1) a H s2 cls RR->sp s2 [↥a] H Q λ_ _ _=>False):=by
 intro aa s σ H Q I h;let(a,cls,RR,e,ok,q):=h;refine Xx (mZ I hg hm ?_ hdb);refine callWith_K  I.ok.mod.kin hk ?_ rfl rfl;refine YL (cF (eE  hi hv d1 d2 aa s σ H (λv H'=>v=↥a/\H'=H) I #[_,e,rfl,rfl]) λv s1 hr1=>?_);let(y,H1,I1,r1,rfl,rfl):=hr1;cases (show v=Wn a from r1);refine X8 #[I1.mW,?_];refine wpAny_call (Xg (F.run X.A X.stack s1 H1 _ _ [↥a] Q _ hr I1.Ht (hb _ _ I1.mW rfl) (.cons rfl .nil) (q s1 (th _ _ _ _ I1 _ _ _ ok))) λr s' hq=>?_);cases r with
 |error e=>exact tv hq
 |ok fl =>
  cases fl with
  |ret u=>exact I1.after hq|next=>exact tv hq
  |brk=>exact tv hq|cont=>exact tv hq
end
theorem PE.mp(h:PE X e t)(i:∀ a H Q,c a H Q->t a H Q):PE X e c:=λd s a H Q I q=>h d s a H Q I (i _ _ _ q)
structure LT where
 f:Addr
 c':Addr
 cl:⇑(Str × Addr)
 pm:Value
 ctv:Value
 bJ:Scope
 body:Expr
 N:⇑Str
def noArgs:Arguments:=#[[],[],none,[],[],none,[]]
def LT.fd(t:LT)(a:Str):FuncData:=kla_fn "<lambda>" a noArgs t.body t.bJ t.cl t.pm ↥t.c' t.ctv
structure SF(X:Cx)(bJ:Scope)(N:⇑Str):Prop where
 hfr:∀ y∈bJ.names,y.2=.free->X.env.kindOf y.1=↑.cell
 hnc:∀ y∈bJ.names,y.2≠.cell
 hNf:∀ x∈N,bJ.names.lookup x=↑.free
 lk:bJ.kind=.function
 lco:bJ.isCoroutine=false
 lge:bJ.isGenerator=false
structure sU(X:Cx)(qual:Str)(H:Hp)(t:LT):Prop where
 form:SF X t.bJ t.N
 fn:H t.f=↑(.ext (fnAt t.f (t.fd qual)))
 rc:H t.c'=↑(.ext (recAt t.c' qual))
 cl1:∀ x c,t.cl.lookup x=↑c->X.env.cells.lookup x=↑c
 cl2:∀ y∈t.bJ.names,y.2=.free->∃ c,t.cl.lookup y.1=↑c
structure SG(X:Cx)(σ:St)(t:LT)(vs:⇑V):Prop where
 len:vs.length=t.N.length
 vals:∀ (i:Nat) (x:Str) (v:V),t.N[i]?=↑x->vs[i]?=↑v->∃ j:Nat,X.N[j]?=↑x/\σ[j]?=↑↑v
theorem sU.frees{t:LT}(k:sU X qual H t)(a:SG X σ t d)(I:Inv X f σ H s):iS t.bJ t.cl t.N d H s.heap:=by
 refine#[λx y c g h=>I.ok.inj x y c (k.cl1 x c g) (k.cl1 y c h),λx n=>?_,λx c e=>I.cell x c (k.cl1 x c e),λx c e=>I.freeC x c (k.cl1 x c e),λi x v o p=>?_,a.len]
 .rcases n with n | n
  .exact absurd rfl (k.form.hnc _ (î n))
  .exact k.cl2 _ (î n) rfl
 .have q:=k.form.hNf x (ë o);have mem:=î q;have w :=k.form.hfr _ mem rfl;let(j,g,h):=a.vals i x v o p;let(m,_,A):=I.loc;let(u,r,l):=A j x v g h (Or.inr (Or.inl w));let(c2,B):=k.cl2 _ mem rfl;refine#[q,c2,u,B,r,?_];rcases l with ⟨C,_⟩ | ⟨_,c3,E,z⟩
  .rw[w] at C;cases C
  .have:=k.cl1 _ _ B
   simp_all
theorem iS.Oq{cl:⇑(Str × Ê)}{fs ex:Zp}(a:iS scope cl N d f h₀)(un:Un fs ex f H h₀ h)(g:∀ x c,cl.lookup x=↑c->c ∉ ex):iS scope cl N d H h:=by
 have j:∀ x c v,cl.lookup x=↑c->h₀.IsCell c v->h.IsCell c v:=λx c v e #[o,l,hd]=>by
  let(sl,m):=un.any l (a.free x c e) (g x c e);exact#[_,m,hd]
 refine#[a.inj,a.has,λx c e=>?_,λx c e=>?_,λi x v n p=>?_,a.len]
 .let(v,z):=a.cell x c e;exact#[v,j x c v e z]
 .let(v,o,l,_):=a.cell x c e;exact un.free c o l (a.free x c e) (g x c e)
 .let(k,c,u,q,r,z):=a.val i x v n p;exact#[k,c,u,q,r,j x c _ q z]
def Raises(X:Cx)(a:Str)(k:Nat)(H:Hp)(t:LT)(d:⇑V)(e:Ä)(g:Hp->Prop):Prop:=∀ (A:Vl) (h:⇑Env) (s:É) (i:Hp),eG k (A.deeper (envX a t.bJ s.heap.objs.size t.f ↥t.c' t.cl))->ag H i ->
 ∃ u,PE (kK X.prog X.w X.K X.mg X.base t.N a t.bJ t.f ↥t.c' t.cl A h s i λc _ j=>c=e/\g j) t.body u/\u (d.map some) i λ_ _=>False
def Io(H:Hp)(a:Str)(t:LT):Prop:=H t.f=↑(.ext (fnAt t.f (t.fd a)))/\H t.c'=↑(.ext (recAt t.c' a))
theorem Ip{X:Cx}{t:LT}(a:SF X t.bJ t.N)(h:Io H qual t)(c:iS t.bJ t.cl t.N d H s.heap)(r:Raises X qual k H t d cls e):j8 X.prog X.w X.K X.mg X.base (k + 1) t.f H s cls e :=
 oo (Om.at h.1) h.2 a.lk a.lco a.lge a.hnc rfl c r
section
variable {X:Cx}{f:Ê}{fd:V2}{g par n qual:Str}{p p2 p3 pos ps:Pos}{k kr:Nat}{sp:É->Sp}{src:Þ}{wi:TI}{sc:ý}
def Tz(X:Cx)(qual:Str)(k:Nat)(sp:É->Sp)(a:St)(c:Hp):TE:=λd H Q=>∃ t e h i,sU X qual c t/\SG X a t e/\d[0]?=↑↑↥t.f/\Io H qual t/\Raises X qual k H t e h i/\∀ j:É,j8 X.prog X.w X.K X.mg X.base (k + 1) t.f H j h i->sp j [↥t.f] H Q λ_ _ _=>False
theorem uW(d:X.calm)(S:dP X sc [n] [])(h:PI X (.Name n p3) src wi)(F:pD X.prog X.w X.K X.mg X.base Au kr f fd [par] sp)(j:eG kr X.A)(l:∀ cl C s H m,Gl (bq X (bt [n] []) sc cl C s H m) g)(o:X.mg g=↑↥f)(q:Yc X.K ↥f)(hb:Binds X.K fd [par] [])
  (hp:∀ cl C s H m,PG (bq X (bt [n] []) sc cl C s H m) (.Name n p3) (lB 0)) (hv:∀ cl C s H m,Fx (bq X (bt [n] []) sc cl C s H m).env.scope n) (d1:(n == ("__debug__":Str))=false) (d2:(n == ("__classdict__":Str))=false) (r:(g == ("__debug__":Str))=false) (hs:∀ x,Ww src X.env x=pure x) :
  PE X (.ListComp (.Call (.Name g p) [.Name n p2] [] pos) [#[.Name n p3,src,[],0]] sc ps) (λu H Q=>wi u H λJ v=>True/\xq J [none] v (lB 0) Aw (Tz X qual k sp u v) Q):=by
 refine HD   d S h hp (λ_ _ _ _ _=>DK) (λcl aa u H s I hcl _ C m hf=>?_) hs
 .refine PE.mp (yL (k:=k)  (Ok:=λa y B E=>∃ t G,sU X qual H t/\SG X u t G/\a=t.f/\Io E qual t/\Raises X qual k E t G y B) (i:=0) F j (l cl C s H m) o q hb rfl (hv cl C s H m) d1 d2 (λL N E s' I' a y B ok=>?_) r) λN E Q' q'=>?_
  .let(t,G,lt,P,rfl,U,Y):=ok;exact Ip (X:=X) lt.form U ((lt.frees P I).Oq I'.base λx c e z=>(hf c z).2.2.2.2.1 x c (lt.cl1 x c e) rfl) Y
  .let(t,G,y,B,lt,P,e,U,Y,q2):=q';exact#[t.f,y,B,e,#[t,G,lt,P,rfl,U,Y],q2]
end
abbrev Iq:Zj:=["_law_call","_law_error","_law_marks"]
abbrev Ir:Scope:={ kind:=.function,names:=[(".0",.local),("_law_k",.local),("_law_marks",.free)],isGenerator:=false,isCoroutine:=false,more:=[] }
abbrev jC:Scope:={ kind:=.function,names:=[("_law_call",.local),("_law_error",.local),("e",.local),("_law_marks",.cell),("ChanceError",.globalImplicit),("isinstance",.globalImplicit),("NoWeb",.globalImplicit),("NoLot",.globalImplicit),("NoPlaces",.globalImplicit),("NoPlace",.globalImplicit),("NoTie",.globalImplicit),("NoChance",.globalImplicit),("NoChances",.globalImplicit),("NoPaper",.globalImplicit),("TooMany",.globalImplicit),("NoText",.globalImplicit),("NoLine",.globalImplicit),("NoDeed",.globalImplicit),("ValueError",.globalImplicit),("range",.globalImplicit)],isGenerator:=false,isCoroutine:=false,more:=[("fast",.str "_law_call"),("fast",.str "_law_error"),("fast",.str "e"),("fast",.str "_law_marks"),("fast",.str "_law_k")] }
def Q0:Nat:=308
def yM(n:Nat):⇑Stmt:=[.Assign [(.Name "_law_error" #[n,4,n,14])] (.Constant .none 0 #[n,17,n,21]) #[n,4,n,21],
   .Try [.Expr (.Call (.Name "_law_call" #[n + 2,8,n + 2,17]) [] [] #[n + 2,8,n + 2,19]) #[n + 2,8,n + 2,19]] [.ExceptHandler ↑(.Name "ChanceError" #[n + 3,11,n + 3,22]) ↑"e" [.Assign [(.Name "_law_error" #[n + 4,8,n + 4,18])] (.Name "e" #[n + 4,21,n + 4,22]) #[n + 4,8,n + 4,22]] #[n + 3,4,n + 4,22]] [] [] #[n + 1,4,n + 4,22],
   .Assign [(.Name "_law_marks" #[n + 5,4,n + 5,14])] (.List [(.Call (.Name "isinstance" #[n + 5,18,n + 5,28]) [(.Name "_law_error" #[n + 5,29,n + 5,39]),(.Name "NoWeb" #[n + 5,41,n + 5,46])] [] #[n + 5,18,n + 5,47]),(.Call (.Name "isinstance" #[n + 5,49,n + 5,59]) [(.Name "_law_error" #[n + 5,60,n + 5,70]),(.Name "NoLot" #[n + 5,72,n + 5,77])] [] #[n + 5,49,n + 5,78]),(.Call (.Name "isinstance" #[n + 5,80,n + 5,90]) [(.Name "_law_error" #[n + 5,91,n + 5,101]),(.Name "NoPlaces" #[n + 5,103,n + 5,111])] [] #[n + 5,80,n + 5,112])] #[n + 5,17,n + 5,113]) #[n + 5,4,n + 5,113],
   .Assign [(.Name "_law_marks" #[n + 6,4,n + 6,14])] (.BinOp (.Name "_law_marks" #[n + 6,17,n + 6,27]) .Add (.List [(.Call (.Name "isinstance" #[n + 6,31,n + 6,41]) [(.Name "_law_error" #[n + 6,42,n + 6,52]),(.Name "NoPlace" #[n + 6,54,n + 6,61])] [] #[n + 6,31,n + 6,62]),(.Call (.Name "isinstance" #[n + 6,64,n + 6,74]) [(.Name "_law_error" #[n + 6,75,n + 6,85]),(.Name "NoTie" #[n + 6,87,n + 6,92])] [] #[n + 6,64,n + 6,93]),(.Call (.Name "isinstance" #[n + 6,95,n + 6,105]) [(.Name "_law_error" #[n + 6,106,n + 6,116]),(.Name "NoChance" #[n + 6,118,n + 6,126])] [] #[n + 6,95,n + 6,127])] #[n + 6,30,n + 6,128]) #[n + 6,17,n + 6,128]) #[n + 6,4,n + 6,128],
   .Assign [(.Name "_law_marks" #[n + 7,4,n + 7,14])] (.BinOp (.Name "_law_marks" #[n + 7,17,n + 7,27]) .Add (.List [(.Call (.Name "isinstance" #[n + 7,31,n + 7,41]) [(.Name "_law_error" #[n + 7,42,n + 7,52]),(.Name "NoChances" #[n + 7,54,n + 7,63])] [] #[n + 7,31,n + 7,64]),(.Call (.Name "isinstance" #[n + 7,66,n + 7,76]) [(.Name "_law_error" #[n + 7,77,n + 7,87]),(.Name "NoPaper" #[n + 7,89,n + 7,96])] [] #[n + 7,66,n + 7,97]),(.Call (.Name "isinstance" #[n + 7,99,n + 7,109]) [(.Name "_law_error" #[n + 7,110,n + 7,120]),(.Name "TooMany" #[n + 7,122,n + 7,129])] [] #[n + 7,99,n + 7,130])] #[n + 7,30,n + 7,131]) #[n + 7,17,n + 7,131]) #[n + 7,4,n + 7,131],
   .Assign [(.Name "_law_marks" #[n + 8,4,n + 8,14])] (.BinOp (.Name "_law_marks" #[n + 8,17,n + 8,27]) .Add (.List [(.Call (.Name "isinstance" #[n + 8,31,n + 8,41]) [(.Name "_law_error" #[n + 8,42,n + 8,52]),(.Name "NoText" #[n + 8,54,n + 8,60])] [] #[n + 8,31,n + 8,61]),(.Call (.Name "isinstance" #[n + 8,63,n + 8,73]) [(.Name "_law_error" #[n + 8,74,n + 8,84]),(.Name "NoLine" #[n + 8,86,n + 8,92])] [] #[n + 8,63,n + 8,93]),(.Call (.Name "isinstance" #[n + 8,95,n + 8,105]) [(.Name "_law_error" #[n + 8,106,n + 8,116]),(.Name "NoDeed" #[n + 8,118,n + 8,124])] [] #[n + 8,95,n + 8,125])] #[n + 8,30,n + 8,126]) #[n + 8,17,n + 8,126]) #[n + 8,4,n + 8,126],
   .If (.UnaryOp .Not (.Call (.Name "isinstance" #[n + 9,11,n + 9,21]) [(.Name "_law_error" #[n + 9,22,n + 9,32]),(.Name "ValueError" #[n + 9,34,n + 9,44])] [] #[n + 9,11,n + 9,45]) #[n + 9,7,n + 9,45]) [.Return ↑(.Constant .none 0 #[n + 10,15,n + 10,19]) #[n + 10,8,n + 10,19]] [] #[n + 9,4,n + 10,19],
   .Return ↑(.ListComp (.Name "_law_k" #[n + 11,12,n + 11,18]) [{ target:=(.Name "_law_k" #[n + 11,23,n + 11,29]),iter:=(.Call (.Name "range" #[n + 11,33,n + 11,38]) [(.Constant (~~~12) 0 #[n + 11,39,n + 11,41])] [] #[n + 11,33,n + 11,42]),ifs:=[(.Subscript (.Name "_law_marks" #[n + 11,46,n + 11,56]) (.Name "_law_k" #[n + 11,57,n + 11,63]) #[n + 11,46,n + 11,64])],is_async:=0 }] Ir #[n + 11,11,n + 11,65]) #[n + 11,4,n + 11,65]]
theorem Ot:qT Ir jC Iq ["_law_k"] [("_law_marks",2)]:=rfl
theorem Iu(K:Å)(a:X.K=K:=by rfl):Qc X (KZ K):=by subst a;exact yB
abbrev names12:Zj:=["NoWeb","NoLot","NoPlaces","NoPlace","NoTie","NoChance","NoChances","NoPaper","TooMany","NoText","NoLine","NoDeed"]
structure qU(K:PySem.W.Frag)(mg:Str->Option Value)(C:Addr)(j:Nat):Prop where
 cl:∀ (i:Nat) (x:Str),names12[i]?=↑x->∃ Ci,mg x=↑↥Ci/\PySem.W.kitOne K ↥C ↥Ci=↑(decide (i=j))
 lk:eS K C
 hd:PySem.W.hasDictIn K C=true
 ve:PySem.W.kitOne K ↥C (.type "ValueError")=↑true
 nv:mg "ValueError"=none
 ce:∃ D,mg "ChanceError"=↑↥D/\PySem.W.exmOne K ↥C ↥D=↑true
 lt:j < 12
theorem yN:Vk "ValueError"=↑(.type "ValueError"):=by decide +kernel
theorem wW:Vk "isinstance"=↑(.builtin "isinstance"):=by decide +kernel
def Iv(P:ð)(w:ú)(K:Å)(a:Str->Zn)(c:þ)(k:Nat):É->Sp:=λs d H Q _=>∃ (f C:Ê) (j:Nat) (e:Hp->Prop),d=[↥f]/\j8 P w K a c k f H s ↥C e/\qU K a C j/\∀ l g h,e g->ag g h->h l=none->Q ↥l (upd h l (.lst [~~~j]))
abbrev pF(j:Nat):⇑V:=[V.bl (decide (0=j)),.bl (decide (1=j)),.bl (decide (2=j))]++[.bl (decide (3=j)),.bl (decide (4=j)),.bl (decide (5=j))]++[.bl (decide (6=j)),.bl (decide (7=j)),.bl (decide (8=j))]++[.bl (decide (9=j)),.bl (decide (10=j)),.bl (decide (11=j))]
theorem Iw{i j:Nat}(h:i < 12):G3 (pF j) (0 + (i:Int))=↑(.bl (decide (i=j))):=by
 rw[Int.zero_add];apply tw;rw[show pF j=(ø 12).map λi=>V.bl (decide (i=j)) from rfl,å,List.getElem?_range h];rfl
section
variable {P:ð}{w:ú}{K:Å}{mg:Str->Zn}{base:þ}
theorem Ou:fy Iq ["_law_call"] jC:=#[rfl,rfl,rfl,by decide +kernel,rfl,by decide +kernel,by decide +kernel]
theorem U6:(bt ["_law_k"] [("_law_marks",2)]).Nodup:=by decide +kernel
def U7(K:Å)(c:V)(d:Ä):TE:=λe H Q=>∃ (a C:Ê) (b:Bool),e[1]?=↑↑↥a/\FY H a C/\eS K C/\PySem.W.hasDictIn K C=true/\PySem.W.kitOne K ↥C d=↑b/\Q (.bl b) H
def TC(K:Å)(c c1 c2:Ê):TE:=λd H Q=>∃ (a C:Ê) (e f b2:Bool),d[1]?=↑↑↥a/\FY H a C/\eS K C/\PySem.W.hasDictIn K C=true/\PySem.W.kitOne K ↥C ↥c=↑e/\PySem.W.kitOne K ↥C ↥c1=↑f/\PySem.W.kitOne K ↥C ↥c2=↑b2/\∀ l,H l=none->Q ↥l (upd H l (.lst [.bl e,.bl f,.bl b2]))
section
variable {X:Cx}{c0 c1 c2:Ê}{x x0 x1 x2:Str}{p p0 p1 p2 p3 q0 q1 q2 q3 r0 r1 r2 r3:Pos}
theorem DZ(d:X.N[1]?=↑("_law_error":Str))(f:Fx X.env.scope "_law_error")(h:Gl X "isinstance")(i:X.mg "isinstance"=none)(j:PE X (.Name x p2) (tC c))(k:(∃ C,c=↥C/\cv=↥C)\/∃ T,c=.ty T/\cv=.type T):PE X (.Call (.Name "isinstance" p0) [.Name "_law_error" p1,.Name x p2] [] p3) (U7 X.K c cv) :=
 λl s m H Q I q=>by
  let(a,C,b,e,n,o,r,u,v):=q;exact (jy   Cv h i wW (cG (eE   d f) (cG j gJ))) l s m H Q I #[_,e,a,C,_,_,b,rfl,k,n,o,r,u,v]
theorem yO(c:X.N[1]?=↑("_law_error":Str))(d:Fx X.env.scope "_law_error")(f:Gl X "isinstance")(g:X.mg "isinstance"=none)(h:PE X (.Name x0 p2) (tC ↥c0))(i:PE X (.Name x1 q2) (tC ↥c1))(j:PE X (.Name x2 r2) (tC ↥c2)) :
  PE X (.List [.Call (.Name "isinstance" p0) [.Name "_law_error" p1,.Name x0 p2] [] p3,.Call (.Name "isinstance" q0) [.Name "_law_error" q1,.Name x1 q2] [] q3,.Call (.Name "isinstance" r0) [.Name "_law_error" r1,.Name x2 r2] [] r3] p) (TC X.K c0 c1 c2) :=
 λk s l H Q I q=>by
  let(a,C,m,n,b2,e,o,r,u,v,y,z,A):=q;exact Ck (cG (DZ c d f g h (.inl #[c0,rfl,rfl])) (cG (DZ c d f g i (.inl #[c1,rfl,rfl])) (cG (DZ c d f g j (.inl #[c2,rfl,rfl])) gJ))) k s l H Q I
   #[a,C,m,e,o,r,u,v,a,C,n,e,o,r,u,y,a,C,b2,e,o,r,u,z,pC (by show 3<=64;decide),A]
end
theorem Ov{c:V9}{f:Ê}{fd:V2}{k:Nat}(F:Hy K "_law_refused" "_law_refused" c f fd)(d:bA c=jC)(eb:fz c=yM Q0)(l:mg "isinstance"=none)(Tr:mg "range"=none):pD P w K mg base Au (k + 1) f fd ["_law_call"] (Iv P w K mg base k):=by
 refine F.U5 (by rw[d];exact Ou) (λs vs H Q E h=>?_) (λcdv A m s H vs Q E hr h=>?_)
 .let(f,C,j,RR,rfl,_):=h;rfl
 .let(g,C,j,RR,rfl,th,R,q):=h;rw[d] at hr;rw[d,eb];let(c0,m0,k0):=R.cl 0 _ rfl;let(c1,m1,k1):=R.cl 1 _ rfl;let(c2,m2,k2):=R.cl 2 _ rfl;let(c3,m3,k3):=R.cl 3 _ rfl;let(c4,m4,k4):=R.cl 4 _ rfl;let(c5,m5,k5):=R.cl 5 _ rfl;let(c6,m6,k6):=R.cl 6 _ rfl;let(c7,m7,k7):=R.cl 7 _ rfl;let(c8,m8,k8):=R.cl 8 _ rfl;let(c9,m9,k9):=R.cl 9 _ rfl;let(c10,r,u):=R.cl 10 _ rfl;let(c11,x,y):=R.cl 11 _ rfl;let(D,mD,kD):=R.ce;refine#[_,cg (fY (i:=1) Ou.nd rfl (Or.inl rfl) Cc)
   (cg (FZ (i:=0) (j:=1) (f:=g) (C:=C) (D:=D) (k:=k) rfl rfl rfl hr th rfl (Or.inl rfl) (-0) (-0) rfl mD (-0) kD rfl (by show ¬ (("e":Str)∈Iq);decide +kernel) (-0) Ou.nd rfl (Or.inl rfl) rfl)
   (cg (fY (i:=2) Ou.nd rfl (Or.inr rfl) (yO rfl (Or.inl rfl) rfl l (dS rfl m0 rfl) (dS rfl m1 rfl) (dS rfl m2 rfl)))
   (cg (fY (i:=2) Ou.nd rfl (Or.inr rfl) (Dy Cp (pv 2) (yO rfl (Or.inl rfl) rfl l (dS rfl m3 rfl) (dS rfl m4 rfl) (dS rfl m5 rfl))))
   (cg (fY (i:=2) Ou.nd rfl (Or.inr rfl) (Dy Cp (pv 2) (yO rfl (Or.inl rfl) rfl l (dS rfl m6 rfl) (dS rfl m7 rfl) (dS rfl m8 rfl))))
   (cg (fY (i:=2) Ou.nd rfl (Or.inr rfl) (Dy Cp (pv 2) (yO rfl (Or.inl rfl) rfl l (dS rfl m9 rfl) (dS rfl r rfl) (dS rfl x rfl))))
   (cg (Dx (Cd (yu (DZ (cv:=.type "ValueError") rfl (Or.inl rfl) rfl l (s9 (v:=.ty "ValueError") rfl R.nv yN rfl) (.inr #[_,rfl,rfl])))) (Dw (yv Cc)) td)
   (Dw (yv (DN (own:=["_law_k"]) (au:=[("_law_marks",2)]) rfl (by exact dP.of (scX:=jC) (N:=Iq) rfl rfl Ot) (xi rfl Tr (cG uy gJ))
    (λcl C s H fp=>tm (i:=0) U6 rfl (Or.inl rfl)) (λcl C s H fp=>DL (yu (DG (Iu K) (pv 1) (pv 0) (λ_ _=>rfl)))) (λcl C s H fp=>pv 0)))))))))),?_]
  refine#[rfl,ag.refl H,λa B s1 na=>?_];have hX:FY (upd B a (.ext (excAt a C))) a C:=aB;have keep:∀ {G},ag (upd B a (.ext (excAt a C))) G->FY G a C:=λsm=>sm _ _ hX;refine#[a,C,_,_,_,rfl,hX,R.lk,R.hd,k0,k1,k2,λl1 I=>?_];have t1:=ag.new (.lst [.bl (decide (0=j)),.bl (decide (1=j)),.bl (decide (2=j))]) I;refine#[_,rfl,a,C,_,_,_,rfl,keep t1,R.lk,R.hd,k3,k4,k5,λl2 J=>?_];have t2:=ag.new (.lst [.bl (decide (3=j)),.bl (decide (4=j)),.bl (decide (5=j))]) J;refine#[l1,l2,_,_,rfl,rfl,t2 _ _ aB,aB,pC (by show 3 + 3<=64;decide),λl3 L=>?_]
  have t3:=t1.trans (t2.trans (ag.new (.lst ([.bl (decide (0=j)),.bl (decide (1=j)),.bl (decide (2=j))]++[.bl (decide (3=j)),.bl (decide (4=j)),.bl (decide (5=j))])) L));refine#[_,rfl,a,C,_,_,_,rfl,keep t3,R.lk,R.hd,k6,k7,k8,λl4 U=>?_];have t4:=ag.new (.lst [.bl (decide (6=j)),.bl (decide (7=j)),.bl (decide (8=j))]) U;refine#[l3,l4,_,_,rfl,rfl,t4 _ _ aB,aB,pC (by show 6 + 3<=64;decide),λl5 hl5=>?_]
  have t5:=t3.trans (t4.trans (ag.new (.lst ([.bl (decide (0=j)),.bl (decide (1=j)),.bl (decide (2=j))]++[.bl (decide (3=j)),.bl (decide (4=j)),.bl (decide (5=j))]++[.bl (decide (6=j)),.bl (decide (7=j)),.bl (decide (8=j))])) hl5));refine#[_,rfl,a,C,_,_,_,rfl,keep t5,R.lk,R.hd,k9,u,y,λl6 hl6=>?_];have t6:=ag.new (.lst [.bl (decide (9=j)),.bl (decide (10=j)),.bl (decide (11=j))]) hl6;refine#[l5,l6,_,_,rfl,rfl,t6 _ _ aB,aB,pC (by show 9 + 3<=64;decide),λl7 hl7=>?_]
  have t7:=t5.trans (t6.trans (ag.new (.lst (pF j)) hl7));refine#[a,C,_,rfl,keep t7,R.lk,R.hd,R.ve,_,rfl,Tj ?_];refine#[12,rfl,by decide,by decide,H9 (lo:=0) (n:=12) (λi X G=>ag (upd B a (.ext (excAt a C))) G/\G l7=↑(.lst (pF j))/\X=if j < i then [~~~j] else []) (pC (-0)) #[t7,aB,by rw[Zv (Yq _)]] (λi X G p=>by rw[p.2.2];split <;> simp <;> omega) ?_ ?_]
  .rintro i X G hi ⟨Y,h8,rfl⟩;refine gN ?_;refine#[_,rfl,_,rfl,l7,pF j,0 + (i:Int),.bl (decide (i=j)),rfl,rfl,jX.of h8,Iw hi,_,rfl,?_];refine Tn (λe=>?_) (λe=>?_)
   .have ej:i=j:=ZA e;subst ej;refine#[_,rfl,Y,h8,?_];rw[Zv (VH _),Zu (Xs _),Int.zero_add];rfl
   .have ej:¬ i=j:=λz=>e (Zy z);refine#[Y,h8,?_];by_cases hj:j < i
    .rw[Zu hj,Zu (_w _ hj)]
    .rw[Zv hj,Zv ∅]
  .rintro X G p ⟨Y,_,rfl⟩ hp;rw[Zu R.lt];exact q p B G s1 ((ag.new _ na).trans Y) hp
end
abbrev Ke:=Zl × Ê × Ä
def TF(x:Ke):DictEntry:=#[reduceHash (Builtin.Tuple.tupleHashOf (x.1.map hashInt)),↥x.2.1,x.2.2]
def yP(d:Ê)(a:⇑Ke)(h:þ):Prop:=∃ o c e,h.get? d=↑o/\o.ExactDict/\o.data=.dict c e/\c.toList=a.map TF/\(a.map (·.1)).Nodup
inductive pG (K:PySem.W.Frag) (H:Hp) (d:Addr) (kss:⇑⇑Int):Prop where
 |mk (xs:⇑Ke) (h0_:H d=↑(.ext (yP d xs))) (h1_:(d == sysModules)=false) (h2_:(∀ x∈xs,dU K H x.2.1 (x.1.map V.int))) (h3_:∀ ks,ks∈xs.map (·.1)↔ks∈kss):pG K H d kss
theorem pG.same{K:Å}{H a:Hp}{d:Ê}{c:⇑Zl}(h:pG K H d c)(e:∀ b o,H b=↑o->a b=↑o):pG K a d c:=by
 let(f,g,i,j,k):=h;exact#[f,e _ _ g,i,λx l=>ag.jB e (j x l),k]
theorem items_int:∀ {ks:Zl}{a:Zi},Vals (ks.map V.int) a->ItemsAre (intKind P w) ks a
 |[],_,h=>by cases h;exact .nil
 |k::ks,_,h=>by
  cases h with
  |cons r t =>
   let(u,rfl):=r;exact .cons (by show Value.isInt k (.int k u)=true;simp[Value.isInt]) (items_int t)
section
variable {X:Cx}{aa:⇑(Ê × Obj)}{σ:St}{H:Hp}{s:É}
theorem key_is(I:Inv X aa σ H s){b:Ê}(h:dU X.K H b (ks.map V.int)):IsTupleKey (intKind X.prog X.w) s.heap ks b:=by
 obtain⟨a,f,⟨o,e,c,n,d⟩,_⟩:=I.tuple h;exact#[o,a.toArray,n,e,c,d,items_int f]
theorem pH:∀ {a:⇑Ke}{ks:Zl},(atKey a ks).isSome=decide (ks∈a.map (·.1))
 |[],_=>rfl
 |x::r,ks=>by
  have c:=@pH r ks;unfold atKey at c ⊢
  grind
def Iy(o:Bool):CmpOp:=match o with
 |true=>.In|false=>.NotIn
inductive Iz (K:PySem.W.Frag) (o:Bool) (x:V) (y:V) (H:Hp) (Q:VK):Prop where
 |mk (b ks d kss) (h0_:x=↥b) (h1_:y=↥d) (h2_:dU K H b (ks.map V.int)) (h3_:pG K H d kss) (h4_:Q (.bl (decide (ks∈kss) == o)) H):Iz K o x y H Q
theorem tL(o:Bool)(a:X.A.units + 1 < WN):gQ X (VZ (Iy o)) (Iz X.K o):=by
 intro aa s σ H x y v u Q I c e h;obtain⟨b,ks,d,f,rfl,rfl,g,⟨i,j,k,l,m⟩,q⟩:=h;subst c;subst e;obtain⟨⟨n,p,r,w,z,B,C,E⟩,_,_⟩:=I.aX d _ j;have F:decide _=decide _:=decide_eq_decide.mpr (m ks);cases o with
 |true =>
  apply wpAny_in_heap  (tupleKind_room_in1 a) (key_is I g) k #[n,p,r,w,z,B,C,λx G=>key_is I (l x G),E];rw[pH,F];rw[show(decide _ == true)=decide _ by cases decide (ks∈f) <;> rfl] at q
  exact#[.bl _,H,I.tok _,rfl,q]
 |false =>
  apply wpAny_notIn_heap  (tupleKind_room_in1 a) (key_is I g) k #[n,p,r,w,z,B,C,λx G=>key_is I (l x G),E];rw[pH,F];rw[show(decide (ks∈f) == false)=!decide (ks∈f) by cases decide (ks∈f) <;> rfl] at q
  exact#[.bl _,H,I.tok _,rfl,q]
end
theorem AK{c:⇑Ke}{k ks:Zl}{a:Ê}{v:Ä}:ks∈(storedH c k a v).map (·.1)↔ks∈c.map (·.1)\/ks=k:=by
 delta storedH
 rw[pH];split
 .rename_i h;rw[(by
   rw[à];exact Vx λx _=>by show(putAt k v x).1=x.1;delta putAt;split <;> rfl:(c.map (putAt k v)).map _=c.map (·.1))];exact#[.inl,λz=>z.elim id λz=>z ▸ (ZA h)]
 .simp
theorem Cy{c:⇑Ke}{k:Zl}{a:Ê}{v:Ä}{x:Ke}(h:x∈storedH c k a v):(∃ y∈c,y.1=x.1/\y.2.1=x.2.1)\/(x.1=k/\x.2.1=a):=by
 delta storedH at h
 split at h
 .let(y,d,rfl):=Ç.mp h;exact .inl #[y,d,by delta putAt;split <;> rfl,by delta putAt;split <;> rfl]
 .rcases Ð.mp h with h | h
  .exact .inl #[x,h,rfl,rfl]
  .cases Ë.mp h;exact .inr #[rfl,rfl]
theorem Cz{c:⇑Ke}{k:Zl}{a:Ê}{v:Ä}:(storedH c k a v).length<=c.length + 1:=by
 delta storedH;split <;> simp
section
variable {P:ð}{w:ú}{A:Vl}{R:Result->É->Prop}{s:É}
theorem CA{x:Str}{p1 p2 px ps:Pos}{k2:Nat}{d:Þ}{sc:ý}{I D a:Ê}{f:Env}{g:Zo}{m:Str->Zn}{h:⇑Zl}(hu:A.units < WN)(hh:A.handled=none)(hI:a≠I)
  (hl:h.length=g.size) (hz:g.size<=sizeLine) (ka:∀ (i:Nat) (ks:Zl),h[i]?=↑ks->∃ b:Ê,g[i]?=↑(Wn b)/\b≠I/\b≠D/\b≠f.locals/\IsTupleKey (intKind P w) s.heap ks b)
  (l:f.kindOf x=↑.local) (hk:f.scope.kind=.function) (hd:(x == ("__debug__":Str))=false) (p:D≠f.locals) (q:D≠I) (hDa:D≠a) (B:f.locals≠I) (hCa:f.locals≠a)
  (st:s.heap.IsListIter I a 0/\s.heap.IsList a g) (ac:yP D [] s.heap) (hn:s.heap.Ns f.locals m)
  (hR:∀ (C:þ) (tk:Nat) E (F:⇑Ke),C.Ns f.locals E->yP D F C->(∀ ks,ks∈F.map (·.1)↔ks∈h)->(∀ x∈F,∃ i:Nat,h[i]?=↑x.1/\g[i]?=↑(Wn x.2.1))->(∀ b o,b≠f.locals->b≠I->b≠D->s.heap.get? b=↑o->C.get? b=↑o)->R (.ok .next) { s with heap:=C,toks:=tk }) :
  Wy (Ü P w) A (.compLoop (.DictComp (.Name x p1) (.Constant (.bool true) k2 p2) [#[.Name x px,d,[],0]] sc ps) 0 ↥I ↥D f) R s:=by
 have W:=Walks.list (prog:=P) (w:=w) hh I a hI g;have G:∀ {C:þ}{ks:Zl}{b:Ê},(∀ b o,b≠f.locals->b≠I->b≠D->s.heap.get? b=↑o->C.get? b=↑o)->b≠I->b≠D->b≠f.locals->IsTupleKey _ s.heap ks b->IsTupleKey (intKind P w) C ks b:=λk n1 n2 n3 #[o,i,n,e,r]=>#[o,i,n,k _ o n3 n1 n2 e,r];refine codeAny_compLoop_testsD (λn s'=>∃ (i:Nat) (C:þ) (tk:Nat) (E:Str->Zn) (F:⇑Ke),s'={ s with heap:=C,toks:=tk }/\i<=g.size/\n=g.size + 1 - i/\(C.IsListIter I a i/\C.IsList a g)/\yP D F C/\C.Ns f.locals E/\F.length<=i/\(∀ ks,ks∈F.map (·.1)↔ks∈h.take i) /\
  (∀ x∈F,∃ i:Nat,h[i]?=↑x.1/\g[i]?=↑(Wn x.2.1))/\∀ b o,b≠f.locals->b≠I->b≠D->s.heap.get? b=↑o->C.get? b=↑o) ?_ _
  #[0,s.heap,s.toks,m,[],rfl,Wg _,rfl,st,ac,hn,Wg _,λks=>⋯,λx l=>(by simp at l),λ_ _ _ _ _ e=>e]
 rintro n s' ⟨i,C,tk,E,F,rfl,hi,rfl,st',ac',hn',hxl,hks,H,hkp⟩;by_cases hlt:i < g.size
 .refine W.item i _ _ _ hlt st' λv h1 tk1 hv aZ J=>?_;have K:h[i]?=↑_:=ß ∅
  let(b,hb,bI,bD,bC,isb):=ka i _ K;have hv0 :=hv;rw[hb] at hv0;cases hv0;refine XM (W7 l (hn'.at' λo e=>J _ o (by simpa using B) e) (λh2 hn2 sb2=>?_) (by rw[hk];rfl))
  have k2:∀ b o,b≠f.locals->b≠I->C.get? b=↑o->h2.get? b=↑o:=λb o L N e=>sb2.extBut b o L (J b o (by simpa using N) e)
  refine wpAny_tests_nil ?_;rw[Zu rfl];refine X9 (WM (v:=↥b) hk l hn2 ⋯ ?_) hd
  refine Constant_bool ?_;let(o,es,ep,e1,e2,e3,e4,e5):=ac';have U:∀ b o,b≠f.locals->b≠I->b≠D->s.heap.get? b=↑o->h2.get? b=↑o:=λb o L N X e=>k2 b o L N (hkp b o L N X e);have isK:∀ x∈F,IsTupleKey (intKind P w) h2 x.1 x.2.1:=λx l=>by
   let(j,q1,q2):=H x l;let(b',r1,r2,r3,r4,r5):=ka j _ q1;rw[q2] at r1;cases r1;exact G U r2 r3 r4 r5
  refine wpAny_dictSet_heap (hsz:=by omega) (knd:=tupleKind (intKind P w)) hu (G U bI bD bC isb) #[o,es,ep,k2 D o p q e1,e2,e3,e4,isK,e5] λh3 #[o3,es3,ep3,f1,f2,f3,f4,_,f6] Y=>?_
  refine#[g.size + 1 - (i + 1),by omega,i + 1,h3,_,_,storedH F h[i] b (.bool true),rfl,hlt,rfl,W.frame _ h2 _ ?_ λc hc o e=>Y.extBut c o (λz=>?_) e,#[o3,es3,ep3,f1,f2,f3,f4,f6],hn2.sameBut Y (ü p),Í Cz ∅,λks=>?_,λy hy=>?_,λc o L N X e=>Y.extBut c o X (U c o L N X e)]
  .exact W.frame _ _ _ aZ λc hc o e=>sb2.extBut c o (λz=>by subst z;rcases ì.mp hc with z | z;exact B z;exact hCa (by simpa using z)) e
  .subst z;rcases ì.mp hc with z | z
   .exact q z
   .exact hDa (by simpa using z)
  .rw[AK,hks,take_succ,Ð,K];exact or_congr Iff.rfl (Ë (a:=ks) (b:=h[i])).symm
  .rcases Cy hy with ⟨u,hu',e6,e7⟩ | ⟨e6,e7⟩
   .rw[<-e6,<-e7];exact H u hu'
   .exact#[i,by rw[e6];exact K,by rw[e7];exact hb]
 .have hin:i=g.size:=by omega
  subst hin;refine W.done _ _ _ st' λh1 tk1 J=>?_;let(o,es,ep,e1,e2):=ac';exact hR h1 tk1 E F (hn'.at' λo e=>J _ o (by simpa using B) e) #[o,es,ep,J _ _ (by simpa using q) e1,e2] (λks=>by rw[hks,<-hl,X3]) H λb o L N X e=>J b o (by simpa using N) (hkp b o L N X e)
end
theorem pI{R:α->β->Prop}:∀ {l:⇑α}{r:⇑β}{i:Nat}{b:β},VX R l r->r[i]?=↑b->∃ a,l[i]?=↑a/\R a b
 |_,_,_,_,.nil,e=>by simp at e|_,_,0,_,.cons h _,e=>by simp_all|_,_,i + 1,_,.cons _ t,e=>pI (i:=i) t e
section
variable {X:Cx}
def Ow(K:Å)(c:TE):TE:=λe H Q=>c e H λv f=>∃ a g h,v=↥a/\jX K f a g/\VX (λy ks=>∃ b,y=↥b/\dU K f b (ks.map V.int)) g h/\∀ d i,ag f i->f d=none->pG K i d h->Q ↥d i
theorem IA{p1 p2 px ps:Pos}(hc:X.calm)(hu:X.A.units < WN)(S:dP X sc [x] [])(hx:sc.names.lookup x=↑.local)(hd:(x == ("__debug__":Str))=false)(hi:PE X iter ti)
  (hs:∀ v,Ww iter X.env v=pure v):PE X (.DictComp (.Name x p1) (.Constant (.bool true) k2 p2) [#[.Name x px,iter,[],0]] sc ps) (Ow X.K ti):=by
 intro aa s σ H Q I h;let(cl,c,hcl,hcf):=ng   λy d hk=>I.ok.has y.1 (S.frees y d hk);refine Xf  rfl hs c S.kind S.locs (cF (hi aa s σ H _ I h) λv s1 h1=>?_);let(x1,H1,f,r1,a,ys,kss,rfl,hq,pk,q):=h1;subst r1;let(aw,rv,p,hz):=f.list hq;have g:a < s1.heap.objs.size:=by
  let(_,o,e,_):=p;exact é e
 refine Yn p.isList (Vn (wpAny_newFunctionEnv S.nocell (by simp) (λj l sb=>?_) S.kind))
 generalize e0:s1.heap.push _=m at l sb ⊢;generalize e1:m.push _=g1 at l sb ⊢;have z0:m.objs.size=s1.heap.objs.size + 1:=by rw[<-e0,Xz]
 have z1:g1.objs.size=s1.heap.objs.size + 2:=by rw[<-e1,Xz,z0]
 have n01:=Û (_r (WA (_a z0)))
 have r:s1.heap.objs.size≠g1.objs.size:=by omega
 have z:=Û (VA (WA z0) (_l z1))
 have B:∀ {b:Ê},b < s1.heap.objs.size->b≠s1.heap.objs.size/\b≠m.objs.size/\b≠g1.objs.size:=λ{b} C=>#[Û C,Û (Ñ C (_f (WA (_a z0)))),Û (Ñ C (Í (VO _ _) (WA (_a z1))))]
 have E :=λb o e n=>sb.extBut b o n (Â _ (e1 ▸ Â _ e));have F :=λb o e=>E b o (e0 ▸ Â _ e) (B (é e)).2.2;have G:j.IsListIter s1.heap.objs.size a 0:=#[_,E _ _ (e0 ▸ Ï _ rfl) r,rfl,rfl];have J:∀ s3 ,s3={ s1 with heap:=j,toks:=s1.toks + ([]:⇑(Str × Ä)).length }->Wy (Ü X.prog X.w) X.A (.compLoop (.DictComp (.Name x p1) (.Constant (.bool true) k2 p2) [#[.Name x px,iter,[],0]] sc ps) 0 ↥s1.heap.objs.size ↥m.objs.size (compEnvC sc cl g1.objs.size X.env))
   (compPost (Ü X.prog X.w) X.A X.xe none (EP X aa σ Q) ↥m.objs.size g1.objs.size) s3:=by
  rintro s3 rfl;refine CA    hu (f.ok.hd hc) (B g).1 (by rw[á,<-rv.length];exact pk.length.symm) (by rw[á,<-rv.length];exact hz) (λi ks e=>?_) (lookup_relabel_local hx) S.kind hd z n01.symm (B g).2.1.symm r.symm (B g).2.2.symm
   #[G,p.isList.at λo e=>F _ o e] (#[_,[].toArray,_,sb.extBut _ _ z (Â _ (e1 ▸ Ï _ rfl)),#[rfl,rfl,rfl],rfl,rfl,⋯]) l λh' tk m' xs hn' kd kk ka kp=>?_
  .let(y,d,b,rfl,C):=pI pk e;let(u,L,N):=rv.get d;subst N;let(o,i2,n2,P,f2):=key_is f C;let(l1,l2,l3):=B (é P);exact#[b,by simpa using L,l1,l2,l3,o,i2,n2,F _ _ P,f2]
  .refine#[m',hn',λh3 U=>?_];let(o,es,ep,P,f2):=kd;have kd3:yP m.objs.size xs h3:=#[o,es,ep,U.extBut _ _ z P,f2];have kp3:∀ b o,s1.heap.get? b=↑o->h3.get? b=↑o:=λb o e=>by
    let(l1,l2,l3):=B (é e);exact U.extBut b o l3 (kp b o l3 l1 l2 (F b o e))
   have Y:H1 m.objs.size=none:=f.aX.fresh (_f (WA (_a z0)))
   have hst:∀ h1 j:þ,yP m.objs.size xs h1->(∀ o,h1.get? m.objs.size=↑o->j.get? m.objs.size=↑o)->yP m.objs.size xs j:=λ_ _ #[o,es,ep,P,f2] k=>#[o,es,ep,k _ P,f2];refine#[↥m.objs.size,upd H1 m.objs.size (.ext (yP m.objs.size xs)),f.laid (t':=tk) kp3 (_f (WA (_a z0))) #[kd3,#[o,U.extBut _ _ z P],hst],rfl,q _ _ (ag.new _ Y) Y #[xs,aB,?_,λy d=>?_,kk]]
   .exact beq_eq_false_iff_ne.mpr (B f.big).2.1.symm
   .let(i,g1',g2):=ka y d;let(u,hu0,b,rfl,C):=pI pk g1';let(u',L,N):=rv.get hu0;subst N;have g2':aw[i]?=↑↥y.2.1:=by simpa using g2
    rw[L] at g2';cases g2';exact ag.jB (ag.new _ Y) C
 exact codeAny_compStart_dict (J _ rfl) (wpAny_pyIter_listiter G (J _ rfl))
end
section
variable {P:ð}{w:ú}{A:Vl}{R:Result->É->Prop}{s:É}
abbrev eC(x y:Str)(a c d e:Pos)(f:Þ)(g:ý)(h:Pos):Expr:=.ListComp (.Name y a) [#[.Name x c,f,[],0],#[.Name y d,.Name x e,[],0]] g h
section
variable {x y:Str}{pe px py px2 ps:Pos}{iter:Þ}{sc:ý}
theorem CC{it a:Ä}
  (c:Wy (Ü P w) A (.compLoop (eC x y pe px py px2 iter sc ps) 1 it a env) R s)
  (h:â (Ü P w) A (pyIter it) (λd e=>Wy (Ü P w) A (.compLoop (eC x y pe px py px2 iter sc ps) 1 d a env) R e) (notedBy (Ü P w) A env λx e=>R (.error x) e) s) :
  Wy (Ü P w) A (.compStart (eC x y pe px py px2 iter sc ps) 1 it a env) R s:=by
 apply codeAny_of_tree;apply wpAny_notedAt;refine À (YH (wpAny_ite ?_));split
 .first
   |grind
   |exact Æ (And.intro rfl c)
 .first
   |grind
   |(show â _ _ (standAt px2 >>= _) _ _ s;exact À (WT (À (VY h (λd e f=>Æ (And.intro rfl f)) λ_ _ x=>x))))
theorem AL{J b:Ê}(a:s.heap.IsTupleIter J b 0)(c:Wy (Ü P w) A (.compLoop (eC x y pe px py px2 iter sc ps) 1 ↥J acc env) R s):Wy (Ü P w) A (.compStart (eC x y pe px py px2 iter sc ps) 1 ↥J acc env) R s:=CC c (wpAny_pyIter_tupleiter a c)
abbrev wX(a:Zi)(k:Nat):Obj:={ cls:=.type "list",data:=.seq a.toArray k }
theorem Lm{J b D:Ê}{aw:Zi}(hh:A.handled=none)(hJ:b≠J)(hz:aw.length + row.size<=sizeLine)
  (hy:a.kindOf y=↑.local) (hk:a.scope.kind=.function) (hd:(y == ("__debug__":Str))=false) (d:D≠a.locals) (f:D≠J) (g:D≠b) (h:a.locals≠J) (hCb:a.locals≠b)
  (st:s.heap.IsTupleIter J b 0/\s.heap.IsTuple b row) (ac:s.heap.get? D=↑(wX aw k)) (hn:s.heap.Ns a.locals m)
  (hR:∀ (j:þ) (l:Nat) p q,j.Ns a.locals p->j.get? D=↑(wX (aw++row.toList) q)->(∀ c o,c≠a.locals->c≠J->c≠D->s.heap.get? c=↑o->j.get? c=↑o)->R (.ok .next) { s with heap:=j,toks:=l }) :
  Wy (Ü P w) A (.compLoop (eC x y pe px py px2 iter sc ps) 1 ↥J ↥D a) R s:=by
 have W:=Walks.tuple (prog:=P) (w:=w)  hh J b hJ row;refine codeAny_loop rfl (λn s'=>∃ (i:Nat) (j:þ) (l:Nat) (p:Str->Zn) (q:Nat),s'={ s with heap:=j,toks:=l }/\i<=row.size/\n=row.size + 1 - i/\(j.IsTupleIter J b i/\j.IsTuple b row)/\j.get? D=↑(wX (aw++row.toList.take i) q)/\j.Ns a.locals p /\
  ∀ c o,c≠a.locals->c≠J->c≠D->s.heap.get? c=↑o->j.get? c=↑o) (λn s' I=>?_) _ #[0,s.heap,s.toks,m,k,rfl,Wg _,rfl,st,by simp_all,hn,λ_ _ _ _ _ e=>e]
 apply wpAny_noted;let(i,j,l,p,q,rfl,hi,rfl,r,u,B,C):=I;refine À (WT (À ?_));by_cases E:i < row.size
 .refine W.item i _ _ _ E r λv h1 F hv aZ G=>?_;refine À (Æ ?_);refine À (XM (W7 hy (B.at' λo e=>G _ o (by simpa using h) e) (λh2 H K=>?_) (by rw[hk];rfl)))
  refine À (wpAny_tests_nil  ?_);refine À (À (X9 (WM (v:=v) hk hy H ⋯ ?_) hd))
  have k2 :=λb o L N e=>K.extBut b o L (G b o (by simpa using N) e)
  have e1:row.toList.take (i + 1)=row.toList.take i++[v]:=by
   rw[take_succ,Wt,hv];rfl
  refine À (append_at (k2 D _ d f u) (λh3 U X=>?_) (by
   rw[á,Ó,õ];omega))
  refine Æ (Æ #[rfl,_,by omega,i + 1,h3,_,_,q + 1,rfl,E,rfl,W.frame _ h2 _ ?_ λc hc o e=>U.2 c (λz=>?_) ▸ e,?_,H.sameBut U (ü d),λc o L N Y e=>(U.2 c Y).trans (k2 c o L N (C c o L N Y e))])
  .exact W.frame _ _ _ aZ λc hc o e=>K.extBut c o (λz=>by subst z;rcases ì.mp hc with z | z;exact h z;exact hCb (by simpa using z)) e
  .subst z;rcases ì.mp hc with z | z
   .exact f z
   .exact g (by simpa using z)
  .rw[e1,<-Ø];rw[push_toArray] at X;exact X
 .have hin:i=row.size:=by omega
  subst hin;refine W.done _ _ _ r λh1 F G=>Æ (hR h1 F p q (B.at' λo e=>G _ o (by simpa using h) e) ?_ λc o L N Y e=>G c o (by simpa using N) (C c o L N Y e))
  have:=G D _ (by simpa using f) u
  rwa [show row.toList.take row.size=row.toList from X3] at this
theorem AM{a:Type}:∀ (l:⇑⇑a) (i:Nat) (r:⇑a),l[i]?=↑r->(l.take i).flatten.length + r.length<=l.flatten.length
 |[],i,r,h=>by simp at h|x::l,0,r,h=>by simp_all
 |x::l,i + 1,r,h=>by
  have:=AM l i r h;simp only[List.take_succ_cons,W9,Ó];omega
theorem F3{I D a:Ê}{rows:⇑Zi}(hh:A.handled=none)(hI:a≠I)(hl:rows.length=d.size)(hz:rows.flatten.length<=sizeLine)
  (ka:∀ (i:Nat) (f:Zi),rows[i]?=↑f->∃ b:Ê,d[i]?=↑(Wn b)/\b≠I/\b≠D/\b≠g.locals/\s.heap.IsTuple b f.toArray)
  (hx:g.kindOf x=↑.local) (hy:g.kindOf y=↑.local) (hk:g.scope.kind=.function) (hdx:(x == ("__debug__":Str))=false) (hdy:(y == ("__debug__":Str))=false) (h:D≠g.locals) (j:D≠I) (hDa:D≠a) (l:g.locals≠I) (p:g.locals≠a)
  (st:s.heap.IsTupleIter I a 0/\s.heap.IsTuple a d) (ac:s.heap.get? D=↑(wX [] k)) (hn:s.heap.Ns g.locals m)
  (hR:∀ (q:þ) (tk:Nat) r u,q.Ns g.locals r->q.get? D=↑(wX rows.flatten u)->(∀ c o,c≠g.locals->c≠I->c≠D->s.heap.get? c=↑o->q.get? c=↑o)->R (.ok .next) { s with heap:=q,toks:=tk }) :
  Wy (Ü P w) A (.compLoop (eC x y pe px py px2 iter sc ps) 0 ↥I ↥D g) R s:=by
 have W:=Walks.tuple (prog:=P) (w:=w)  hh I a hI d;refine codeAny_loop rfl (λn s'=>∃ (i:Nat) (q:þ) (tk:Nat) (r:Str->Zn) (u:Nat),s'={ s with heap:=q,toks:=tk }/\i<=d.size/\n=d.size + 1 - i/\(q.IsTupleIter I a i/\q.IsTuple a d)/\q.get? D=↑(wX (rows.take i).flatten u)/\q.Ns g.locals r /\
  ∀ c o,c≠g.locals->c≠I->c≠D->s.heap.get? c=↑o->q.get? c=↑o) (λn s' I=>?_) _ #[0,s.heap,s.toks,m,k,rfl,Wg _,rfl,st,ac,hn,λ_ _ _ _ _ e=>e]
 show â _ A _ _ _ s';apply wpAny_noted;let(i,q,tk,r,u,rfl,hi,rfl,B,C,E,F):=I;refine À (WT (À ?_));by_cases G:i < d.size
 .refine W.item i _ _ _ G B λv h1 H hv aZ J=>?_;have hr:=ß (_c G (_a hl))
  let(b,hb,bI,bD,bC,isb):=ka i _ hr;have hv0 :=hv;rw[hb] at hv0;cases hv0;refine À (Æ ?_);refine À (XM (W7 hx (E.at' λo e=>J _ o (by simpa using l) e) (λK L sb2=>?_) (by rw[hk];rfl)))
  refine À (wpAny_tests_nil  ?_);refine À (X9 (WM (v:=↥b) hk hx L ⋯ ?_) hdx)
  have k2 :=λc o N U e=>sb2.extBut c o N (J c o (by simpa using U) e)
  have X:K.IsTuple b rows[i].toArray:=isb.at λo e=>k2 b o bC bI (F b o bC bI bD e);have eF:=W.frame _ _ K aZ λc hc o e=>sb2.extBut c o (λz=>by subst z;rcases ì.mp hc with z | z;exact l z;exact p (by simpa using z)) e
  have D2:=k2 D _ h j C;refine À (WT (À (Æ (À (Vw (WJ X ?_))))));dsimp only;generalize e3:K.push { cls:=.type "tuple_iterator",data:=.fields [↥b,.int 0 0].toArray }=h3;have Y:∀ c o,K.get? c=↑o->h3.get? c=↑o:=λc o e=>e3 ▸ Â _ e;have lt:∀ {c:Ê}{o:Obj},K.get? c=↑o->c≠K.objs.size:=λe=>Û (é e);have ltb:b≠K.objs.size:=by let(o,e,_):=X;exact lt e
  have ltC:g.locals≠K.objs.size:=Û L.lt;have lta:a≠K.objs.size:=by let(_,o,e,_):=eF;exact lt e
  have ltI:I≠K.objs.size:=by obtain⟨⟨o,e,_⟩,_⟩:=eF;exact lt e
  have it3:h3.IsTupleIter K.objs.size b 0:=#[_,e3 ▸ Ï _ rfl,rfl,rfl];refine À (wpAny_runOwn (AL it3 ?_));refine Lm (aw:=(rows.take i).flatten) (show(A.mark none).handled=none from by show Option.or none A.handled=none;rw[hh];rfl) ltb (Í (WA (by rw[á])) (Í (AM rows i _ hr) hz)) hy hk hdy h (lt D2) (ü bD) ltC (ü bC) #[it3,X.at λo e=>Y _ o e] (Y _ _ D2) (L.at' λo e=>Y _ o e) λh4 tk4 m4 k4 hn4 ac4 k5=>Æ #[rfl,d.size + 1 - (i + 1),_u (_b hi) (Xs _),i + 1,h4,tk4,m4,k4,rfl,G,rfl,?_,?_,hn4,λc o N U z3 e=>?_]
  .have sI:=eF.1;have sa:=eF.2;exact#[sI.at λo e=>k5 _ o (ü l) ltI (ü j) (Y _ o e),sa.at λo e=>k5 _ o (ü p) lta (ü hDa) (Y _ o e)]
  .rw[take_succ,hr];show _=↑(wX ((rows.take i)++[rows[i]]).flatten k4);rw[Ys];simpa using ac4
  .have e2:=k2 c o N U (F c o N U z3 e);exact k5 c o N (lt e2) z3 (Y c o e2)
 .have hin:i=d.size:=_m hi (Y9 G)
  subst hin;refine W.done _ _ _ B λh1 H J=>Æ (hR h1 H r u (E.at' λo e=>J _ o (by simpa using l) e) ?_ λc o N U z3 e=>J c o (by simpa using U) (F c o N U z3 e))
  have:=J D _ (by simpa using j) C
  rwa [show rows.take d.size=rows from by rw[<-hl,X3]] at this
end
end
section
variable {X:Cx}{x y:Str}{pe px py px2 ps pos:Pos}{iter:Þ}{sc:ý}
theorem D0{aa:⇑(Ê × Obj)}{σ:St}{H:Hp}{s:É}(I:Inv X aa σ H s):∀ {ys:⇑V}{rows:⇑⇑V}{aw:Zi},VX (λy row=>∃ b,y=V.ref b/\dU X.K H b row) ys rows->Vals ys aw ->
  ∃ rvs:⇑Zi,Vals rows.flatten rvs.flatten/\rvs.length=aw.length/\∀ (i:Nat) (row:Zi),rvs[i]?=↑row->∃ b:Ê,aw[i]?=↑(Wn b)/\b < s.heap.objs.size/\s.heap.IsTuple b row.toArray:=by
 intro ys rows aw h;induction h generalizing aw with
 |nil=>intro h;cases h;exact#[[],.nil,rfl,λi row e=>by simp at e]
 |cons q _ k =>
  intro h;let(b,e,hb):=q;subst e;cases h with
  |cons r1 r2 =>
   subst r1;let(rvs,v1,v2,v3):=k r2;let(aw,rv,p,_):=I.tuple hb;refine#[aw::rvs,rv.append v1,by simp[v2],λi row e=>?_]
   cases i with
   |zero=>cases e;exact#[b,rfl,by let(o,e,_):=p;exact é e,p]
   |succ i=>exact v3 i row e
theorem u6{aa:⇑(Ê × Obj)}{σ:St}{c:Hp}{d:É}{cl:⇑(Str × Ê)}{a:Ê}{ys:⇑V}{rows:⇑⇑V}(hc:X.calm)(S:dP X sc [x,y] [])(hx:sc.names.lookup x=↑.local)(f:sc.names.lookup y=↑.local)(dx:(x == ("__debug__":Str))=false)(dy:(y == ("__debug__":Str))=false)
  (g:Inv X aa σ c d) (hq:dU X.K c a ys) (pk:VX (λy h=>∃ b,y=V.ref b/\dU X.K c b h) ys rows) (hz:rows.flatten.length<=sizeLine)
  {R:VK} (q:∀ D,c D=none->R ↥D (upd c D (.lst rows.flatten))) {j:Ä->Ê->Result->É->Prop} (k:∀ l C s',DM X aa σ R l C s'->j l C (.ok .next) s') {E:Ä->É->Prop} :
  â (Ü X.prog X.w) X.A (pyIter ↥a) (λit s1=>â (Ü X.prog X.w) X.A (newList []) (λl m=>â (Ü X.prog X.w) X.A (newFunctionEnv sc X.env.globals cl [] X.env.qual none .none ↑X.env) (λce s4 =>
   Wy (Ü X.prog X.w) X.A (.compStart (eC x y pe px py px2 iter sc ps) 0 it l { ce with scope:=relabel sc X.env }) (j l ce.locals) s4) E m) E s1) E d:=by
 let(aw,rv,p,hzi):=g.tuple hq;let(r,v1,v2,v3):=D0 g pk rv;have s:a < d.heap.objs.size:=by
  let(o,e,_):=p;exact é e
 refine WJ p (Vn (wpAny_newFunctionEnv S.nocell (by simp) (λh2 u sb=>?_) S.kind))
 generalize v:d.heap.push _=z at u sb ⊢;generalize B:z.push _=g1 at u sb ⊢;have z0:z.objs.size=d.heap.objs.size + 1:=by rw[<-v,Xz]
 have z1:g1.objs.size=d.heap.objs.size + 2:=by rw[<-B,Xz,z0]
 have F:=Û (_r (WA (_a z0)))
 have G:d.heap.objs.size≠g1.objs.size:=by omega
 have H:=Û (VA (WA z0) (_l z1))
 have I:∀ {b:Ê},b < d.heap.objs.size->b≠d.heap.objs.size/\b≠z.objs.size/\b≠g1.objs.size:=λ{b} J=>#[Û J,Û (Ñ J (_f (WA (_a z0)))),Û (Ñ J (Í (VO _ _) (WA (_a z1))))]
 have L :=λb o e n=>sb.extBut b o n (Â _ (B ▸ Â _ e));have N :=λb o e=>L b o (v ▸ Â _ e) (I (é e)).2.2;have P:h2.IsTupleIter d.heap.objs.size a 0:=#[_,L _ _ (v ▸ Ï _ rfl) G,rfl,rfl];have U:∀ m ,m={ d with heap:=h2,toks:=d.toks + ([]:⇑(Str × Ä)).length }->Wy (Ü X.prog X.w) X.A (.compLoop (eC x y pe px py px2 iter sc ps) 0 ↥d.heap.objs.size ↥z.objs.size (compEnvC sc cl g1.objs.size X.env)) (j ↥z.objs.size g1.objs.size) m:=by
  rintro m rfl;refine F3    (g.ok.hd hc) (I s).1 (by rw[v2,á]) (by rw[<-v1.length];exact hz) (λi h e=>?_) (lookup_relabel_local hx) (lookup_relabel_local f) S.kind dx dy H F.symm (I s).2.1.symm G.symm (I s).2.2.symm #[P,Heap.IsTuple.at p λo e=>N _ o e] (sb.extBut _ _ H (Â _ (B ▸ Ï _ rfl))) u λh' tk m' k' Y hD' kp=>?_
  .let(b,w1,w2,w3):=v3 i h e;let(l1,l2,l3):=I w2;exact#[b,by simpa using w1,l1,l2,l3,w3.at λo e=>N _ o e]
  .have kp2:∀ b o,d.heap.get? b=↑o->h'.get? b=↑o:=λb o e=>by
    let(l1,l2,l3):=I (é e);exact kp b o l3 l1 l2 (N b o e)
   have hDn:c z.objs.size=none:=g.aX.fresh (_f (WA (_a z0)))
   have hCn:c g1.objs.size=none:=g.aX.fresh (Í (VO _ _) (WA (_a z1)))
   exact k _ _ _ #[z.objs.size,upd c z.objs.size (.lst rows.flatten),m',rfl,g.laid (t':=tk) kp2 (_f (WA (_a z0))) #[hz,r.flatten,k',v1,hD'],g.oh (Í (VO _ _) (WA (_a z1))) (by rw[ah H.symm];exact hCn),Y,q _ hDn]
 exact codeAny_compStart_list (U _ rfl) (wpAny_pyIter_tupleiter P (U _ rfl))
def IB(K:Å)(c:TE):TE:=λd H Q=>c d H λv e=>∃ a f rows,v=↥a/\dU K e a f/\VX (λy g=>∃ b,y=V.ref b/\dU K e b g) f rows/\rows.flatten.length<=sizeLine/\∀ D,e D=none->Q ↥D (upd e D (.lst rows.flatten))
theorem Ln(c:X.calm)(S:dP X sc [x,y] [])(d:sc.names.lookup x=↑.local)(f:sc.names.lookup y=↑.local)(g:(x == ("__debug__":Str))=false)(i:(y == ("__debug__":Str))=false)(j:PE X iter k)
  (hs:∀ v,Ww iter X.env v=pure v):PE X (eC x y pe px py px2 iter sc ps) (IB X.K k):=by
 intro l s m H Q I h;let(cl,n,p,u):=ng   λy f w=>I.ok.has y.1 (S.frees y f w);refine Xf  rfl hs n S.kind S.locs (cF (j l s m H _ I h) λv s1 z=>?_);let(x1,H1,A,B,a,ys,rows,rfl,E,F,hz,q):=z;subst B;refine u6 c S d f g i A E F hz q  λG C s' J=>?_;let(D,L,N,rfl,P,U,Y,r):=J;exact#[N,Y,λh' sb=>#[↥D,L,P.turned  (λb o hb e=>(sb.2 b hb).trans e) U.1 U.2.1 U.2.2.2.1 U.2.2.2.2.1 U.2.2.2.2.2,rfl,r]]
theorem D1(c:X.N.Nodup)(d:X.N[i]?=↑f)(g:Loc X.env.scope f)(j:Yi (eC x y pe px py px2 iter sc ps) ↑(.Name f k) pos.line X.env=pure true)
  (l:X.calm) (S:dP X sc [x,y] []) (m:sc.names.lookup x=↑.local) (n:sc.names.lookup y=↑.local) (p:(x == ("__debug__":Str))=false) (u:(y == ("__debug__":Str))=false) (w:PE X iter ti)
  (hs:∀ v,Ww iter X.env v=pure v) (hf:X.fn f=true\/X.env.scope.names.lookup f=↑.local) :
  PS X (.Assign [.Name f k] (eC x y pe px py px2 iter sc ps) pos) (Ce (IB X.K ti) (lB i)):=by
 intro aa s A H D I h;let(cl,B,hcl,hcf):=ng   λy n hk=>I.ok.has y.1 (S.frees y n hk);rw[exec_Assign_Name_used _ _ _ _ j];refine À (WT (À ?_));refine À (VY (Xf   rfl hs B S.kind S.locs
  (cF (w aa s A H _ I h) λv s1 h1=>?_)) (λ_ s' E=>Æ (Æ E)) λ_ _ e=>e)
 let(x1,H1,I1,r1,a,ys,rows,rfl,E,pk,hz,q):=h1;subst r1;refine u6 (R:=λv F=>lB i v A F D.nx) l S m n p u I1 E pk hz q  λacc C s' G=>?_;let(DA,F,m',rfl,I',J,L,r):=G;refine XM (mY (v:=↥DA) I' c d g rfl (λs3 I3 P=>?_) hf);let(a,sb,P):=P;exact#[m',L.sameBut sb (λz=>by
  rcases P with q | q
  .exact J.2.1 (z.trans q)
  .exact J.2.2.2.2.1 _ _ q z.symm),λh' Y=>#[_,F,I3.turned  (λb o hb e=>(Y.2 b hb).trans e) J.1 J.2.1 J.2.2.2.1 J.2.2.2.2.1 J.2.2.2.2.2,r]]
end
end L2
namespace SS
open PySem
def fS(m:Nat):Zh:=(ø 8).filter λi=>m.testBit i
def add(m v:Nat):Nat:=m ||| 2 ^ v
def dk(led:Bool)(m:Nat):SetTable:=if (fS m).length < 5 then#[7,(fS m).toArray,[].toArray,0,led,0,true] else#[31,(fS m).toArray,[].toArray,0,led,1,true]
def oq(led:Bool)(m v:Nat):SetTable:={ dk led m with place:=(fS (add m v)).toArray }
def pos(m v:Nat):Nat:=((fS m).filter (· < v)).length
def hs(m:Nat):Array Int:=((fS m).map Int.ofNat).toArray
def full(led:Bool)(m v:Nat):Bool:=if (oq led m v).tooFull then decide ((oq led m v).relaid (hs (add m v)) (SetTable.grown ((fS m).length + 1))=↑(dk led (add m v),(ø ((fS m).length + 1)).toArray)) else decide (oq led m v=dk led (add m v))
def IC(led:Bool)(m v:Nat):Bool:=if m.testBit v then decide (add m v=m) else decide (add m v < 256)&&decide ((dk led m).freeSlot (v:Int)=↑(v,false))&&decide ((dk led m).put v=(oq led m v,pos m v))&&(oq led m v).fits ((fS m).length + 1) &&
 decide ((fS m).take (pos m v)++v::(fS m).drop (pos m v)=fS (add m v))&&decide ((fS (add m v)).length=(fS m).length + 1)&&(dk led (add m v)).fits ((fS m).length + 1)&&full led m v
theorem Lo:([true,false].all λled=>(ø 256).all λm=>(dk led m).fits (fS m).length&&(ø 8).all λv=>IC led m v):=by decide +kernel
theorem gK(led:Bool)(a:m < 256):(dk led m).fits (fS m).length/\∀ v,v < 8->IC led m v:=by
 have h:=Ù.mp (Ù.mp Lo led ⋯) m (û.mpr a)
 rw[Á] at h;exact#[h.1,λv c=>Ù.mp h.2 v (û.mpr c)]
theorem pJ:i∈fS m↔i < 8/\m.testBit i:=by unfold fS;simp_all
abbrev led(w:ú):Bool:=!(w.params.followText "set-order")
def ent(g:Nat->Tok)(m:Nat):Array (Int × Ä):=((fS m).map λ(i:Nat)=>((i:Int),Xq i (g i))).toArray
def jD(w:ú)(h:þ)(a:Ê)(m:Nat):Prop:=∃ o c g,h.get? a=↑o/\o.ExactSet/\o.data=.set (ent g m) c (dk (led w) m)
theorem bY(g:Nat->Tok)(m:Nat):(ent g m).size=(fS m).length:=by unfold ent;simp
theorem D3(g:Nat->Tok)(u:Tok)(a:m.testBit v=false)(h:(fS m).take (pos m v)++v::(fS m).drop (pos m v)=fS (add m v)):SetTable.insertAt (ent g m) (pos m v) ((v:Int),Xq v u)=ent (λi=>if i=v then u else g i) (add m v):=by
 have c:∀ i∈fS m,i≠v:=λi d e=>by subst e;rw[(pJ.mp d).2] at a;cases a
 unfold ent;rw[<-h,(Vx λi d=>by simp_all:(fS m).map _=(fS m).map λ(i:Nat)=>((i:Int),Xq i (if i=v then u else g i)))];unfold SetTable.insertAt;simp;exact Xk ⋯
theorem AN(g:Nat->Tok)(m:Nat):(ent g m).map (·.1)=hs m:=by
 unfold ent hs;rw[map_toArray,à];rfl
theorem AO{a:Type}(c:Array a):((ø c.size).toArray).filterMap (c[·]?)=c:=by
 apply Ym.mp;rw[Array.toList_filterMap];exact PySem.W.krv_all c
section
variable {P:ð}{w:ú}{A:Vl}{E:Ä->É->Prop}{s:É}{a:Ê}{m:Nat}
theorem u7{v:Nat}(h:v < 8):(intKind P w).hash (v:Int)=v:=by
 exact (by decide:∀ v:Nat,v < 8->hashInt (v:Int)=v) v h
theorem elems(g:Nat->Tok)(m:Nat):ElemsOf (intKind P w) (ent g m).toList:=λe c=>by
 let(i,d,rfl):=Ç.mp c;exact#[#[i,intKind_is _ _ _ _,(u7 (pJ.mp d).1).symm],rfl]
theorem Q2(g:Nat->Tok)(u:Tok){led:Bool}(c:m < 256)(d:v < 8)(e:m.testBit v=false):layNew (dk led m) (ent g m) (v:Int) (.int v u)=(ent (λi=>if i=v then u else g i) (add m v),oq led m v,false,false):=by
 have h:=(gK led c).2 v d;unfold IC at h;rw[e] at h;refine BB.b8 h λ_ f j k l n _ _=>?_;simp[Zw] at f j k l n;unfold layNew;rw[f];dsimp only;rw[j,D3 g u e l,bY,n];unfold SetTable.orStandIn;rw[k];rfl
theorem Lp(g:Nat->Tok){led:Bool}(d:m < 256)(f:v < 8)(i:m.testBit v=false)(j:(oq led m v).tooFull):relayAll (oq led m v) (ent g (add m v)) (SetTable.grown (ent g (add m v)).size)=(ent g (add m v),dk led (add m v),false):=by
 have h:=(gK led d).2 v f;unfold IC at h;rw[i] at h;refine BB.b8 h λ_ _ _ _ _ k l n=>?_;simp[Zw] at k l n;unfold full at n;rw[Zu j,Zw] at n;unfold relayAll;rw[AN,bY,k,n];dsimp only;have e :=by
  have:=AO (ent g (add m v));rw[bY,k] at this;exact this
 rw[e,bY,k,l];have c:coversAll (ø ((fS m).length + 1)).toArray ((fS m).length + 1)=true:=by
  unfold coversAll;rw[List.isPerm_iff]
 rw[c];rfl
theorem ID(c:m < 256)(d:v < 8):add m v < 256:=by
 have h:=(gK true c).2 v d;unfold IC at h;cases e:m.testBit v with
 |true=>simp_all
 |false =>
  simp_all
theorem add_same(c:m < 256)(d:v < 8)(e:m.testBit v):add m v=m:=by
 have h:=(gK true c).2 v d;unfold IC at h
 simp_all
theorem Ox(c:m < 256)(d:v < 8)(hS:jD w s.heap a m)(h:∀ b f,Yw a s.heap f->jD w f a (add m v)->Q b { s with heap:=f }) :
  â (Ü P w) A (setAddHashed a (.int v u) ((intKind P w).hash v)) Q E s:=by
 let(o,k,g,l,n,p):=hS;have r:(dk (led w) m).fits (ent g m).size=true:=by rw[bY];exact(gK _ c).1
 have hsz:(fS m).length<=8:=Í (Wb _ _) ⋯
 have x:=elems (P:=P) (w:=w) g m;refine Vw (À (wpAny_setState_of l p r ?_));dsimp only;rw[byScan_of  rfl (by rw[bY];unfold scanBound;omega) x];apply À;refine À (XQ ?_);refine À (wpAny_setScan_of (intKind_is _ _ _ _) l p r x ?_);cases y:List.findIdx? _ _ with
 |some j =>
  dsimp only;let(hj,z,_):=List.findIdx?_eq_some_iff_getElem.mp y;let(i,hi,e):=Ç.mp (V3 hj);rw[show(ent g m).toList[j]=((i:Int),Xq i _) from e.symm] at z;have C:i=v:=by
   have:=(intKind P w).inj _ _ _ z (intKind_is P w i _);omega
  subst C;exact Æ (Æ (h false s.heap (Heap.SameBut.refl a s.heap) (by rw[add_same c d (pJ.mp hi).2];exact#[o,k,g,l,n,p])))
 |none =>
  have F:m.testBit v=false:=by
   cases G:m.testBit v with
   |false=>rfl
   |true =>
    have:((v:Int),Xq v _)∈(ent g m).toList:=Ç.mpr #[v,pJ.mpr #[d,G],rfl];have:=List.findIdx?_eq_none_iff.mp y _ this;rw[intKind_is] at this;cases this
  rw[u7 d,Q2 g u c d F];refine À (Æ ?_);have H:(oq (led w) m v).plain=true:=by unfold oq dk;split <;> rfl
  rw[Zu H];refine À (Æ ?_);simp only[plainKind,↓reduceIte];have G:=(gK (led w) c).2 v d;unfold IC at G;rw[F,Zv ï] at G;simp only[Á,Zw] at G;obtain⟨⟨_,h6⟩,I⟩:=G;have hlt:=ID c d;have hsz2:(fS (add m v)).length<=8:=Í (Wb _ _) ⋯
  have J:∀ g,(ent g (add m v)).size<=sizeLine:=λg=>by rw[bY,VD];omega
  have get:∀ {K:þ}{o:Obj}{es k t} (L:Array (Int × Ä)) (N:SetTable),K.get? a=↑o->o.data=.set es k t->(K.update a (Obj.putSet L N)).get? a=↑{ o with data:=.set L (k + 1) N }:=λ{K o es k t} L N e1 e2=>by
   have:=X7 (Obj.putSet L N) e1 (by rw[putSet_of L N e2];rfl)
   rw[putSet_of L N e2] at this;exact this
  refine À (wpAny_storeSet_of l p ?_ (J _));have U:=get (ent (λi=>if i=v then u else g i) (add m v)) (oq (led w) m v) l p;have X:=WC s.heap a (Obj.putSet (ent (λi=>if i=v then u else g i) (add m v)) (oq (led w) m v));simp only[Bool.not_false,Xr];unfold full at I;split
  .rename_i Y;rw[Zu Y] at I;rw[Lp _ c d F Y];dsimp only;refine À (Æ ?_);refine À (wpAny_storeSet_of U rfl ?_ (J _));exact Æ (Æ (h _ _ (X.trans (WC _ a _)) #[_,_,_,get _ _ U rfl,n,rfl]))
  .rename_i Y;rw[Zv Y,Zw] at I;exact Æ (Æ (h _ _ X #[_,k + 1,_,U,n,congrArg _ I]))
end
open PySem PySem.W PyProof.Rows
def met(a:Nat->Nat):Nat->Nat
 |0=>0|i + 1=>add (met a i) (a i)
theorem yQ(h:∀ i,val i < 8):∀ i,met val i < 256
 |0=>by show(0:Nat) < 256;decide|i + 1=>ID (yQ h i) (h i)
section
variable {P:ð}{w:ú}{A:Vl}
theorem jD.keep(x:jD w h a m)(k:∀ o,h.get? a=↑o->c.get? a=↑o):jD w c a m:=by
 let(o,d,g,e,r):=x;exact#[o,d,g,k o e,r]
theorem Lq{R:Result->É->Prop}{I:Ê}{fp wr:Zp}{G:Array GenState->Array GenState->Prop}{n:Nat}{Pv:Nat->Ä->Prop}{St:Nat->É->Prop}(W:WalksS P w A.in1 I fp wr G n Pv St)(S:Ê)(hf:S ∉ fp){val:Nat->Nat}(hv:∀ i,val i < 8)(hp:∀ i v,Pv i v->∃ t,v=.int (val i) t) :
  ∀ (k i:Nat) (s:É),i + k=n->St i s->jD w s.heap S (met val i)->(∀ s',Moved (S::wr) G s s'->jD w s'.heap S (met val n)->R (.ok (.ret .none)) s')->Wy (Ü P w) A (.builtin "set.update.loop" #[[↥S,↥I],[]]) R s:=by
 have hw :=λh=>hf (W.sub _ h);intro k
 induction k with
 |zero =>
  intro i s hk st x q;subst hk;refine Wr F.entry_set_update_loop ?_;refine À  (W.done s _ _ st λs1 mv=>?_);exact Æ (q s1 (mv.mono λb hb=>Î _ hb) (x.keep λo=>mv.heap S o hw))
 |succ k ih =>
  intro i s hk st x q;refine Wr F.entry_set_update_loop ?_;refine À  (W.item i s _ _ (_c (_b (VO _ _)) hk) st λv s1 pv aZ mv=>?_)
  let(t,rfl):=hp i v pv;refine À (m:=holding _ (setAdd S (.int (val i) t))) (Vw ?_)
  delta setAdd
  refine Vw (À ((intKind P w).pyHash (k:=(val i:Int)) (intKind_is _ _ _ _) ?_));refine Ox (s:={ s1 with toks:=s1.toks + 1 }) (yQ hv i) (hv i) (x.keep λo=>mv.heap S o hw) λb h2 sb x2=>?_;have off:∀ c o,c≠S->s1.heap.get? c=↑o->h2.get? c=↑o:=λc o hc e=>(sb.2 c hc).trans e;refine Æ #[plainId_quiet F.plain_set_update_loop _,ih (i + 1) _ (_g (_B _ _ _) hk) (W.frame _ s1 _ _ aZ (le_succ _) λc hc o e=>off c o (λz=>hf (z ▸ hc)) e) x2 λs2 mv2 x3=>?_]
  exact q s2 (Moved.trans W.gtrans ((mv.mono λb hb=>Î _ hb).then_heap (le_succ _) λc o hc e=>off c o (λz=>hc (z ▸ È)) e) mv2) x3
end
section
variable {P:ð}{w:ú}{A:Vl}{E:Ä->É->Prop}{s:É}
abbrev AQ(w:ú):Obj:={ cls:=.type "set",dict:=none,data:=.set [].toArray 0 (.fresh 0 0 (led w)) }
theorem Lr(a:Ä)(h:Q ↥s.heap.objs.size { s with heap:=s.heap.push (AQ w) }):Wy (Ü P w) A (.call (.builtin "set.__new__") #[[.type "set",a],[]]) (wants Q E) s:=by
 apply codeAny_of_tree;refine À  (wpAny_of_eq (F.newCall_set_1 a) (Æ #[plainId_quiet F.plain_set_new _,Wr F.entry_set_new ?_]));have c:=sub_set_self;unfold Xh.«set.__new__» Builtin.Frozenset.newClass;wp_walk
 refine YH (Æ ?_);exact À (wpAny_alloc (Æ (Æ h)))
theorem Ls{h:þ}:jD w (h.push (AQ w)) h.objs.size 0:=#[_,0,λ_=>0,Ï _ rfl,#[rfl,rfl,rfl],rfl]
structure TH(P:Program)(w:World)(T:String)(l:Addr)(o it:Obj)(n:Nat)(Pv:Nat->Value->Prop)(St:Addr->Nat->Heap->Prop):Prop where
 ty:o.cls=.type T
 f1:isSubtype (.type T) (.type "set")=pure false
 f2:isSubtype (.type T) (.type "frozenset")=pure false
 f3:(Value.type T == Value.type "dict")=false
 iter:∀ (A:Around) (E:Value->Shared->Prop) (s:Shared) (Q:Value->Shared->Prop),s.heap.get? l=↑o->Q ↥s.heap.objs.size { s with heap:=s.heap.push it }->wpAny (model P w) A (pyIter ↥l) Q E s
 walk:∀ (A:Around) (I:Addr),A.handled=none->l≠I->Walks P w A I [I,l] [I] n Pv (St I)
 zero:∀ h:Heap,h.get? l=↑o->St h.objs.size 0 (h.push it)
set_option maxHeartbeats 3200000 in
theorem pK{T:String}{l:Ê}{o it:Obj}{n:Nat}{Pv:Nat->Ä->Prop}{St:Ê->Nat->þ->Prop}{val:Nat->Nat}{Q:Ä->É->Prop}(D:TH P w T l o it n Pv St)(hh:A.handled=none)(ho:s.heap.get? l=↑o)(hv:∀ i,val i < 8)(hp:∀ i v,Pv i v->∃ t,v=.int (val i) t)
  (h:∀ (h':þ) (tk:Nat),jD w h' s.heap.objs.size (met val n)->(∀ b u,s.heap.get? b=↑u->h'.get? b=↑u)->Q ↥s.heap.objs.size { s with heap:=h',toks:=tk }):â (Ü P w) A (call (.type "set") [↥l]) Q E s:=by
 let(c,tl,hmro):=YG.mro;have hmade:=YG.made;have hsub:=YG.sub;have h1:=YG.notType;have h2:=YG.canCreate;have hct:=F.typeCall_set_1 ↥l;refine wpAny_call (codeAny_of_tree ?_);show â _ _ (callAny (.type "set") _) _ _ _;refine Æ #[Code.quiet_builtin _ (by decide +kernel),Wr F.entry_type_call ?_]
 rw[Around.under_plain (weight_type_call_type "set" [↥l] []) rfl]
 repeat (any_goals (first | assumption | wp_step))
 refine Xg (Lr ↥l (E:=E) (Q:=λv s1=>v=↥s.heap.objs.size/\s1={ s with heap:=s.heap.push (AQ w) }) #[rfl,rfl]) λr s1 hr=>?_;cases r with
 |error e=>exact hr
 |ok fl =>
  cases fl with
  |ret v =>
   let(rfl,rfl):=hr;have hT:Shared.TypeIs { s with heap:=s.heap.push (AQ w) } ↥s.heap.objs.size "set":=#[_,Ï _ rfl,rfl];have hli:=YG.init.lookup;have hbi:=YG.init.bind ↥s.heap.objs.size;have lS:l < s.heap.objs.size:=é ho;have ho1:(s.heap.push (AQ w)).get? l=↑o:=Â _ ho
   repeat (any_goals (first | assumption | wp_step))
   refine Xg (codeAny_call_builtin (R:=wants (λr s2=>r=.none/\∃ h' tk,s2={ s with heap:=h',toks:=tk }/\jD w h' s.heap.objs.size (met val n)/\∀ b u,s.heap.get? b=↑u->h'.get? b=↑u) E) YG.init.plain F.entry_set_init (check_set_init_1 hT ?_)) λr2 s2 hr2=>?_
   .have f1:=D.f1;have f2:=D.f2;have f3:=D.f3;let(ocls,odict,odata,oslots):=o;have hc:ocls=.type T:=D.ty;subst hc;unfold Xh.«set.__init__» noKeywords Builtin.Frozenset.updateFrom;generalize hPI:pyIter=PI
    wp_walk
    subst hPI;refine D.iter _ _ _ _ ho1 ?_;refine À (wpAny_runValue ?_);have hI:(s.heap.push (AQ w)).objs.size=s.heap.objs.size + 1:=Xz ..;have nI:l≠(s.heap.push (AQ w)).objs.size:=by rw[hI];exact Û (Wa lS)
    have nS:s.heap.objs.size ∉ [(s.heap.push (AQ w)).objs.size,l]:=by
     rw[hI];simp only[VP,Vp,ZE,not_or];exact#[Û (Xs _),XD lS]
    refine Lq ((D.walk _ _ (by simp[hh]) nI).toS) s.heap.objs.size nS hv hp n 0 _ (X6 _) (D.zero _ ho1) (Ls.keep λu e=>Â _ e) λs' mv x=>?_
    let(h',g',d',tk',os'):=s';have eg:g'=s.gens:=mv.gens;have ed:d'=s.drawn:=mv.drawn;have eo:os'=s.os:=mv.os;subst eg;subst ed;subst eo;refine Æ (Æ #[rfl,h',tk',rfl,x,λb u e=>?_]);have lb:=é e;refine mv.heap b u (λz=>?_) (Â _ (Â _ e));simp only[VP,Vp,ZE] at z;rw[hI] at z;rcases z with z | z
    .exact Û lb z
    .exact Û (Wa lb) z
   .cases r2 with
    |error e=>exact hr2
    |ok fl2 =>
     cases fl2 with
     |ret r =>
      let(rfl,h',tk,rfl,x,kp):=hr2
      repeat (any_goals (first | assumption | wp_step))
      exact h _ _ x kp
     |_=>exact hr2.elim
  |_=>exact hr.elim
end
def AR(t:SetTable):Nat->Nat
 |0=>0|i + 1=>t.place.getD i 0 + 1
structure CD(w:World)(t:SetTable)(es:Array (Int × Value)):Prop where
 fits:t.fits es.size=true
 plain:t.plain=true
 led:t.led=led w
 below:∀ i,i<=es.size->SetTable.below t.place (AR t i)=i
 small:es.size<=100
theorem ou:∀ {l:⇑α}{i:Nat} (h:i < l.length),(l[i]::l.eraseIdx i).Perm l
 |x::r,0,_=>.refl _|x::r,i + 1,h=>(List.Perm.swap x _ _).trans ((ou   (Nat.lt_of_succ_lt_succ h)).cons x)
theorem yR(next:Nat->Nat):∀ (n k:Nat) (left:⇑α) (out:Array α),left.length=n->((pickOrder.go next n k left out).toList).Perm (out.toList++left)
 |0,k,left,out,h=>by
  have :=Wx h;subst this;simp[pickOrder.go]
 |n + 1,k,left,out,h=>by
  have hl:next k % left.length < left.length:=Nat.mod_lt _ (VA (_h _ _) (_l h))
  unfold pickOrder.go;rw[ß hl];apply(yR next n _ _ _ (by grind)).trans
  rw[Array.toList_push,Ø];exact YV _ (ou hl)
theorem F4(next:Nat->Nat)(a:Array α):(pickOrder next a).toList.Perm a.toList:=by
 exact (yR next a.size 0 a.toList _ ⋯)
def ord(w:ú)(a c:Nat)(d:Array (Int × Ä)):Array (Int × Ä):=if w.params.followText "set-order" then pickOrder (w.params.setOrder a c) d else d
theorem AS(w:ú)(a c:Nat)(d:Array (Int × Ä)):(ord w a c d).toList.Perm d.toList:=by
 delta ord
 split
 .exact F4 _ _
 .exact .refl _
theorem u9(w:ú)(a c:Nat)(d:Array (Int × Ä)):(ord w a c d).size=d.size:=by
 simpa using ((AS w a c d).length_eq)
def AU(w:ú)(t:SetTable)(i:Nat):Nat:=if w.params.followText "set-order" then 0 else AR t i
def IE(w:ú)(S a n:Nat)(t:SetTable)(i:Nat):Obj:={ cls:=.type "set_iterator",data:=.fields [Wj (AU w t i),Wj i,↥S,Wj n,Wj a].toArray }
theorem cM:Slot "set_iterator" "__next__" "set_iterator.__next__":=.of (owner:="set_iterator") (n:="__next__") (rfl) (rfl) (rfl) (rfl) (by first | exact .inl (by decide +kernel) | exact .inr (by decide +kernel)) (by rw[YE];kernel_rfl)
theorem kL:Slot "set_iterator" "__iter__" "set_iterator.__iter__":=.of (owner:="set_iterator") (n:="__iter__") (rfl) (rfl) (rfl) (rfl) (by first | exact .inl (by decide +kernel) | exact .inr (by decide +kernel)) (by rw[YE];kernel_rfl)
theorem jE:entryFor table "set_iterator.__next__"=↑Xh.«set_iterator.__next__»:=entryFor_of_tree (rfl)
theorem va:entryFor table "set.__iter__"=↑Xh.«frozenset.__iter__»:=entryFor_alias (id':="frozenset.__iter__") (rfl) rfl (by decide +kernel) (by kernel_rfl)
theorem qV:entryFor table "set_iterator.__iter__"=↑Xh.«dict_keyiterator.__iter__»:=entryFor_alias (id':="dict_keyiterator.__iter__") (rfl) rfl (by decide +kernel) (by kernel_rfl)
theorem kM(a:Ä):argsOk "set_iterator.__next__" #[[a],[]]:=by
 kernel_rfl
theorem sV(a:Ä):argsOk "set_iterator.__iter__" #[[a],[]]:=by
 kernel_rfl
section
variable {P:ð}{w:ú}{A:Vl}{E:Ä->É->Prop}{s:É}{S ep:Nat}{t:SetTable}{es:Array (Int × Ä)}{o:Obj}
theorem IF(a:CD w t es)(c:s.heap.get? S=↑o)(d:o.ExactSet)(f:o.data=.set (es) ep t){Q:Ä->É->Prop}(h:Q ↥s.heap.objs.size { s with heap:=s.heap.push (IE w S ep es.size t 0) }):â (Ü P w) A (pyIter ↥S) Q E s:=by
 have g:s.TypeIs ↥S _:=#[o,c,d.1];have i:=a.fits;have j:=a.plain;refine wpAny_pyIter_slot g F.slot_set_iter (Vt F.slot_set_iter g va ?_ (F.args_set_iter_1 _));unfold Xh.«frozenset.__iter__» Builtin.Frozenset.slot0 slotArgs;simp -iota only [List.isEmpty_nil,Bool.not_true,false_eq_true,↓reduceIte,bind_assoc,WD,bne_self_eq_false];refine À (Æ (À (Æ (À (À (wpAny_setEntries_of c f i (Æ ?_)))))));apply À;refine VY (by
  refine À (wpAny_setState_of c f i (À (À (YH (Æ (Æ #[?_,rfl]))))));generalize t=t at j;let(m,n,p,q,r,u,v):=t;cases j;show(!w.params.followText _&&_)=false;cases w.params.followText _ <;> rfl:â _ A.in1 _ (λb l=>b=false/\l=s) E s) (λb l x=>?_) λ_ _ e=>e;let(rfl,rfl):=x;refine À (Æ ?_);refine À (wpAny_setEpoch_of c f i ?_);refine À (Vn (Æ #[_,rfl,_,_,#[_,Ï _ rfl,rfl],cM.lookup,?_]));have e:IE w S ep es.size t 0={ cls:=.type "set_iterator",data:=.fields [Wj 0,Wj 0,↥S,Wj (es).size,Wj ep].toArray }:=by
  unfold IE AU;split <;> rfl
 rw[e] at h;exact h
theorem D4(a:CD w t es)(c:i<=es.size)(d:s.heap.get? S=↑o)(f:o.data=.set (es) ep t):â (Ü P w) A (setNext S (AU w t i) i ep) (λr g=>g=s/\r=(ord w S ep (es))[i]?.map λe=>(e.2,AU w t (i + 1))) E s:=by
 have h:=a.fits;have j:=a.plain;have k:=a.led;refine À (wpAny_setState_of d f h ?_)
 delta ord AU
 show â _ _ (if w.params.followText _=true then _ else _) _ _ _;cases l:w.params.followText _ with
 |true =>
  rw[Zu rfl,Zv ⋯]
  apply À;refine À (wpAny_setState_of d f h (À (À (YH (Æ ?_)))));show â _ _ (if w.params.followText _=true then _ else _) _ _ _;rw[l];refine À (YH (Æ (Æ #[rfl,?_])));rfl
 |false =>
  simp only[false_eq_true,↓reduceIte];have k:t.led=true:=by simp_all
  have m:=a.below i c;have n :=by
   have:=a.fits;unfold SetTable.fits at this;rw[Á,Zx] at this;exact this.1
  have p:AR t (i + 1)=t.place.getD i 0 + 1:=rfl;rw[p];generalize AR t i=q at m;let(u,v,x,y,z,B,C):=t;subst j;subst k;have m:SetTable.below v q=i:=m;have n:v.size=es.size:=n;refine À (Æ (Æ #[rfl,?_]));rw[m];by_cases F:i < es.size
  .have G:es[i]?=↑es[i]:=by simp[F]
   have H:v[i]?=↑(v.getD i 0):=by simp[Array.getD,n,F]
   rw[G,H];rfl
  .have G:es[i]?=none:=by simp;exact Y9 F
   rw[G];rfl
theorem IG(a:CD w t es)(c:i < es.size)(d:s.heap.get? S=↑o)(f:o.data=.set (es) ep t)(g:s.heap.get? I=↑(IE w S ep es.size t i)){Q:Zn->É->Prop}
  (h:∀ v j,(ord w S ep (es))[i]?.map (·.2)=↑v->Yw I s.heap j->j.get? I=↑(IE w S ep es.size t (i + 1))->Q ↑v { s with heap:=j }):â (Ü P w) A (pyNext ↥I) Q E s:=by
 have k:s.TypeIs ↥I _:=#[_,g,rfl];refine À (wpAny_attempt (VB  k cM (Vt cM k jE ?_ (kM _))));refine À (Æ ?_);refine À (wpAny_fieldsOf g rfl ?_);dsimp only [Wj];refine À (wpAny_setEntries_of d f (a.fits) ?_);rw[Zv ⋯]
 refine À (VY (D4  a (so c) d f) (λr m n=>?_) λ_ _ e=>e);let(rfl,rfl):=n;have p:i < (ord w S ep (es)).size:=by rw[u9];exact c
 have q:(ord w S ep (es))[i]?=↑(ord w S ep _)[i]:=⋯
 simp -iota only [WO,q,map_some];refine À (WI g ⋯ λu x y=>?_)
 refine À (WI x ⋯ λz B C=>?_)
 refine Æ #[_,rfl,Æ (h _ z (by rw[q];rfl) (y.trans C) ?_)]
 delta IE
 exact B
theorem Lu{I:Ê}(hh:A.handled=none)(hm:CD w t es)(ho:s.heap.get? S=↑o)(hd:o.data=.set (es) ep t)(hI:s.heap.get? I=↑(IE w S ep es.size t es.size)){Q:Zn->É->Prop}
  (h:∀ h',Heap.ExtBut I s.heap h'->Q none { s with heap:=h' }):â (Ü P w) A (pyNext ↥I) Q E s:=by
 have hT:s.TypeIs ↥I _:=#[_,hI,rfl];refine À (wpAny_attempt (VB  hT cM (Vt cM hT jE ?_ (kM _))));refine À (Æ ?_);refine À (wpAny_fieldsOf hI rfl ?_);dsimp only [Wj];refine À (wpAny_setEntries_of ho hd (hm.fits) ?_);rw[Zv ⋯]
 refine À (VY (D4  hm (Ò _) ho hd) (λr s' hr=>?_) λ_ _ e=>e);let(rfl,rfl):=hr;simp -iota only [WO,(by simp[u9]:(ord w S ep (es))[es.size]?=none),Option.map_none];refine À (WI hI ⋯ λh1 hI1 sb1=>À ?_)
 refine À (m:=firstArgMember _ _) (wpAny_of_eq (a:=ö) (rfl) ?_);refine Vn ?_ (by size_fits)
 refine À (wpAny_handled ?_);rw[show A.in1.handled=none from hh];refine À (Æ (wpAny_throw ?_));refine À (wpAny_isInstance   #[_,Ï _ rfl,rfl] isSubtype_stop ?_);exact Æ (h _ ((sb1.extBut.push _).push _))
theorem F5(a:A.handled=none)(c:CD w t es)(d:o.ExactSet)(f:o.data=.set (es) ep t)(g:S≠I):Walks P w A I [I,S] [I] es.size (λi v=>(ord w S ep (es))[i]?.map (·.2)=↑v) (λi h=>h.get? S=↑o/\h.get? I=↑(IE w S ep es.size t i)) where
 sub:=λb j=>by simp at j;simp[j]
 frame:=λ_ _ _ k l=>#[l S ⋯ _ k.1,l I ⋯ _ k.2]
 item:=λi s Q E m k n=>IG c m k.1 f k.2 λv p q sb r=>n v p s.toks q #[(sb.2 S g).trans k.1,r] λb u j e=>(sb.2 b λz=>j (by simp[z])).trans e
 done:=λs Q E k n=>Lu a c k.1 f k.2 λp x=>n p s.toks λb u j e=>x b u (λz=>j (by simp[z])) e
 self:=λi s Q E k n=>by
  have y:s.TypeIs ↥I "set_iterator":=#[_,k.2,rfl];refine wpAny_pyIter_slot y kL (Vt kL y qV ?_ (sV _));show â _ _ (ret ↥I) _ _ s;exact Æ #[_,rfl,"set_iterator",_,y,cM.lookup,n]
set_option maxHeartbeats 3200000 in
theorem rQ{Q:Zi->É->Prop}(hh:A.handled=none)(hm:CD w t es)(ho:s.heap.get? S=↑o)(hx:o.ExactSet)(hd:o.data=.set (es) ep t)
  (hQ:∀ h' tk,s.heap.objs.size < h'.objs.size->(∀ b u,s.heap.get? b=↑u->h'.get? b=↑u)->Q ((ord w S ep (es)).toList.map (·.2)) { s with heap:=h',toks:=tk }):â (Ü P w) A (collect ↥S) Q E s:=by
 have lS :=é ho;have hsz:=hm.small;refine À (wpAny_runValue (Wr F.entry_proto_collect ?_));refine À  (Vn (Æ #[plainId_quiet F.plain_list_iadd _,Wr F.entry_list_iadd ?_]));show â _ A.in1 (Builtin.List.listExtendWith _ _ _) _ _ _;have oS:(s.heap.push { cls:=.type "list",data:=.seq ([]:Zi).toArray }).get? S=↑o:=Â _ ho;have hL:(s.heap.push _).get? s.heap.objs.size=↑{ cls:=.type "list",data:=.seq ([]:Zi).toArray }:=Ï _ rfl;have hT:Shared.TypeIs { s with heap:=s.heap.push _ } ↥S _:=#[o,oS,hx.1];refine À (Xe hT ?_);simp[(by simp[Builtin.List.listSameRef];exact XD lS:Builtin.List.listSameRef ↥s.heap.objs.size ↥S=false),(by decide:(Wz "set" == Wz "list")=false),(by decide:(Wz "set" == Wz "tuple")=false),Bool.or_false,false_eq_true,if_false];refine À (IF hm oS hx hd (À (Vw ?_)));have hT2:∀ u,Shared.TypeIs { s with heap:=(s.heap.push { cls:=.type "list",data:=.seq ([]:Zi).toArray }).push u } ↥S "set":=λu=>#[o,Â _ oS,hx.1]
 delta Builtin.List.listLengthHint
 refine À (wpAny_specialOf (hT2 _) F.slot_set_len.lookup ?_)
 wp_delta
 refine À (wpAny_isInstance (T:="set") (b:=true) (hT2 _) (by rw[YE];kernel_rfl) ?_)
 show â _ A.in1 (typeOf (Wn S) >>= _) _ _ _;refine À (Xe (hT2 _) (Æ ?_));rw[Zu (-0)]
 refine À (XQ ?_);generalize hI:s.heap.push { cls:=.type "list",data:=.seq ([]:Zi).toArray }=h1 at oS hL hT2;have sz1:h1.objs.size=s.heap.objs.size + 1:=by rw[<-hI];exact Xz ..
 have hL2:(h1.push (IE w S ep es.size t 0)).get? s.heap.objs.size=↑{ cls:=.type "list",data:=.seq ([]:Zi).toArray }:=Â _ hL;refine À (m:=Builtin.List.listTouch ↥s.heap.objs.size) ?_;show â _ A.in1 (updateSeq s.heap.objs.size (·.push .none) >>= λ_=>updateSeq s.heap.objs.size (·.pop)) _ _ _;refine À (wpAny_updateSeq hL2 rfl ?_);have hL3:=X7 (VF (·.push ö)) hL2 rfl;refine wpAny_updateSeq hL3 rfl ?_;have hL4:=X7 (VF (·.pop)) hL3 rfl;have off:∀ b u,b≠s.heap.objs.size->(h1.push (IE w S ep es.size t 0)).get? b=↑u->(((h1.push (IE w S ep es.size t 0)).update s.heap.objs.size (VF (·.push ö))).update s.heap.objs.size (VF (·.pop))).get? b=↑u :=
  λb u hb e=>(Y5 _ _ (ü hb)).trans ((Y5 _ _ (ü hb)).trans e)
 have nI:S≠h1.objs.size:=by rw[sz1];exact Û (Wa lS)
 have nS:s.heap.objs.size ∉ [h1.objs.size,S]:=by
  rw[sz1];simp only[VP,Vp,ZE,not_or];exact#[Û (Xs _),XD lS]
 refine Æ #[plainId_quiet F.plain_extend_loop _,codeAny_extend_loopS (F5 (P:=P) (by simp[hh]) hm hx hd nI).toS (by rw[VD];omega) s.heap.objs.size nS _ es.size 0 _ _ _ rfl (Wg _) #[off _ _ (Û lS) (Â _ oS),off _ _ (by rw[sz1];exact(Û (Xs _)).symm) (Ï _ rfl)] hL4 (ItemsOf.nil _) λs' acc c mv hS' it=>?_]
 refine À (m:=load s.heap.objs.size) (wpAny_load hS' (Æ ?_));have ea:acc.toList=(ord w S ep (es)).toList.map (·.2):=by
  refine List.ext_getElem? λj=>?_;rw[å,Wt,Wt];cases e:acc[j]? with
  |none =>
   have hj:es.size<=j:=by rw[<-it.1];simpa using e
   have:(ord w S ep (es))[j]?=none:=by simp[u9,hj]
   rw[this];rfl
  |some v=>rw[it.2 j v e]
 rw[ea];let(h',g',d',tk',os'):=s';have eg:g'=s.gens:=mv.gens;have ed:d'=s.drawn:=mv.drawn;have eo:os'=s.os:=mv.os;subst eg;subst ed;subst eo;refine hQ h' tk' (é hS') λb u e=>mv.heap b u (λz=>?_) (off b u (Û (é e)) (Â _ (hI ▸ Â _ e)));have lb:=é e;simp only[VP,Vp,ZE] at z;rw[sz1] at z;rcases z with z | z
 .exact Û lb z
 .exact Û (Wa lb) z
end
end SS
namespace Q
open PySem L2
abbrev Z:=Option (Int × Bool)
inductive S where
 |d (x:D) | fr (xs:⇑D) | z
 |ks (l:⇑⇑Int)
inductive R (α:Type) where
 |ok (a:α) (z:Z) | er (c:Nat) (z:Z)
abbrev M(a:Type):=Z->Option (R a)
def Ze{c:Type}(a:c):M c:=λz=>↑(.ok a z)
def Zg{a:Type}:M a:=λ_=>none
def Zf{c:Type}:Option c->M c
 |↑a=>Ze a|none=>Zg
def Zd{d e:Type}(m:M d)(f:d->M e):M e:=λz=>match m z with
 |↑(.ok a g)=>f a g|↑(.er c g)=>↑(.er c g)|none=>none
def M.calm{c:Type}(m:M c):M c:=λz=>match m z with
 |↑(.ok a d)=>↑(.ok a d)|_=>none
abbrev Env:=⇑(Option S)
def pl:⇑S->Option D
 |[.d x]=>↑x|[.fr xs]=>↑(.lst xs)|_=>none
def one:⇑S->Option S
 |[s]=>↑s|_=>none
def qJ:S->S
 |.fr a=>.d (.lst a)|s=>s
def Lv:S->Option D
 |.d x=>↑x|.fr xs=>↑(.lst xs)|_=>none
def kN:⇑S->Option ⇑D
 |[]=>↑[]|.d x::r=>(kN r).map (x::·)|.fr a::r=>(kN r).map (.lst a::·)|_::_=>none
inductive Bi where
 |add | sub | mul | fdiv | mod | pow
inductive Cm where
 |eq | ne | lt | le | gt | ge | is | mem | nmem
inductive Bf where
 |len | sorted | tuple | list | min | max | all | any | int | sset | oY
inductive Ty where
 |int | bool | tuple | list | str | seq
inductive iU where
 |v (i:Nat) | tup (ps:iU) | nil | cons (p r:iU)
inductive It where
 |seq | rng1 | rng2 | zip
 |enum
inductive Ex where
 |nil | cons (a r:Ex)
 |var (i:Nat) | con (x:D) | gint (g:Str) (i:Int)
 |tup (as:Ex) | lst (as:Ex)
 |bin (o:Bi) (a b:Ex) | cmp (o:Cm) (a b:Ex) | neg (a:Ex)
 |not (a:Ex) | and (a b:Ex) | or (a b:Ex) | orT (a b:Ex) | ite (c a b:Ex)
 |ch (o o':Cm) (a b c:Ex)
 |bf (f:Bf) (as:Ex) | isi (t:Ty) (a:Ex)
 |idx (a i:Ex) | sl (a lo hi:Ex) | rev (a:Ex)
 |call (f:Nat) (as:Ex)
 |comp (own:Nat) (au:⇑Nat) (p:iU) (it:It) (src cond el:Ex)
 |zget (i k:Nat) | lrng (b:Bool) (as:Ex)
 |flat (a:Ex) | oY (as:Ex)
 |dkeys (a:Ex) | memk (o:Bool) (a:Ex) (i:Nat)
abbrev most:Nat:=100000
def je:Nat:=2 ^ 4000
mutual
noncomputable def xD:D->D->Bool
 |.cq,.cq=>true|.bl a,.bl b=>a == b|~~~a,~~~b=>a == b|.str a,.str b=>a == b|.bl a,~~~b=>(if a then 1 else 0) == b|~~~a,.bl b=>a == (if b then 1 else 0)|.tup a,.tup b=>lg a b|.lst a,.lst b=>lg a b|.dct,.dct=>true|_,_=>false
noncomputable def lg:⇑D->⇑D->Bool
 |[],[]=>true|a::r,b::q=>xD a b&&lg r q|_,_=>false
end
mutual
noncomputable def Ak:D->D->Zr
 |~~~a,~~~b=>↑(decide (a < b))|.tup a,.tup b=>yS a b|_,_=>none
noncomputable def yS:⇑D->⇑D->Zr
 |[],[]=>↑false|[],_::_=>↑true|_::_,[]=>↑false|a::r,b::q=>if xD a b then yS r q else Ak a b
end
mutual
noncomputable def dz:D->Bool
 |.dct=>false|.tup l=>bu l|.lst l=>bu l|.str x=>PyData.strOk x|_=>true
noncomputable def bu:⇑D->Bool
 |[]=>true|x::r=>dz x&&bu r
end
mutual
noncomputable def deep:D->Nat
 |.tup l=>cj l + 1|.lst l=>cj l + 1|_=>0
noncomputable def cj:⇑D->Nat
 |[]=>0|x::r=>Nat.max (deep x) (cj r)
end
def iA(d:D):Bool:=dz d&&decide (deep d<=40)
def f7(l:⇑D):Bool:=bu l&&decide (cj l<=39)
theorem cm{c:Prop}[Decidable c]{d:Type}{a:Option d}{b:d}(h:(if c then a else none)=↑b):c/\a=↑b:=by simp_all
def Lw(a b:D):Zr:=if iA a&&iA b then ↑(xD a b) else none
def Oy:D->D->Zr
 |.tup l,.tup []=>↑l.isEmpty|_,_=>none
def eqQ(a b:D):Zr:=if iA a&&iA b then ↑(xD a b) else Oy a b
def Qf(a b:D):Zr:=if iA a&&iA b then Ak a b else none
def memD(x:D)(l:⇑D):Bool:=l.any λy=>xD y x
def lI(x:D)(l:⇑D):Zr:=if iA x&&f7 l then ↑(memD x l) else none
def iV:⇑D->Option Zl
 |[]=>↑[]|~~~i::r=>(iV r).map (i::·)|_=>none
def f9:Bi->D->D->Option S
 |.add,~~~i,~~~j=>↑(.d (~~~(i + j)))|.add,.tup a,.tup b=>if a.length + b.length<=most then ↑(.d (.tup (a++b))) else none|.add,.lst a,.lst b=>if a.length + b.length<=most then ↑(.fr (a++b)) else none|.sub,~~~i,~~~j=>↑(.d (~~~(i - j)))|.mul,~~~i,~~~j=>if i.natAbs < je/\j.natAbs < je then ↑(.d (~~~(i * j))) else none|.mul,.tup a,~~~j=>if 0<=j/\j.toNat * a.length<=most/\j < 1000000 then ↑(.d (.tup (ÿ j.toNat a).flatten)) else none|.mul,.lst a,~~~j=>if 0<=j/\j.toNat * a.length<=most/\j < 1000000 then ↑(.fr (ÿ j.toNat a).flatten) else none|.fdiv,~~~i,~~~j=>if 0 < j/\j.natAbs < je then ↑(.d (~~~(i / j))) else none|.mod,~~~i,~~~j=>if 0 < j then ↑(.d (~~~(i % j))) else none|.pow,~~~i,~~~j=>if 0<=j/\j<=1000/\i.natAbs < 2 ^ 64 then ↑(.d (~~~(i ^ j.toNat))) else none|_,_,_=>none
def CF:D->Bool
 |.cq=>true|_=>false
def TJ:D->D->Zr
 |.dct,.tup _=>↑true|a,b=>(Lw a b).map (!·)
def fB:Cm->D->D->Zr
 |.eq,a,b=>eqQ a b|.ne,a,b=>TJ a b|.lt,a,b=>Qf a b|.gt,~~~a,~~~b=>↑(decide (b < a))|.le,~~~a,~~~b=>↑(decide (a<=b))|.le,.tup a,.tup b=>(iV a).bind λc=>(iV b).map λd=>HT.leB c d|.ge,~~~a,~~~b=>↑(decide (b<=a))|.is,.bl a,.bl b=>↑(a == b)|.is,a,.cq=>↑(CF a)|.mem,a,.tup l=>lI a l|.mem,a,.lst l=>lI a l|.nmem,a,.tup l=>(lI a l).map (!·)|.nmem,a,.lst l=>(lI a l).map (!·)|_,_,_=>none
def CG:Ty->D->Bool
 |.int,~~~_=>true|.int,.bl _=>true|.bool,.bl _=>true|.tuple,.tup _=>true|.list,.lst _=>true|.str,.str _=>true|.seq,.tup _=>true|.seq,.lst _=>true|_,_=>false
def lJ:D->Zr
 |.bl b=>↑b|_=>none
def wY:D->Option ⇑D
 |.tup l=>↑l|_=>none
def SH:D->Zq
 |~~~i=>↑i|_=>none
def qW:D->Option ⇑D
 |.tup l=>↑l|.lst l=>↑l|_=>none
mutual
noncomputable def iO:D->Zl
 |~~~i=>[i]|.tup l=>Q3 l|_=>[]
noncomputable def Q3:⇑D->Zl
 |[]=>[]|x::r=>iO x++Q3 r
end
mutual
noncomputable def eqT:D->D->Bool
 |~~~i,~~~j=>i == j|.tup a,.tup b=>oy a b|_,_=>false
noncomputable def oy:⇑D->⇑D->Bool
 |[],[]=>true|x::r,y::q=>eqT x y&&oy r q|_,_=>false
end
def nR:D->Nat
 |~~~_=>0|.tup (~~~_::_)=>1|.tup (.tup _::_)=>2|_=>3
def cB(x y:D):Bool:=nR y == nR x&&(Ak x y == ↑(MySort.aU (iO x) (iO y))&&(eqT x y || !(iO x == iO y)))
def bV(l:⇑D):Bool:=l.all λx=>decide (nR x < 3)&&(iA x&&l.all (cB x))
def pL(k:D):⇑D->⇑D
 |[]=>[k]|y::r=>if MySort.aU (iO y) (iO k) then y::pL k r else k::y::r
def iW:⇑D->⇑D
 |[]=>[]|k::r=>pL k (iW r)
def aq(k m:Nat):D:=.tup ((TS.xy k 0 m).map λ(i:Nat)=>~~~i)
def rR(k:Nat):⇑D:=(ø (2 ^ k)).map (aq k)
def M0(k:Nat):⇑D:=(TS.sN k).map (aq k)
mutual
noncomputable def enc:D->Zl
 |~~~i=>[i]|.tup l=>F6 l|_=>[]
noncomputable def F6:⇑D->Zl
 |[]=>[0]|x::r=>1::(enc x++F6 r)
end
def pM:Nat->D->Bool
 |0,~~~_=>true|k + 1,.tup l=>l.all (pM k)|_,_=>false
def AV(k:D):⇑D->⇑D
 |[]=>[k]|y::r=>if MySort.aU (enc y) (enc k) then y::AV k r else k::y::r
def lK:⇑D->⇑D
 |[]=>[]|k::r=>AV k (lK r)
def yT:⇑D->Bool
 |.tup []::r=>decide (r.length < 60000)&&(r.all (pM 1) || r.all (pM 2))|_=>false
def qX(l:⇑D):Option ⇑D:=if yT l=true then ↑(lK l) else none
def sortedS(x:D):Option S:=(qW x).bind λl=>if l.length < 64/\bV l=true then ↑(.fr (iW l)) else(qX l).map S.fr
def oz:⇑D->Option Zh
 |[]=>↑[]|~~~i::r=>if 0<=i/\i < 8 then(oz r).map (i.toNat::·) else none|_=>none
def kO:Bf->⇑D->Option S
 |.len,[x]=>(qW x).map λl=>.d (~~~l.length)|.tuple,[x]=>(qW x).map λl=>.d (.tup l)|.list,[x]=>(qW x).map λl=>.fr l|.all,[.lst l]=>(l.mapM lJ).map λbs=>.d (.bl (bs.all id))|.any,[.lst l]=>(l.mapM lJ).map λbs=>.d (.bl (bs.any id))|.sorted,[x]=>sortedS x|.min,[~~~i,~~~j]=>↑(.d (~~~(if j < i then j else i)))|.max,[~~~i,~~~j]=>↑(.d (~~~(if j > i then j else i)))|.int,[.bl b]=>↑(.d (~~~(if b then 1 else 0)))|.int,[~~~i]=>↑(.d (~~~i))|.sset,[x]=>(qW x).bind λl=>(oz l).map λa=>.fr (((ø 8).filter λi=>a.contains i).map λ(n:Nat)=>~~~n)|_,_=>none
def iP:D->D->Option D
 |.tup l,~~~i=>G3 l i|.lst l,~~~i=>G3 l i|_,_=>none
def cutD(l:⇑D)(a c:Zq):⇑D:=(l.drop (HT.dO l.length 0 a)).take (HT.dO l.length l.length c - HT.dO l.length 0 a)
def TK:D->Zq->Zq->Option S
 |.tup l,a,c=>↑(.d (.tup (cutD l a c)))|.lst l,a,c=>↑(.fr (cutD l a c))|_,_,_=>none
def Q4:D->Option S
 |.tup l=>↑(.d (.tup l.reverse))|.lst l=>↑(.fr l.reverse)|_=>none
def AW:⇑S->Option Zq
 |[]=>↑none|[.d (~~~i)]=>↑↑i|_=>none
def iB:⇑D->Nat->⇑D
 |[],_=>[]|x::r,i=>.tup [~~~i,x]::iB r (i + 1)
def iC:⇑D->⇑D->⇑D
 |x::r,y::q=>.tup [x,y]::iC r q|_,_=>[]
def inR:Int->Bool
 |.ofNat n=>Nat.blt n 100000|.negSucc n=>Nat.blt n 99999
theorem kP:inR j=true↔-100000 < j/\j < 100000:=by
 cases j with
 |ofNat n=>show ble _ _=true↔_;rw[Nat.ble_eq];omega|negSucc n=>show ble _ _=true↔_;rw[Nat.ble_eq];omega
def AX:It->⇑D->Option ⇑D
 |.seq,[x]=>qW x|.rng1,[~~~j]=>if inR j=true then ↑((ø j.toNat).map λ(i:Nat)=>D.int i) else none|.rng2,[~~~i,~~~j]=>if inR i=true/\inR j=true then ↑((ø (j - i).toNat).map λ(k:Nat)=>D.int (i + k)) else none|.zip,[.tup a,.tup b]=>↑(iC a b)|.zip,[.lst a,.lst b]=>↑(iC a b)|.enum,[.tup a]=>↑(iB a 0)|.enum,[.lst a]=>↑(iB a 0)|_,_=>none
def UD:Bool->⇑D->S
 |true,a=>.d (.tup a)|false,a=>.fr a
def M1:Bool->Str
 |true=>"tuple"|false=>"list"
def Q5:⇑D->Option ⇑D
 |[x]=>AX .rng1 [x]|l=>AX .rng2 l
mutual
noncomputable def cJ:iU->D->Env->Option Env
 |.v i=>λx a=>↑(a.set i ↑(.d x))
 |.tup c=>λx a=>match x with
  |.tup l=>bindL c l a|_=>none
 |.nil=>λ_ _=>none|.cons _ _=>λ_ _=>none
noncomputable def bindL:iU->⇑D->Env->Option Env
 |.nil=>λl a=>match l with
  |[]=>↑a|_=>none
 |.cons p r=>λl a=>match l with
  |x::l=>(cJ p x a).bind λa=>bindL r l a|_=>none
 |.v _=>λ_ _=>none|.tup _=>λ_ _=>none
end
def turns(f:D->M (Option D)):⇑D->M ⇑D
 |[]=>Ze []|x::r=>Zd (f x) λo=>Zd (turns f r) λl=>Ze (match o with | ↑y=>y::l | none=>l)
def kQ(a e:Env->M ⇑S)(p:iU)(f:Env)(x:D):M (Option D):=Zd (Zf (cJ p x f)) λg=>Zd (a g) λc=>match c with
 |[]=>Zd (e g) λy=>Zd (Zf (pl y)) λy=>Ze ↑y|[.d (.bl true)]=>Zd (e g) λy=>Zd (Zf (pl y)) λy=>Ze ↑y|[.d (.bl false)]=>Ze none|_=>Zg
def AY(k:Nat):Option (Option S)->Z->Option (R ⇑S)
 |↑↑.z,↑p=>if k=0 then ↑(.ok [.d (~~~p.1)] ↑p) else if k=1 then ↑(.ok [.d (.bl p.2)] ↑p) else none|_,_=>none
abbrev FT:=Bool->Nat->⇑S->M S
abbrev dH(F:FT):FT:=λ_=>F true
def wZ(a:Env):Zh->Option ⇑S
 |[]=>↑[]
 |i::r=>match a[i]? with
  |↑↑s=>(wZ a r).map (s::·)|_=>none
def IH:D->Option ⇑D
 |.tup l=>(l.mapM wY).bind λa=>if a.flatten.length<=most then ↑a.flatten else none|_=>none
def pN:⇑D->Option Zh
 |[]=>↑[]|~~~i::r=>if 0<=i/\i < 8 then(pN r).map (i.toNat::·) else none|_=>none
def AZ:⇑D->Option S
 |[x]=>(qW x).bind λl=>(pN l).map λa=>.d (~~~((ø 8).filter λi=>a.contains i).length)|_=>none
def F7:D->Option Zl
 |.tup l=>iV l|_=>none
def D5:⇑D->Option ⇑Zl
 |[]=>↑[]|x::r=>(F7 x).bind λk=>(D5 r).map (k::·)
def II:D->Option ⇑Zl
 |.lst l=>D5 l|_=>none
def Ly:Option (Option S)->Option ⇑Zl
 |↑↑(.ks l)=>↑l|_=>none
def ev:FT->Ex->Env->M ⇑S
 |F,.nil=>λ_=>Ze []|F,.cons a r=>λe=>Zd (ev F a e) λx=>Zd (Zf (one x)) λs=>Zd (ev F r e) λy=>Ze (s::y)
 |F,.var i=>λe=>match e[i]? with
  |↑↑s=>Ze [qJ s]|_=>Zg
 |F,.con x=>λ_=>Ze [.d x]|F,.gint _ i=>λ_=>Ze [.d (~~~i)]|F,.tup as=>λe=>Zd (ev F as e) λl=>Zd (Zf (kN l)) λds=>if ds.length<=most then Ze [.d (.tup ds)] else Zg|F,.lst as=>λe=>Zd (ev F as e) λl=>Zd (Zf (kN l)) λds=>if ds.length<=most then Ze [.fr ds] else Zg|F,.bin o a b=>λe=>Zd (ev F a e) λx=>Zd (Zf (pl x)) λx=>Zd (ev F b e) λy=>Zd (Zf (pl y)) λy=>Zd (Zf (f9 o x y)) λs=>Ze [s]|F,.cmp o a b=>λe=>Zd (ev F a e) λx=>Zd (Zf (pl x)) λx=>Zd (ev F b e) λy=>Zd (Zf (pl y)) λy=>Zd (Zf (fB o x y)) λb=>Ze [.d (.bl b)]|F,.neg a=>λe=>Zd (ev F a e) λx=>Zd (Zf ((pl x).bind SH)) λi=>Ze [.d (~~~(-i))]|F,.not a=>λe=>Zd (ev F a e) λx=>Zd (Zf ((pl x).bind lJ)) λb=>Ze [.d (.bl !b)]|F,.and a b=>λe=>Zd (ev F a e) λx=>Zd (Zf ((pl x).bind lJ)) λc=>if c then Zd (ev F b e) λy=>Zd (Zf ((pl y).bind lJ)) λc=>Ze [.d (.bl c)] else Ze [.d (.bl false)]|F,.or a b=>λe=>Zd (ev F a e) λx=>Zd (Zf ((pl x).bind lJ)) λc=>if c then Ze [.d (.bl true)] else Zd (ev F b e) λy=>Zd (Zf ((pl y).bind lJ)) λc=>Ze [.d (.bl c)]|F,.orT a b=>λe=>M.calm (Zd (ev F a e) λx=>Zd (Zf ((pl x).bind wY)) λl=>if l.isEmpty then Zd (ev F b e) λy=>Zd (Zf ((pl y).bind wY)) λl=>Ze [.d (.tup l)] else Ze [.d (.tup l)])|F,.ite c a b=>λe=>Zd (ev F c e) λx=>Zd (Zf ((pl x).bind lJ)) λc=>if c then ev F a e else ev F b e
 |F,.ch o g a b c=>λe=>Zd (ev F a e) λx=>Zd (Zf (pl x)) λx=>Zd (ev F b e) λy=>Zd (Zf (pl y)) λy=>Zd (Zf (fB o x y)) λk =>
   if k then Zd (ev F c e) λw=>Zd (Zf (pl w)) λw=>Zd (Zf (fB g y w)) λk=>Ze [.d (.bl k)] else Ze [.d (.bl false)]
 |F,.bf f as=>λe=>Zd (ev F as e) λl=>Zd (Zf (kN l)) λds=>Zd (Zf (kO f ds)) λs=>Ze [s]|F,.isi t a=>λe=>Zd (ev F a e) λx=>Zd (Zf (pl x)) λx=>Ze [.d (.bl (CG t x))]|F,.idx a i=>λe=>Zd (ev F a e) λx=>Zd (Zf (pl x)) λx=>Zd (ev F i e) λy=>Zd (Zf (pl y)) λy=>Zd (Zf (iP x y)) λr=>Ze [.d r]|F,.sl a h j=>λe=>Zd (ev F a e) λx=>Zd (Zf (pl x)) λx=>Zd (ev F h e) λu=>Zd (Zf (AW u)) λu=>Zd (ev F j e) λv=>Zd (Zf (AW v)) λv=>Zd (Zf (TK x u v)) λs=>Ze [s]|F,.rev a=>λe=>Zd (ev F a e) λx=>Zd (Zf ((pl x).bind Q4)) λs=>Ze [s]|F,.call f as=>λe=>Zd (ev F as e) λl=>Zd (F false f (l.map qJ)) λs=>Ze [s]|F,.comp own m p it n q A=>λe=>Zd (ev F n e) λl=>Zd (Zf ((kN l).bind (AX it))) λB=>if B.length<=most then Zd (M.calm (turns (kQ (ev F q) (ev F A) p (ÿ own none++m.map λi=>(e[i]?).getD none)) B)) λC=>Ze [.fr C] else Zg|F,.zget i k=>λe z=>AY k e[i]? z|F,.lrng b as=>λe=>Zd (ev F as e) λl=>Zd (Zf ((kN l).bind Q5)) λB=>Ze [UD b B]|F,.flat a=>λe=>Zd (ev F a e) λl=>Zd (Zf ((pl l).bind IH)) λB=>Ze [.fr B]|F,.oY as=>λe=>Zd (ev F as e) λl=>Zd (Zf (kN l)) λds=>Zd (Zf (AZ ds)) λs=>Ze [s]|F,.dkeys a=>λe=>Zd (ev F a e) λl=>Zd (Zf ((pl l).bind II)) λE=>Ze [.ks E]|F,.memk o a i=>λe=>Zd (ev F a e) λl=>Zd (Zf ((pl l).bind F7)) λk=>Zd (Zf (Ly e[i]?)) λE=>Ze [.d (.bl (E.contains k == o))]
def lN(a:Env):Env:=a.map λo=>match o with
 |↑.z=>none|o=>o
def w4(c:Nat):D:=.lst [~~~c]
def dQ(F:FT)(d:Env):⇑(Zh × Ex)->Z->Option (Zh × Z)
 |[],z=>↑([],z)
 |(e,a)::r,z=>match wZ d e with
  |none=>none
  |↑f=>match ev (dH F) a (f.map some) z with
   |↑(.er c g)=>if c < 12 then(dQ F d r g).map λp=>(c::p.1,p.2) else none|_=>none
inductive Sm where
 |nil | seq (s r:Sm)
 |set (p:iU) (e:Ex) | ret (e:Ex) | iff (c:Ex) (t e:Sm)
 |fr (p:iU) (it:It) (src:Ex) (b:Sm)
 |whl (c:Ex) (b:Sm)
 |rais (c:Nat) | exp (e:Ex)
 |app (i:Nat) (e:Ex)
 |newz (i:Nat) (f:Nat) (as:Ex) | zset (i:Nat) (e:Ex)
 |lams (i:Nat) (ls:⇑(⇑Nat × Ex)) (g:Option (Nat × Ex)) (e:Ex) (t r:Sm)
inductive O where
 |nx (ρ:Env) | rt (s:S)
def lO(F:FT)(all:⇑(Zh × Ex))(e:Ex)(a c:Env->M O)(f:Env):M O:=λz=>match dQ F f all z with
 |none=>none
 |↑(g,h)=>Zd (ev F e f) (λl=>Zd (Zf (pl l)) λd=>Zd (Zf (fB .ne (.lst (g.map w4)) d)) λb=>Zd (if b then a f else Ze (.nx f)) λo=>match o with
  |.nx f=>c f
  |.rt s=>Ze (.rt s)) h
def rS(F:FT)(all:⇑(Zh × Ex))(g:Option (Nat × Ex))(e:Ex)(c f:Env->M O)(h:Env):M O:=match g with
 |none=>lO F all e c f h|↑(j,a)=>if j < h.length then Zd (ev F a h) λl=>Zd (Zf ((pl l).bind lJ)) λb=>if b then lO F all e c f (h.set j ↑(.d (.bl b))) else f (h.set j ↑(.d (.bl b))) else Zg
mutual
noncomputable def bare:D->Bool
 |.lst _=>false|.tup l=>de l|.dct=>false|_=>true
noncomputable def de:⇑D->Bool
 |[]=>true|x::r=>bare x&&de r
end
def lQ:S->Bool
 |.d x=>bare x|.fr xs=>de xs|_=>true
def pO(a:Env):Env:=a.map λo=>o.map qJ
def xE(b:Bool):Option S->Option S
 |↑(.fr a)=>↑(if b then .fr a else .d (.lst a))|o=>o
theorem vb(b:Bool)(a:Env):a.map (xE b)=if b then a else pO a:=by
 rw[show xE b=λo=>if b then o else o.map qJ from funext (λo=>by
  match o with
  |↑(.fr c)=>cases b <;> rfl
  |↑(.d _)=>cases b <;> rfl
  |↑.z=>cases b <;> rfl
  |↑(.ks _)=>cases b <;> rfl
  |none=>cases b <;> rfl)];cases b with
 |true=>exact map_id a|false=>rfl
def eW(s:S)(a:Env):Env:=a.map (xE (lQ s))
def iX:iU->S->Env->Option Env
 |p,.d x,a=>cJ p x a|.v i,s,a=>if i < a.length then ↑(a.set i ↑s) else none|_,_,_=>none
def sW(f:D->Env->M O):⇑D->Env->M O
 |[],a=>Ze (.nx a)
 |x::r,a=>Zd (f x a) λo=>match o with
  |.nx a=>sW f r a|.rt s=>Ze (.rt s)
def F8(c:Env->M ⇑S)(f:Env->M O):Nat->Env->M O
 |0,_=>Zg
 |n + 1,a=>Zd (c a) λx=>Zd (Zf ((pl x).bind lJ)) λk=>if k then Zd (f a) λo=>match o with
  |.nx a=>F8 c f n a|.rt s=>Ze (.rt s)
  else Ze (.nx a)
def ownAt(a:Env)(i:Nat):Option ⇑D:=match a[i]? with
 |↑↑(.fr c)=>↑c|_=>none
def IJ:D->Bool
 |.tup l=>de l|.lst l=>de l|_=>true
def xF(l:⇑S):Bool:=match kN l with
 |↑ds=>ds.all IJ|none=>false
def M3:S->Option S
 |.z=>none|.ks _=>none|s=>↑s
def IK:(it:It)->(e:Ex)->Option {i:Nat // it=.seq/\e=.cons (.var i) .nil}
 |.seq,.cons (.var i) .nil=>↑#[i,rfl,rfl]|_,_=>none
def qY:⇑S->Bool
 |[]=>false|.d (.lst _)::_=>true|_::r=>qY r
def vc(it:It)(e:Ex)(l:⇑S)(a:Env):Env:=match IK it e with
 |↑i=>a.set i.1 ((a[i.1]?.getD none).map qJ)
 |none=>match qY l with
  |true=>pO a|false=>a
def D6(it:It)(e:Ex)(l:⇑S)(a:Env):Env:=(vc it e l a).map (xE (xF l))
abbrev F9:Nat:=20000
def xG(a:Bool)(c:Env)(i:Nat):⇑S->Option (R O)
 |[.fr [~~~n,.bl b]]=>if a then ↑(.ok (.nx ((lN c).set i ↑.z)) ↑(n,b)) else none|_=>none
def IL(a:Env)(v:Int):Option (Option S)->Z->Option (R O)
 |↑↑.z,↑p=>↑(.ok (.nx a) ↑(v,p.2))|_,_=>none
def ex(F:FT)(a:Bool):Sm->Env->M O
 |.nil=>λd=>Ze (.nx d)
 |.seq s r=>λd=>Zd (ex F a s d) λo=>match o with
  |.nx d=>ex F a r d|.rt s=>Ze (.rt s)
 |.set p e=>λd=>Zd (ev F e d) λl=>Zd (Zf (one l)) λs=>Zd (Zf (iX p s (eW s d))) λd=>Ze (.nx d)
 |.ret e=>λd=>match e with
  |.var i=>(match d[i]? with
   |↑↑s=>Zd (Zf (M3 s)) λs=>Ze (.rt s)
   |_=>Zg)
  |e=>Zd (ev F e d) λl=>Zd (Zf ((one l).bind M3)) λs=>Ze (.rt s)
 |.iff c t e=>λd=>Zd (ev F c d) λx=>Zd (Zf ((pl x).bind lJ)) λc=>if c then ex F a t d else ex F a e d|.fr p it src b=>λd=>Zd (ev F src d) λl=>Zd (Zf ((kN l).bind (AX it))) λh=>sW (λx d=>Zd (Zf (cJ p x d)) λd=>ex F a b d) h (D6 it src l d)|.lams i j g e t r=>λd=>if i < d.length then rS F j g e (ex F a t) (ex F a r) (d.set i none) else Zg|.whl c b=>λd=>F8 (ev F c) (ex F a b) F9 d|.rais c=>λ_ z=>↑(.er c z)|.exp e=>λd=>Zd (ev F e d) λl=>Zd (Zf (one l)) λ_=>Ze (.nx d)|.app i e=>λd=>Zd (Zf (ownAt d i)) λh=>Zd (ev F e d) λl=>Zd (Zf (pl l)) λx=>if bare x=true/\h.length < most then Ze (.nx (d.set i ↑(.fr (h++[x])))) else Zg|.newz i f as=>λd=>Zd (ev F (.call f as) d) λl=>λ_=>xG a d i l|.zset i e=>λd=>Zd (ev F e d) λl=>Zd (Zf ((pl l).bind SH)) λv=>λz=>IL d v d[i]? z
inductive Df where
 |code (ps ns:Nat) (b:Sm) | prim (f:⇑S->M S)
def nU:Z->Z->Z
 |none,_=>none|↑_,z=>z
def start(a:Nat)(l:⇑S):Env:=l.map some++ÿ (a - l.length) none
def run(F:FT):Df->⇑S->M S
 |.code a e b,l=>λz=>if l.length=a/\a<=e then(match ex F z.isNone b (start e (l.map qJ)) z with
  |↑(.ok (.nx _) g)=>↑(.ok (.d .cq) (nU z g))|↑(.ok (.rt s) g)=>↑(.ok s (nU z g))|↑(.er c g)=>↑(.er c (nU z g))
  |none=>none) else none
 |.prim f,l=>f l
def aj(T:⇑Df):Nat->Nat->⇑S->M S
 |k + 3,f,l=>match T[f]? with
  |↑d=>run (λb g m=>match b with | true=>aj T k g m | false=>aj T (k + 2) g m) d l
  |none=>Zg
 |_,_,_=>Zg
abbrev oA(T:⇑Df)(k:Nat):FT:=λb g m=>match b with | true=>aj T (k - 2) g m | false=>aj T k g m
theorem A0(T:⇑Df)(k f:Nat)(l:⇑S):aj T (k + 3) f l=match T[f]? with
  |↑d=>run (oA T (k + 2)) d l|none=>Zg:=rfl
end Q
namespace Q
open PySem L2 PySem.Spec PyProof.Rows
def dA(K:Å)(H:Hp)(a:Ê)(c:⇑V):Prop:=Rd H a (.lst c)\/∃ (d:Zo) (n:Nat),K.lookup a=↑{ cls:=.type "list",data:=.seq d n }/\d.size<=sizeLine/\Vals c d.toList
theorem dA.of{K:Å}{H:Hp}{a:Ê}{c:⇑V}(h:H a=↑(.lst c)):dA K H a c:=.inl (.inl h)
theorem dA.sq{K:Å}{H:Hp}{a:Ê}{c:⇑V}(h:dA K H a c):jX K H a c:=by
 rcases h with h | ⟨d,n,e,f,g⟩
 .exact .inl h
 .exact .inr #[_,d,n,e,rfl,rfl,rfl,f,g]
theorem dA.same{K:Å}{H c:Hp}{a:Ê}{d:⇑V}(h:dA K H a d)(e:ag H c):dA K c a d:=by
 rcases h with (h | ⟨o,h⟩) | h
 .exact .inl (.inl (e _ _ h))
 .exact .inl (.inr #[o,e _ _ h])
 .exact .inr h
theorem dA.mem(I:Inv X c σ H s)(h:dA X.K H a xs):xs.length<=sizeLine/\∃ (d:Zi) (n:Nat),Vals xs d/\xs.length=d.length/\s.heap.get? a=↑{ cls:=.type "list",data:=.seq d.toArray n }:=by
 rcases h with (h | ⟨o,h⟩) | ⟨d,n,f,g,i⟩
 .exact I.yF h
 .let(e,z,d,n,r,j):=I.aX a _ h;exact#[z,d,n,r,r.length,j]
 .refine#[by rw[i.length];exact g,d.toList,n,i,i.length,?_]
  have:=I.mW a _ f
  simp_all
mutual
def Hd(K:Å)(H:Hp):D->V->Prop
 |.cq,v=>v=.cq|.bl b,v=>v=.bl b|~~~i,v=>v= ~~~i|.str x,v=>v=.str x|.tup ds,v=>∃ a c,v=↥a/\dU K H a c/\bg K H ds c|.lst ds,v=>∃ a c,v=↥a/\dA K H a c/\bg K H ds c|.dct,v=>∃ a e,v=↥a/\H a=↑(.dK e)
def bg(K:Å)(H:Hp):⇑D->⇑V->Prop
 |[],c=>c=[]|d::ds,c=>∃ x r,c=x::r/\Hd K H d x/\bg K H ds r
end
section
variable {K:Å}{H H':Hp}
mutual
theorem Hd.same(e:ag H H'):∀ {d:D}{v:V},Hd K H d v->Hd K H' d v
 |.cq,_,h=>by unfold Hd at h ⊢;exact h|.bl _,_,h=>by unfold Hd at h ⊢;exact h|~~~_,_,h=>by unfold Hd at h ⊢;exact h|.str _,_,h=>by unfold Hd at h ⊢;exact h
 |.tup ds,_,h=>by
  unfold Hd at h ⊢;let(a,c,rfl,f,g):=h;exact#[a,c,rfl,e.jB f,bg.same e g]
 |.lst ds,_,h=>by
  unfold Hd at h ⊢;let(a,c,rfl,f,g):=h;exact#[a,c,rfl,f.same e,bg.same e g]
 |.dct,_,h=>by
  unfold Hd at h ⊢;let(a,i,rfl,f):=h;exact#[a,i,rfl,e _ _ f]
theorem bg.same(e:ag H H'):∀ {ds:⇑D}{c:⇑V},bg K H ds c->bg K H' ds c
 |[],_,h=>by unfold bg at h ⊢;exact h
 |d::ds,_,h=>by
  unfold bg at h ⊢;let(x,r,rfl,f,g):=h;exact#[x,r,rfl,Hd.same e f,bg.same e g]
end
mutual
theorem Hd.has:∀ {d:D}{v:V},Hd K H d v->Ia K H d v
 |.cq,_,h=>by unfold Hd at h;unfold Ia;exact h|.bl _,_,h=>by unfold Hd at h;unfold Ia;exact h|~~~_,_,h=>by unfold Hd at h;unfold Ia;exact h|.str _,_,h=>by unfold Hd at h;unfold Ia;exact h
 |.tup ds,_,h=>by
  unfold Hd at h;unfold Ia;let(a,c,rfl,e,f):=h;exact#[a,c,rfl,e,bg.has f]
 |.lst ds,_,h=>by
  unfold Hd at h;unfold Ia;let(a,c,rfl,e,f):=h;exact#[a,c,rfl,e.sq,bg.has f]
 |.dct,_,h=>by unfold Hd at h;unfold Ia;exact h
theorem bg.has:∀ {ds:⇑D}{c:⇑V},bg K H ds c->qR K H ds c
 |[],_,h=>by unfold bg at h;unfold qR;exact h
 |d::ds,_,h=>by
  unfold bg at h;unfold qR;let(x,r,rfl,e,f):=h;exact#[x,r,rfl,Hd.has e,bg.has f]
end
theorem bg.nil:bg K H [] []:=rfl
theorem bg.cons(h:Hd K H d x)(r:bg K H ds xs):bg K H (d::ds) (x::xs):=by exact#[x,xs,rfl,h,r]
theorem bg.bj(h:bg K H (d::ds) xs):∃ x r,xs=x::r/\Hd K H d x/\bg K H ds r:=by exact h
theorem bg.cC(h:bg K H [] xs):xs=[]:=by exact h
theorem bg.length:∀ {ds:⇑D}{xs:⇑V},bg K H ds xs->xs.length=ds.length
 |[],_,h=>by rw[h.cC];rfl
 |d::ds,_,h=>by
  let(x,r,rfl,_,a):=h.bj;simp[a.length]
theorem bg.get:∀ {ds:⇑D}{xs:⇑V}{i:Nat}{d:D},bg K H ds xs->ds[i]?=↑d->∃ x,xs[i]?=↑x/\Hd K H d x
 |[],_,_,_,_,e=>by simp at e
 |d::ds,_,i,d',h,e=>by
  let(y,r,rfl,h1,h2):=h.bj;cases i with
  |zero=>simp at e;subst e;exact#[y,rfl,h1]
  |succ i =>
   let(x',e1,e2):=bg.get  h2 (e);exact#[x',e1,e2]
theorem bg.append:∀ {ds a:⇑D}{c e:⇑V},bg K H ds c->bg K H a e->bg K H (ds++a) (c++e)
 |[],_,_,_,h,g=>by rw[h.cC];exact g
 |d::ds,_,_,_,h,g=>by
  let(x,r,rfl,f,i):=h.bj;exact .cons f (bg.append i g)
theorem bg.take:∀ {ds:⇑D}{a:⇑V} (n:Nat),bg K H ds a->bg K H (ds.take n) (a.take n)
 |ds,a,0,_=>rfl|[],_,n + 1,h=>by rw[h.cC];exact .nil
 |d::ds,_,n + 1,h=>by
  let(x,r,rfl,c,e):=h.bj;exact .cons c (bg.take n e)
theorem bg.drop:∀ {ds:⇑D}{a:⇑V} (n:Nat),bg K H ds a->bg K H (ds.drop n) (a.drop n)
 |ds,a,0,h=>by simp_all|[],_,n + 1,h=>by rw[h.cC];exact .nil
 |d::ds,_,n + 1,h=>by
  let(x,r,rfl,c,e):=h.bj;exact bg.drop n e
theorem bg.reverse:∀ {ds:⇑D}{a:⇑V},bg K H ds a->bg K H ds.reverse a.reverse
 |[],_,h=>by rw[h.cC];exact .nil
 |d::ds,_,h=>by
  let(x,r,rfl,c,e):=h.bj;rw[reverse_cons,reverse_cons];exact(bg.reverse e).append (.cons c .nil)
theorem bg.rep(h:bg K H ds xs):∀ n:Nat,bg K H (ÿ n ds).flatten (ÿ n xs).flatten
 |0=>rfl|n + 1=>by exact h.append (h.rep n)
theorem bg.set:∀ {ds:⇑D}{xs:⇑V}{d:D}{x:V} (i:Nat),bg K H ds xs->Hd K H d x->bg K H (ds.set i d) (xs.set i x)
 |[],_,_,_,_,h,_=>by rw[h.cC];exact .nil
 |e::ds,_,d,x,i,h,g=>by
  let(y,r,rfl,h1,h2):=h.bj;cases i with
  |zero=>exact .cons g h2|succ i=>exact .cons h1 (bg.set i h2 g)
theorem bg.ints:∀ a:Zl,bg K H (a.map D.int) (a.map V.int)
 |[]=>.nil|n::r=>.cons (rfl) (bg.ints r)
theorem Hd.cS(h:Hd K H (~~~i) v):v= ~~~i:=by exact h
theorem Hd.xH(h:Hd K H (.bl b) v):v=.bl b:=by exact h
theorem Hd.Lz(h:Hd K H .cq v):v=.cq:=by exact h
theorem Hd.Oz(h:Hd K H (.str x) v):v=.str x:=by exact h
theorem Hd.eH(h:Hd K H (.tup ds) v):∃ a c,v=↥a/\dU K H a c/\bg K H ds c:=by exact h
theorem Hd.jF(h:Hd K H (.lst ds) v):∃ a c,v=↥a/\dA K H a c/\bg K H ds c:=by exact h
theorem Hd.int:Hd K H (~~~i) (~~~i):=rfl
theorem Hd.bl:Hd K H (.bl b) (.bl b):=rfl
theorem Hd.cq:Hd K H .cq .cq:=rfl
theorem Hd.str{x:Str}:Hd K H (.str x) (.str x):=rfl
theorem Hd.tup(h:dU K H a xs)(r:bg K H ds xs):Hd K H (.tup ds) ↥a:=by exact#[a,xs,rfl,h,r]
theorem Hd.lst(h:H a=↑(.lst xs))(r:bg K H ds xs):Hd K H (.lst ds) ↥a:=by exact#[a,xs,rfl,dA.of h,r]
end
def D7(H:Hp):Hp:=λb=>match H b with
 |↑(.dk _)=>none|o=>o
set_option tactic.hygienic true in
theorem vd(h:D7 H b=↑o):H b=↑o/\∀ a,o≠.dk a:=by
 delta D7 at h
 split at h
 .cases h
 simp_all
theorem yU(h:H b=↑o)(n:∀ a,o≠.dk a):D7 H b=↑o:=by
 delta D7
 simp_all
theorem jG(H:Hp):ag (D7 H) H:=λ_ _ h=>(vd h).1
theorem A1(e:ag H a):ag (D7 H) (D7 a):=λb o h=>yU (e b o (vd h).1) (vd h).2
def hz(zA:Zk)(H:Hp):Hp:=match zA with
 |↑a=>hide a (D7 H)|none=>D7 H
class Tb where
 tb:⇑(Addr × Str)
variable [TB:Tb]
def SI(c:Zk)(z:Z)(H:Hp):Prop:=match c,z with
 |↑a,↑(n,b)=>H a=↑(.lst [~~~n,.bl b])|none,none=>True|_,_=>False
structure aO(zA:Option Addr)(z:Z)(H:Hp):Prop where
 zat:SI zA z H
 tab:∀ p∈TB.tb,Tab H p.1 p.2
theorem ak(c:Zk)(H:Hp):ag (hz c H) H:=by
 cases c with
 |none=>exact jG H|some a=>exact ag.trans (cL a _) (jG H)
theorem gx(e:ag H c):ag (hz d H) (hz d c):=by
 cases d with
 |none=>exact A1 e|some a=>exact qS λb o _ h=>A1 e b o h
theorem bx(h:H b=↑o)(n:c≠↑b)(d:∀ f,o≠.dk f:=by exact λ_ h=>nomatch h):hz c H b=↑o:=by
 cases c with
 |none=>exact yU h d|some a=>exact pB (yU h d) λe=>n (by rw[e])
theorem cT(h:hz c H b=↑o):H b=↑o/\c≠↑b:=by
 cases c with
 |none=>exact#[jG H b o h,λe=>nomatch e]
 |some a =>
  refine#[jG H b o (cL a _ b o h),λe=>?_];cases e;have:hide b _ b=↑o:=h;unfold hide at this
  grind
theorem dI(h:hz c H b=↑o):∀ d,o≠.dk d:=by
 cases c with
 |none=>exact(vd h).2|some a=>exact(vd (cL a _ b o h)).2
structure Ext(zA:Option Addr)(H H':Hp):Prop where
 same:ag (hz zA H) (hz zA H')
 dk:∀ b ps,H b=↑(.dk ps)->∃ qs,H' b=↑(.dk qs)
instance {zA:Zk}{H H':Hp}:CoeFun (Ext zA H H') (λ_=>∀ b o,hz zA H b=↑o->hz zA H' b=↑o):=⟨λx=>x.same⟩
instance {zA:Zk}{H H':Hp}:CoeOut (Ext zA H H') (ag (hz zA H) (hz zA H')):=⟨λx=>x.same⟩
theorem Ext.refl:Ext a H H:=#[ag.refl _,λb c h=>#[c,h]]
theorem Ext.trans(a:Ext d H H1)(b:Ext d H1 e):Ext d H e:=#[ag.trans a.same b.same,λc f h=>let #[g,i]:=a.dk c f h;b.dk c g i]
theorem Ext.of(e:ag H a):Ext c H a:=#[gx e,λb d h=>#[d,e b _ h]]
theorem Ext.at(e:Ext zA H c)(h:H a=↑o)(n:zA≠↑a)(d:∀ ps,o≠.dk ps:=by exact λ_ h=>nomatch h):c a=↑o:=(cT (e.same a o (bx h n d))).1
theorem Ext.free(e:Ext c H d)(h:d a=none)(n:c≠↑a):H a=none:=by
 cases q:H a with
 |none=>rfl
 |some o =>
  by_cases f:∃ g,o=.dk g
  .let(g,rfl):=f;let(i,j):=e.dk a g q;rw[j] at h;cases h
  .rw[e.at q n λg z=>f #[g,z]] at h;cases h
theorem SI.same(h:SI c z H)(e:ag H d):SI c z d:=by
 cases c with
 |none=>cases z with
  |none=>trivial|some _=>exact h.elim
 |some a=>cases z with
  |none=>exact h.elim|some p=>exact e _ _ h
theorem aO.same(h:aO a z H)(e:ag H c):aO a z c:=#[h.zat.same e,λp d=>(h.tab p d).same e]
theorem Tab.upd{H:Hp}{P a:Ê}{q:Str}{d:⇑V}{o:HO}(t:Tab H P q)(h:H a=↑(.lst d)):Tab (upd H a o) P q:=by
 let(f,e,g,k):=t;have ne:∀ {b:Ê}{u:HO},H b=↑u->(∀ l,u≠.lst l)->b≠a:=λ{b u} i j z=>by grind
 refine#[f,by rw[ah (ne e λ_ z=>nomatch z)];exact e,g,λpos c m=>?_]
 let(n,i,j):=k pos c m;exact#[n,i,by rw[ah (ne j λ_ z=>nomatch z)];exact j]
theorem aO.A2{K:Å}{c:Zk}{z:Z}{H:Hp}(h:aO c z H){a:Ê}{d:⇑V}(t:dU K H a d):dU K (hz c H) a d:=by
 have h:=h.zat;rcases t with (t | ⟨o,t⟩) | t
 .refine .inl (.inl (bx t λe=>?_));subst e;cases z with
  |none=>exact h.elim
  |some p =>
   have f:H a=↑_:=h;rw[t] at f;cases f
 .refine .inl (.inr #[o,bx t λe=>?_]);subst e;cases z with
  |none=>exact h.elim
  |some p =>
   have f:H a=↑_:=h;rw[t] at f;cases f
 .exact .inr t
theorem aO.vf(h:aO c z H)(n:H a=none):c≠↑a:=λe=>by
 have h:=h.zat;subst e;cases z with
 |none=>exact h.elim
 |some p =>
  have d:H a=↑_:=h;rw[n] at d;cases d
def nV(K:Å)(c:Zk)(e H:Hp):S->V->Prop
 |.d x,v=>Hd K (hz c H) x v|.fr xs,v=>∃ a f,v=↥a/\e a=none/\c≠↑a/\H a=↑(.lst f)/\bg K (hide a (hz c H)) xs f|.z,v=>∃ a,c=↑a/\v=↥a|.ks l,v=>∃ d,v=↥d/\pG K (hz c H) d l
def Al(K:Å)(c:Zk)(H:Hp):S->V->Prop
 |.d x,v=>Hd K (hz c H) x v|.fr xs,v=>Hd K (hz c H) (.lst xs) v|.z,v=>∃ a,c=↑a/\v=↥a|.ks l,v=>∃ d,v=↥d/\pG K (hz c H) d l
section
variable {K:Å}{zA:Zk}{H0 H H':Hp}
theorem nV.pl{s:S}{v:V}(h:nV K zA H0 H s v):Al K zA H s v:=by
 cases s with
 |d x=>exact h|z=>exact h|ks l=>exact h
 |fr c =>
  let(a,e,rfl,_,f,g,i):=h;exact Hd.lst (bx g f) (i.same (cL a _))
theorem Al.qJ{s:S}{v:V}(h:Al K zA H s v):Al K zA H (qJ s) v:=by cases s <;> exact h
theorem Al.mono{s:S}{v:V}(h:Al K zA H s v)(e:Ext zA H H'):Al K zA H' s v:=by
 cases s with
 |d x=>exact Hd.same e h|z=>exact h|ks l=>let(d,q,k):=h;exact#[d,q,k.same e.same]
 |fr a=>exact Hd.same e h
theorem nV.mono{s:S}{v:V}(h:nV K zA H0 H s v)(e:Ext zA H H'):nV K zA H0 H' s v:=by
 cases s with
 |d x=>exact Hd.same e h|z=>exact h|ks l=>let(d,q,k):=h;exact#[d,q,k.same e.same]
 |fr c =>
  let(a,f,rfl,g,i,j,m):=h;exact#[a,f,rfl,g,i,e.at j i,m.same (qS λb o _ q=>e b o q)]
theorem nV.from{c:Hp}{s:S}{v:V}(h:nV K zA c H s v)(e:Ext zA H0 c):nV K zA H0 H s v:=by
 cases s with
 |d x=>exact h|z=>exact h|ks l=>exact h
 |fr f =>
  let(a,g,rfl,i,j,k):=h;exact#[a,g,rfl,e.free i j,j,k]
theorem Al.d_{s:S}{v:V}{x:D}(h:Al K zA H s v)(e:Lv s=↑x):Hd K (hz zA H) x v:=by
 cases s with
 |d y=>cases e;exact h
 |fr a=>cases e;exact h
 |_=>cases e
end
abbrev wF(K:Å)(a:Zk)(H:Hp):⇑S->⇑V->Prop:=VX (Al K a H)
theorem wF.mono{K:Å}{a:Zk}{H c:Hp}{l:⇑S}{d:⇑V}(h:wF K a H l d)(e:Ext a H c):wF K a c l d:=VX.An h λ_ _ q=>q.mono e
theorem wF.qJ{K:Å}{a:Zk}{H:Hp}:∀ {l:⇑S}{c:⇑V},wF K a H l c->wF K a H (l.map qJ) c
 |_,_,.nil=>.nil|_,_,.cons r t=>.cons r.qJ (wF.qJ t)
theorem wF.ds{K:Å}{a:Zk}{H:Hp}:∀ {l:⇑S}{c:⇑V}{ds:⇑D},wF K a H l c->kN l=↑ds->bg K (hz a H) ds c:=by
 intro l c ds h;induction h generalizing ds with
 |nil=>intro e;cases e;exact .nil
 |@cons x _ _ _ h _ i =>
  intro e;cases x with
  |d x=>simp[kN,map_eq_some_iff] at e;let(l,e,rfl):=e;exact .cons h (i e)
  |fr x=>simp[kN,map_eq_some_iff] at e;let(l,e,rfl):=e;exact .cons h (i e)
  |_=>simp[kN] at e
theorem bZ(h:pl l=↑x):∃ s,l=[s]/\Lv s=↑x:=by
 delta pl at h
 split at h
 .exact#[_,rfl,h]
 .exact#[_,rfl,h]
 .cases h
theorem M.bind_some{d e:Type}{m:M d}{f:d->M e}{z:Z}{r:R e}(h:Zd m f z=↑r):(∃ a z1,m z=↑(.ok a z1)/\f a z1=↑r)\/(∃ c z1,m z=↑(.er c z1)/\r=.er c z1):=by
 delta Zd at h
 split at h
 .exact .inl #[_,_,by assumption,h]
 .cases h;exact .inr #[_,_,by assumption,rfl]
 .cases h
theorem M.ao{c d:Type}{o:Option c}{f:c->M d}{z:Z}{r:R d}(h:Zd (Zf o) f z=↑r):∃ a,o=↑a/\f a z=↑r:=by
 cases o with
 |none=>cases h
 |some a=>exact#[a,rfl,h]
end Q
set_option exponentiation.threshold 5000
namespace Q
open PySem L2 PySem.Spec PyProof.Rows
variable [TB:Tb]
section
variable {K:Å}{zA:Zk}{z:Z}{H:Hp}
theorem IM(a:H p=none):ag (hz zA H) (hide p (hz zA (upd H p o))):=λb u e=>by
 let(c,d):=cT e;have f:b≠p:=λq=>by simp_all
 exact pB (bx (by rw[ah f];exact c) d (dI e)) f
theorem fD:nV K zA a H (.d (~~~i)) (~~~i):=Hd.int (K:=K) (H:=hz zA H)
theorem cY:nV K zA a H (.d (.bl b)) (.bl b):=Hd.bl (K:=K) (H:=hz zA H)
theorem vg(h:Hd K (hz zA H) x v):nV K zA a H (.d x) v:=h
theorem dB(a:aO zA z H)(h:bg K (hz zA H) xs c)(d:H p=none):nV K zA H (upd H p (.lst c)) (.fr xs) ↥p :=
 #[p,c,rfl,d,a.vf d,aB,h.same (IM d)]
theorem tupQ(a:aO zA z H)(h:bg K (hz zA H) xs c)(q:∀ v e,ag H e->nV K zA H e (.d (.tup xs)) v->Q v e):yI K H c Q :=
 λp e f g=>q _ _ f (vg (Hd.tup ((a.same f).A2 g) (h.same (gx f))))
end
inductive tM (K:PySem.W.Frag) (f:D->D->Option S) (x:V) (y:V) (H:Hp) (Q:VK):Prop where
 |mk (zA z dx dy s) (h0_:aO zA z H) (h1_:Hd K (hz zA H) dx x) (h2_:Hd K (hz zA H) dy y) (h3_:f dx dy=↑s) (h4_:∀ v H',ag H H'->nV K zA H H' s v->Q v H'):tM K f x y H Q
inductive D8 (K:PySem.W.Frag) (f:⇑D->Option S) (xs:⇑V) (H:Hp) (Q:VK):Prop where
 |mk (zA z ds s) (h0_:aO zA z H) (h1_:bg K (hz zA H) ds xs) (h2_:f ds=↑s) (h3_:∀ v H',ag H H'->nV K zA H H' s v->Q v H'):D8 K f xs H Q
section
variable {X:Cx}
theorem bits_le(h:k.natAbs < je):Builtin.Int.intBits k<=4000:=by
 delta Builtin.Int.intBits
 split
 .exact Wg _
 .exact (by
   rcases Nat.eq_zero_or_pos k.natAbs with c | d
   .rw[c];decide
   .exact(Nat.log2_lt (XD d)).mpr h)
theorem OA(a:i.natAbs < je)(c:j.natAbs < je):IntMulOk i j:=by
 have d:=bits_le a;have e:=bits_le c;intro h;rw[Á] at h;have f:=h.2;unfold Builtin.Int.intTooBig at f;have:(8000:Nat) < bitsLine:=by decide
 omega
theorem Ga(a:j.natAbs < je):Builtin.divisionGoesByPylong i j=false:=by
 apply PyProof.noPylong_of_log2;rcases Nat.eq_zero_or_pos j.natAbs with c | d
 .rw[c];decide
 .exact Ñ ((Nat.log2_lt (XD d)).mpr a) (_d (VH _))
theorem d9(h:n<=most):n<=sizeLine:=Í h (-0)
inductive IP (K:PySem.W.Frag) (x:V) (y:V) (H:Hp) (Q:VK):Prop where
 |mk (l b xs zs) (h0_:x=↥l) (h1_:y=↥b) (h2_:dA K H l xs) (h3_:dA K H b zs) (h4_:xs.length + zs.length<=sizeLine) (h5_:∀ p,H p=none->Q ↥p (upd H p (.lst (xs++zs)))):IP K x y H Q
inductive IQ (K:PySem.W.Frag) (x:V) (y:V) (H:Hp) (Q:VK):Prop where
 |mk (l k xs) (h0_:x=↥l) (h1_:y= ~~~k) (h2_:dA K H l xs) (h3_:-(2 ^ 63)<=k) (h4_:k < 2 ^ 63) (h5_:xs.length * k.toNat<=sizeLine) (h6_:∀ p,H p=none->Q ↥p (upd H p (.lst (replicate k.toNat xs).flatten))):IQ K x y H Q
theorem LD:gQ X (Wu .Add) (IP X.K):=by
 intro a s c H x y v u Q I d f h;let(l,b,g,i,rfl,rfl,j,k,hz,q):=h;subst d;subst f;let(z,m,n,r,o,e):=j.mem I;let(p,w,n2,A,B,C):=k.mem I;refine PySem.P.add_list e C ?_ (by grind)
 rw[(⋯:m.toArray++w.toArray=(m++w).toArray)];exact#[↥_,_,I.FE  (r.append A) (by rw[Ó];exact hz),rfl,q _ I.fresh]
theorem LF:gQ X (Wu .Mult) (IQ X.K):=by
 intro aa s σ H x y v u Q I rx ry h;let(l,k,xs,rfl,rfl,hH,h1,h2,hz,q):=h;subst rx;let(t,rfl):=ry;let(z,aw,n,r,hl,e):=hH.mem I;have hlen:aw.toArray.size * k.toNat<=sizeLine:=by simp_all
 refine YN   (-0) #[_,e,rfl] (λs'=>Y6 s' k t) noFill_list_mul F.fills_int_mul XG repeat_list F.slot_int_index.lookup
  (Wv XG (Y6 s k t) F.entry_int_rmul (F.args_int_rmul_2 _ _) (int___rmul___int_list k t l aw.toArray n)
   #[e,rfl,#[_,e,rfl],Wv F.slot_list_mul #[_,e,rfl] F.entry_list_mul (F.args_list_mul_2 _ _) (AutoListH.list___mul___list_int_3 l aw.toArray n k t (by
  rw[fitsIndex_both h1 h2];exact ï) (by
  exact YA (Í hlen (by decide))) (by
  rw[Ar hlen];exact ï)) #[e,?_]])
 rw[(by
  have f0 :=λm=>by
   have:=foldl_rep aw m [];rw[Yr] at this;exact this
  rw[f0];cases aw with
  |nil=>simp|cons a r'=>rw[Zv ⋯]:foldl _ _ _=(ÿ k.toNat aw).flatten.toArray)];exact#[↥_,_,I.FE  (r.rep k.toNat) (by rw[len_rep,Y8];exact hz),rfl,q _ I.fresh]
theorem LG:gQ X (Wu .Add) (tM X.K (f9 .add)):=by
 intro c s d H x y v u Q I f g h;let(k,z,l,m,w,n,o,A,e,q):=h;cases l with
 |int i =>
  cases m with
  |int j =>
   cases e;cases o.cS;cases A.cS;exact NU c s d H _ _ v u Q I f g #[i,j,rfl,rfl,q _ _ (ag.refl H) fD]
  |_=>cases e
 |tup a =>
  cases m with
  |tup b =>
   let(B,e):=cm e;cases e;let(p,C,rfl,E,F):=o.eH;let(G,J,rfl,L,N):=A.eH;exact La c s d H _ _ v u Q I f g #[p,G,C,J,rfl,rfl,(ak k H).jB E,(ak k H).jB L,d9 (by rw[F.length,N.length];exact B),tupQ n (F.append N) q]
  |_=>cases e
 |lst a =>
  cases m with
  |lst b =>
   let(B,e):=cm e;cases e;let(p,C,rfl,E,F):=o.jF;let(G,J,rfl,L,N):=A.jF;exact LD c s d H _ _ v u Q I f g #[p,G,C,J,rfl,rfl,E.same (ak k H),L.same (ak k H),d9 (by rw[F.length,N.length];exact B),λr P=>q _ _ (ag.new _ P) (dB n (F.append N) P)]
  |_=>cases e
 |_=>cases e
theorem LH:gQ X (Wu .Sub) (tM X.K (f9 .sub)):=by
 intro a s c H x y v u Q I d f h;let(g,z,k,l,w,m,n,o,e,q):=h;cases k with
 |int i =>
  cases l with
  |int j =>
   cases e;cases n.cS;cases o.cS;exact NV a s c H _ _ v u Q I d f #[i,j,rfl,rfl,q _ _ (ag.refl H) fD]
  |_=>cases e
 |_=>cases e
theorem LI:gQ X (Wu .Mult) (tM X.K (f9 .mul)):=by
 intro c s d H x y v u Q I f g h;let(k,z,l,m,w,n,o,A,e,q):=h;cases l with
 |int i =>
  cases m with
  |int j =>
   let(B,e):=cm e;cases e;cases o.cS;cases A.cS;let(t,rfl):=f;let(C,rfl):=g;exact mul_int #[~~~_,H,I.tok _,#[_,rfl],q _ _ (ag.refl H) fD] (OA B.1 B.2)
  |_=>cases e
 |tup a =>
  cases m with
  |int j =>
   let(B,e):=cm e;cases e;cases A.cS;let(p,E,rfl,F,G):=o.eH;exact Lb c s d H _ _ v u Q I f g #[p,j,E,rfl,rfl,(ak k H).jB F,B.1,B.2.2,d9 (by rw[G.length];exact B.2.1),tupQ n (G.rep _) q]
  |_=>cases e
 |lst a =>
  cases m with
  |int j =>
   let(B,e):=cm e;cases e;cases A.cS;let(p,E,rfl,F,G):=o.jF;exact LF c s d H _ _ v u Q I f g #[p,j,E,rfl,rfl,F.same (ak k H),by omega,by omega,d9 (by rw[G.length,Y8];exact B.2.1),λr J=>q _ _ (ag.new _ J) (dB n (G.rep _) J)]
  |_=>cases e
 |_=>cases e
theorem IS:gQ X (Wu .FloorDiv) (tM X.K (f9 .fdiv)):=by
 intro a s c H x y v u Q I d f h;let(g,z,k,l,w,m,n,o,e,q):=h;cases k with
 |int i =>
  cases l with
  |int j =>
   let(p,e):=cm e;cases e;cases n.cS;cases o.cS;let(t,rfl):=d;let(r,rfl):=f;refine floordiv_int ∅ #[~~~_,H,I.tok _,#[s.toks,?_],q _ _ (ag.refl H) fD] (.inl (Ga p.2))
   rw[Int.fdiv_eq_ediv_of_nonneg _ (Vz p.1)]
  |_=>cases e
 |_=>cases e
theorem LJ:gQ X (Wu .Mod) (tM X.K (f9 .mod)):=by
 intro a s c H x y v u Q I d f h;let(g,z,k,l,w,m,n,o,e,q):=h;cases k with
 |int i =>
  cases l with
  |int j =>
   let(p,e):=cm e;cases e;cases n.cS;cases o.cS;exact NW a s c H _ _ v u Q I d f #[i,j,rfl,rfl,p,q _ _ (ag.refl H) fD]
  |_=>cases e
 |_=>cases e
theorem LK:gQ X (Wu .Pow) (tM X.K (f9 .pow)):=by
 intro a s c H x y v u Q I d f h;let(g,z,k,l,w,m,n,o,e,q):=h;cases k with
 |int i =>
  cases l with
  |int j =>
   let(p,e):=cm e;cases e;cases n.cS;cases o.cS;exact NX a s c H _ _ v u Q I d f #[i,j,rfl,rfl,#[p.1,by omega,p.2.2],q _ _ (ag.refl H) fD]
  |_=>cases e
 |_=>cases e
def TM:Bi->Operator
 |.add=>.Add | .sub=>.Sub | .mul=>.Mult | .fdiv=>.FloorDiv | .mod=>.Mod | .pow=>.Pow
theorem U8(o:Bi):gQ X (Wu (TM o)) (tM X.K (f9 o)):=by
 cases o
 .exact LG
 .exact LH
 .exact LI
 .exact IS
 .exact LJ
 .exact LK
mutual
noncomputable def CI:D->PyData
 |.cq=>.none|.bl b=>.bool b|~~~i=>~~~i|.str x=>.str x|.tup l=>.tuple (lh l)|.lst l=>.list (lh l)|.dct=>.none
noncomputable def lh:⇑D->⇑PyData
 |[]=>[]|x::r=>CI x::lh r
end
end
end Q
namespace Q
open PySem L2 PySem.Spec PyProof.Rows
variable [TB:Tb]
mutual
theorem vh:∀ a b:D,dz a=true->dz b=true->PyData.eqv (CI a) (CI b)=xD a b
 |.cq,b,_,h=>by cases b <;> first | rfl | (cases h)
 |.bl _,b,_,h=>by cases b <;> first | rfl | (cases h)
 |~~~_,b,_,h=>by cases b <;> first | rfl | (cases h)
 |.str _,b,_,h=>by cases b <;> first | rfl | (cases h)
 |.tup l,b,c,h=>by
  cases b with
  |tup q =>
   exact yV l q c h
  |dct=>cases h|_=>rfl
 |.lst l,b,c,h=>by
  cases b with
  |lst q =>
   exact yV l q c h
  |dct=>cases h|_=>rfl
 |.dct,_,h,_=>by cases h
theorem yV:∀ a b:⇑D,bu a=true->bu b=true->PyData.eqvAll (lh a) (lh b)=lg a b
 |[],[],_,_=>rfl|[],_::_,_,_=>rfl|_::_,[],_,_=>rfl
 |x::r,y::q,c,d=>by
  have c:(dz x&&bu r)=true:=c;have d:(dz y&&bu q)=true:=d;rw[Á] at c d;show(PyData.eqv (CI x) (CI y)&&PyData.eqvAll (lh r) (lh q))=(xD x y&&lg r q);rw[vh x y c.1 d.1,yV r q c.2 d.2]
end
mutual
theorem lR:∀ a:D,dz a=true->(CI a).canLay0=true
 |.cq,_=>rfl|.bl _,_=>rfl|~~~_,_=>rfl|.str _,h=>h|.tup l,h=>j9 l h|.lst l,h=>j9 l h|.dct,h=>by cases h
theorem j9:∀ a:⇑D,bu a=true->PyData.canLayAll0 (lh a)=true
 |[],_=>rfl
 |x::r,h=>by
  simp only[bu,Á] at h;simp only[lh,PyData.canLayAll0,lR x h.1,j9 r h.2,Bool.and_self]
end
mutual
theorem tO:∀ a:D,(CI a).depth=deep a
 |.cq=>rfl|.bl _=>rfl|~~~_=>rfl|.str _=>rfl|.tup l=>congrArg (· + 1) (vi l)|.lst l=>congrArg (· + 1) (vi l)|.dct=>rfl
theorem vi:∀ a:⇑D,PyData.depthAll (lh a)=cj a
 |[]=>rfl
 |x::r=>by
  simp only[lh,PyData.depthAll,cj];rw[tO x,vi r]
end
def rT(h:þ)(u:Ä)(d:D):Prop:=dz d=true/\∃ as,Reads h u (CI d) as
def bP(h:þ)(a:Zi)(ds:⇑D):Prop:=bu ds=true/\∃ as,ReadsAll h a (lh ds) as
section
variable {X:Cx}{aa:⇑(Ê × Obj)}{σ:L2.St}{H:Hp}{s:É}
mutual
theorem eY(I:Inv X aa σ H s):∀ {d:D}{v:V}{u:Ä},Hd X.K H d v->RelV v u->dz d=true->∃ as,Reads s.heap u (CI d) as
 |.cq,_,_,h,r,_=>by cases h.Lz;cases r;exact#[_,.none]
 |.bl b,_,_,h,r,_=>by cases h.xH;cases r;exact#[_,.bool b]
 |~~~i,_,_,h,r,_=>by cases h.cS;let(t,rfl):=r;exact#[_,.int i t]
 |.str x,_,_,h,r,_=>by cases h.Oz;let(t,rfl):=r;exact#[_,.str x t]
 |.tup l,_,_,h,r,f=>by
  let(a,c,rfl,e,g):=h.eH;cases r;obtain⟨j,k,⟨o,m,p,n,q⟩,_⟩:=I.tuple e;let(as,w):=kf I g k f;exact#[_,.tuple m p q (by simpa using w)]
 |.lst l,_,_,h,r,f=>by
  let(a,c,rfl,e,g):=h.jF;cases r;obtain⟨j,k,⟨o,n,m,p,_,q⟩,_⟩:=I.list e.sq;let(as,w):=kf I g k f;exact#[_,.list m p q (by simpa using w)]
 |.dct,_,_,_,_,f=>by cases f
theorem kf(I:Inv X aa σ H s):∀ {ds:⇑D}{y:⇑V}{z:Zi},bg X.K H ds y->Vals y z->bu ds=true->∃ as,ReadsAll s.heap z (lh ds) as
 |[],_,_,h,r,_=>by cases h.cC;cases r;exact#[_,.nil]
 |d::ds,_,_,h,r,f=>by
  let(x,c,rfl,e,g):=h.bj;cases r with
  |cons A B =>
   simp only[bu,Á] at f;let(_,C):=eY I e A f.1;let(_,E):=kf I g B f.2;exact#[_,.cons C E]
end
end
theorem gM(h:iA d):dz d/\SeqAt.shaped (CI d):=by
 delta iA at h
 rw[Á,Zw] at h;refine#[h.1,?_]
 delta SeqAt.shaped
 rw[lR d h.1,tO,Xr,Zw];exact Í h.2 (_d (VH _))
section
variable {X:Cx}
theorem OB(h:Oy a b=↑c):∃ l,a=.tup l/\b=.tup []/\c=l.isEmpty:=by
 unfold Oy at h;split at h
 .cases h;exact#[_,rfl,rfl,rfl]
 .cases h
theorem OC(f:X.A.units + 64 < WN):gQ X (VZ .Eq) (tM X.K λa b=>(eqQ a b).map λc=>.d (.bl c)):=by
 intro aa s σ H x y v u Q I g i h;let(k,z,m,n,w,st,o,p,e,q):=h;unfold eqQ at e;split at e
 .rename_i ok;cases e;rw[Á] at ok;let(r,s1):=gM ok.1;let(B,C):=gM ok.2;let(as,E):=eY I (o.same (ak k H)) g r;let(bs,F):=eY I (p.same (ak k H)) i B;exact eq_dataH E F s1 C f #[.bl _,H,I,rfl,by rw[vh m n r B];exact q _ _ (ag.refl H) cY]
 .let(c,G,J):=Ö.mp e;let(l,rfl,rfl,rfl):=OB G;subst J;let(a,xs,rfl,L,N):=o.eH;let(b,ys,rfl,P,k4):=p.eH;cases k4.cC;cases g;cases i;let(U,rv,ht,_):=I.tuple ((ak k H).jB L);let(iu,ru,Y,_):=I.tuple ((ak k H).jB P);cases ru;refine SeqAt.eq_tupleAt (e:=λ_=>true) ht Y (VA (VO _ _) f) (λj _ J=>absurd J (Yq j)) #[.bl _,H,I,rfl,?_]
  rw[(by
   simp[á,WD,Nat.min_zero,List.range_zero,all_nil,Xr,(by rw[<-rv.length,N.length]:U.length=l.length)];cases l <;> rfl:((ø _).all _&&U.toArray.size == ([]:Zi).toArray.size)=l.isEmpty)];exact q _ _ (ag.refl H) cY
theorem OD(f:X.A.units + 64 < WN):gQ X (VZ .NotEq) (tM X.K λa b=>(Lw a b).map λc=>.d (.bl !c)):=by
 intro g s i H x y v u Q I j k h;let(l,z,m,n,w,o,p,r,e,q):=h;unfold Lw at e;split at e
 .rename_i ok;cases e;rw[Á] at ok;let(B,s1):=gM ok.1;let(C,E):=gM ok.2;let(as,F):=eY I (p.same (ak l H)) j B;let(bs,G):=eY I (r.same (ak l H)) k C;exact ne_dataH F G s1 E f #[.bl _,H,I,rfl,by rw[vh m n B C];exact q _ _ (ag.refl H) cY]
 .cases e
theorem LL(f:X.A.units + 64 < WN):gQ X (VZ .NotEq) (tM X.K λa b=>(TJ a b).map λc=>.d (.bl c)):=by
 intro g s i H x y v u Q I j k h;let(l,z,m,n,w,o,p,r,e,q):=h;unfold TJ at e;split at e
 .cases e;let(a,B,rfl,C):=p;let(b,E,rfl,F,_):=r.eH;exact Lh f g s i H _ _ v u Q I j k #[a,b,B,E,rfl,rfl,(cT C).1,(ak l H).jB F,q _ _ (ag.refl H) cY]
 .refine OD f g s i H _ _ v u Q I j k #[l,z,m,n,w,o,p,r,?_,q];rw[<-e,Option.map_map];rfl
end
theorem tP(h:f7 l):bu l/\cj l<=39:=by
 delta f7 at h
 simp_all
theorem vj(h:iA d):deep d<=40:=by
 delta iA at h
 simp_all
theorem pP(x:D)(a:dz x):∀ l:⇑D,bu l->((lh l).any λy=>PyData.eqv y (CI x))=memD x l
 |[],_=>rfl
 |y::r,h=>by
  simp[bu,Á] at h;show(PyData.eqv _ _ || (lh r).any _)=(xD y x || memD x r);rw[vh y x h.1 a,pP x a r h.2]
section
variable {X:Cx}
theorem tQ(h:lI x l=↑b):iA x/\f7 l/\b=memD x l:=by
 delta lI at h
 simp_all
theorem room_in{A:Vl}(a:A.units + 64 < WN){l:⇑D}{x:D}(h:iA x):A.units + 1 + min (PyData.depthAll (lh l)) (CI x).depth < cLine:=by
 have c:=vj h;have d:min (PyData.depthAll (lh l)) _<=(CI x).depth:=Nat.min_le_right _ _;have e:=tO x;omega
theorem LM(f:X.A.units + 64 < WN):gQ X (VZ .In) (tM X.K λa b=>(fB .mem a b).map λc=>.d (.bl c)):=by
 intro g s i H x y v u Q I j k h;let(m,z,n,o,w,p,r,B,e,q):=h;cases o with
 |tup l =>
  let(b,C,E):=Ö.mp e;subst E;let(F,G,rfl):=tQ C;let(J,_):=tP G;let(L,_):=gM F;let(as,N):=eY I (r.same (ak m H)) j L;let(bs,P):=eY I (B.same (ak m H)) k (J);exact SeqAt.in_tuple_reads P N (j9 l J) (lR n L) (room_in f F) #[.bl _,H,I,rfl,by rw[pP n L l J];exact q _ _ (ag.refl H) cY]
 |lst l =>
  let(b,C,E):=Ö.mp e;subst E;let(F,G,rfl):=tQ C;let(J,_):=tP G;let(L,_):=gM F;let(as,N):=eY I (r.same (ak m H)) j L;let(bs,P):=eY I (B.same (ak m H)) k (J);exact SeqAt.in_list_reads P N (j9 l J) (lR n L) (room_in f F) #[.bl _,H,I,rfl,by rw[pP n L l J];exact q _ _ (ag.refl H) cY]
 |_=>cases e
theorem IU(f:X.A.units + 64 < WN):gQ X (VZ .NotIn) (tM X.K λa b=>(fB .nmem a b).map λc=>.d (.bl c)):=by
 intro g s i H x y v u Q I j k h;let(m,z,n,o,w,p,r,B,e,q):=h;cases o with
 |tup l =>
  let(b,C,E):=Ö.mp e;subst E;let(F,G,rfl):=Ö.mp C;let(J,L,rfl):=tQ G;let(N,_):=tP L;let(P,_):=gM J;let(as,U):=eY I (r.same (ak m H)) j P;let(bs,Y):=eY I (B.same (ak m H)) k (N);exact SeqAt.notIn_tuple_reads Y U (j9 l N) (lR n P) (room_in f J) #[.bl _,H,I,rfl,by rw[pP n P l N];exact q _ _ (ag.refl H) cY]
 |lst l =>
  let(b,C,E):=Ö.mp e;subst E;let(F,G,rfl):=Ö.mp C;let(J,L,rfl):=tQ G;let(N,_):=tP L;let(P,_):=gM J;let(as,U):=eY I (r.same (ak m H)) j P;let(bs,Y):=eY I (B.same (ak m H)) k (N);exact SeqAt.notIn_list_reads Y U (j9 l N) (lR n P) (room_in f J) #[.bl _,H,I,rfl,by rw[pP n P l N];exact q _ _ (ag.refl H) cY]
 |_=>cases e
end
end Q
namespace Q
open PySem L2 PySem.Spec PyProof.Rows
variable [TB:Tb]
def OE(A:Vl)(s:É)(v u:Ä)(b:Bool):Prop:=∀ (P:ð) (w:ú) (E:Ä->É->Prop) (Q:Ä->É->Prop),Q (.bool b) s->â (Ü P w) A (richCompare .Lt v u) Q E s
section
open PySem.SeqAt
open PySem.AutoSeq1 (wpAny_loadPart')
open PySem.MeetsSeq PySem.MeetsSeq2 PySem.MeetsSeq3
inductive Lx (A:Around) (s:Shared):⇑Value->⇑Value->Bool->Prop
 |nn:Lx A s [] [] false
 |nc {u us}:Lx A s [] (u::us) true
 |cn {v vs}:Lx A s (v::vs) [] false
 |eq {v u vs us b}:EqAt A s v u true->Lx A s vs us b->Lx A s (v::vs) (u::us) b
 |ne {v u vs us b}:EqAt A s v u false->OE A s v u b->Lx A s (v::vs) (u::us) b
theorem rV(l b:Ê)(a e:Zo)(n n2:Nat)(f i:Zk)(sl j:Array Zn)(c:Bool) :
  Meets (Xh.«tuple.__lt__» #[[↥l,↥b],[]])
   (λA R s=>s.heap.get? l=↑{ cls:=.type "tuple",dict:=f,data:=.seq a n,slots:=sl }/\s.heap.get? b=↑{ cls:=.type "tuple",dict:=i,data:=.seq e n2,slots:=j } /\
    Lx A.in1 s a.toList e.toList c/\R (.ok (.ret (.bool c))) s) :=
 .of_wp λk w A R s h=>by
  let(m,g,d,o,p):=s;let(r,u,v,h):=h;have z:=AutoSeq1.sub_tuple_tuple
  wp_walk using Xm r,Xm u,wpAny_forIn_list _ (λB b C=>b.1=none/\C=#[m,g,d,o,p]/\∃ (F G:Zi),B=F.zip G /\
   F.length + e.size=G.length + a.size/\Lx A.in1 #[m,g,d,o,p] F G c) _
  case turn =>
   rintro ⟨y,x⟩ B b C ⟨H,rfl,F,G,hz,hlen,hR⟩;cases hR with
   |nn=>rw[List.zip_nil_left] at hz;cases hz
   |nc=>rw[List.zip_nil_left] at hz;cases hz
   |cn=>rw[List.zip_nil_right] at hz;cases hz
   |eq I J =>
    rw[YM] at hz;injection hz with K L;injection K with N P;subst N P;simp only[ã] at hlen;refine À (I k w _ _ ?_)
    wp_walk
    exact#[rfl,rfl,_,_,L,by omega,J]
   |ne I J =>
    rw[YM] at hz;injection hz with K L;injection K with N P;subst N P;refine À (I k w _ _ ?_);have U:=λE Q q=>J k w E Q q
    wp_walk using U
    exact#[_,rfl,by simpa using h]
  case fin =>
   rintro ⟨X,b2⟩ C ⟨H,rfl,F,G,hz,hlen,hR⟩;simp only at H;subst H;have Y:c=decide (a.size < e.size):=by
    cases hR with
    |nn=>simp only[WD] at hlen;exact(Zz (YA (WA (_Q hlen)))).symm|nc=>simp only[WD,ã] at hlen;exact(Zy ∅).symm|cn=>simp only[WD,ã] at hlen;exact(Zz ∅).symm|eq I J=>rw[YM] at hz;cases hz
    |ne I J=>rw[YM] at hz;cases hz
   rw[Y] at h
   wp_walk
   exact#[_,rfl,by simpa [tupleCompareSizes] using h]
  case h =>
   exact#[rfl,rfl,a.toList,e.toList,rfl,by simp;exact _L _ _,v]
end
theorem Gb(a:IsTup s.heap l d)(e:IsTup s.heap b f)(g:A.units < WN)(i:Lx A.in1 s d.toList f.toList c):OE A s ↥l ↥b c:=by
 intro P w E Q h;obtain⟨⟨j,k,m,sl⟩,o,p,n,q⟩:=id a;obtain⟨⟨r,u,v,y⟩,z,B,n2,C⟩:=id e;subst p q B C;exact richCompare_meets_room  #[_,o,rfl] #[_,z,rfl] PySem.F.slot_tuple_lt PySem.F.entry_tuple_lt (PySem.F.args_tuple_lt_2 _ _) (rV l b d f n n2 k u sl y c)
  #[o,z,i,show YJ c≠Value.notImplemented/\Q _ s from#[(λx=>nomatch x),h]] g
theorem M4(c:rT s.heap v a)(d:rT s.heap u b)(e:A.units + deep a < WN):SeqAt.EqAt A s v u (xD a b):=by
 let(f,as,g):=c;let(i,bs,j):=d;rw[<-vh a b f i];have h:=tO a;have k:min _ (CI b).depth<=(CI a).depth:=Nat.min_le_left _ _;exact SeqAt.eqAt_reads _ _ A s v u as bs g j (lR a f) (lR b i) ∅
theorem bP.bj(x:bP h us (d::ds)):∃ u r,us=u::r/\rT h u d/\bP h r ds:=by
 let(f,as,r):=x;simp[bu,Á] at f;cases r with
 |cons a c=>exact#[_,_,rfl,#[f.1,_,a],f.2,_,c]
theorem bP.cC(x:bP h us []):us=[]:=by
 let(_,as,r):=x;cases r;rfl
theorem in1_units(A:Vl):A.in1.units=A.units + 1:=rfl
theorem IV:∀ (n:Nat) {A:Vl}{s:É},
  (∀ (a b:D) (v u:Ä) (c:Bool),deep a<=n->rT s.heap v a->rT s.heap u b->Ak a b=↑c->A.units + n < WN->OE A s v u c) /\
  (∀ (a b:⇑D) (vs us:Zi) (c:Bool),cj a < n->bP s.heap vs a->bP s.heap us b->yS a b=↑c->A.units + n < WN->Lx A.in1 s vs us c):=by
 intro n
 induction n with
 |zero =>
  intro A s;refine#[λa b v u c hd ha hb e hu=>?_,λa b vs us c hd=>absurd hd (Yq _)];cases a with
  |int i =>
   cases b with
   |int j =>
    cases e;let(_,_,r1):=ha;let(_,_,r2):=hb;cases r1;cases r2;exact λP w E Q h=>HT.Ap A s i _ j _ P w E Q h
   |_=>cases e
  |tup l=>simp[deep] at hd|_=>cases e
 |succ n ih =>
  have rows:∀ {A:Vl}{s:É} (a b:⇑D) (vs us:Zi) (c),cj a < n + 1->bP s.heap vs a->bP s.heap us b->yS a b=↑c->A.units + (n + 1) < WN->Lx A.in1 s vs us c:=by
   intro A s a
   induction a with
   |nil =>
    intro b vs us c _ ha hb e hu;cases ha.cC;cases b with
    |nil=>cases hb.cC;cases e;exact .nn
    |cons y q=>let(u,r,rfl,_):=hb.bj;cases e;exact .nc
   |cons x r ihr =>
    intro b vs us c hd ha hb e hu;let(v,vs',rfl,a1,a2):=ha.bj;cases b with
    |nil=>cases hb.cC;cases e;exact .cn
    |cons y q =>
     let(u,us',rfl,b1,b2):=hb.bj;have d1 :=YQ (VA (Nat.le_max_left _ _) hd);have d2 :=VA (Nat.le_max_right _ _) hd;have hu1:A.in1.units + n < cLine:=by rw[in1_units];exact VA (WA (_B _ _ _)) hu
     have he:=M4 (A:=A.in1) a1 b1 (VA (_V (XA d1 _)) hu)
     simp only[yS] at e;cases hq:xD x y with
     |true =>
      rw[hq] at he e;exact .eq he (ihr q vs' us' c d2 a2 b2 (e) hu)
     |false =>
      rw[hq] at he e;exact .ne he ((ih  ).1 x y v u c d1 a1 b1 (e) hu1)
  intro A s;refine#[λa b v u c hd ha hb e hu=>?_,rows];cases a with
  |int i =>
   cases b with
   |int j =>
    cases e;let(_,_,r1):=ha;let(_,_,r2):=hb;cases r1;cases r2;exact λP w E Q h=>HT.Ap A s i _ j _ P w E Q h
   |_=>cases e
  |tup l =>
   cases b with
   |tup q =>
    let(f1,as,r1):=ha;let(f2,bs,r2):=hb;simp only[deep] at hd;cases r1 with
    |tuple k1 k2 k3 k4 =>
     cases r2 with
     |tuple m1 m2 m3 m4 =>
      exact Gb #[_,k1,k2,_,k3] #[_,m1,m2,_,m3] (VA (VO _ _) hu) (rows l q _ _ c hd #[f1,_,k4] #[f2,_,m4] e hu)
   |_=>cases e
  |_=>cases e
section
variable {X:Cx}
theorem OF(h:Qf a b=↑c):iA a/\iA b/\Ak a b=↑c:=by
 unfold Qf at h
 simp_all
theorem OG(f:X.A.units + 64 < WN):gQ X (VZ .Lt) (tM X.K λa b=>(fB .lt a b).map λc=>.d (.bl c)):=by
 intro g s i H x y v u Q I j k h;let(l,z,m,n,w,o,p,r,e,q):=h;let(b,B,C):=Ö.mp e;subst C;let(E,F,G):=OF (show Qf m n=↑b from B);let(J,_):=gM E;let(L,_):=gM F;let(as,N):=eY I (p.same (ak l H)) j J;let(bs,P):=eY I (r.same (ak l H)) k L;exact(IV 40  ).1 m n v u b (vj E) #[J,as,N] #[L,bs,P] G (VA (XA (_h _ _) _) f) _ _ _ _ #[.bl b,H,I,rfl,q _ _ (ag.refl H) cY]
theorem g6{K:Å}{H:Hp}:∀ {l:⇑D}{a:Zl}{c:⇑V},iV l=↑a->bg K H l c->c=a.map V.int/\l=a.map D.int
 |[],_,_,e,h=>by cases e;rw[h.cC];exact#[rfl,rfl]
 |~~~i::r,_,_,e,h=>by
  let(d,f,rfl):=Ö.mp e;let(x,g,rfl,j,k):=h.bj;cases j.cS;let(rfl,rfl):=g6 f k;exact#[rfl,rfl]
 |.cq::_,_,_,e,_=>by cases e
 |.bl _::_,_,_,e,_=>by cases e
 |.str _::_,_,_,e,_=>by cases e
 |.tup _::_,_,_,e,_=>by cases e
 |.lst _::_,_,_,e,_=>by cases e
 |.dct::_,_,_,e,_=>by cases e
theorem OH(f:X.A.units + 64 < WN):gQ X (VZ .LtE) (tM X.K λa b=>(fB .le a b).map λc=>.d (.bl c)):=by
 intro g s k H x y v u Q I l m h;let(n,z,o,r,w,st,B,C,e,q):=h;cases o with
 |int i =>
  cases r with
  |int j =>
   cases e;cases B.cS;cases C.cS;exact QC g s k H _ _ v u Q I l m #[i,j,rfl,rfl,q _ _ (ag.refl H) cY]
  |_=>cases e
 |tup a =>
  cases r with
  |tup b =>
   let(c,E,F):=Ö.mp e;subst F;let(G,n1,E):=Õ.mp (show(iV a).bind _=_ from E);let(J,n2,rfl):=Ö.mp E;let(p,xs,rfl,L,N):=B.eH;let(P,ys,rfl,U,Y):=C.eH;let(rfl,_):=g6 n1 N;let(rfl,_):=g6 n2 Y;exact Oc (VA (VO _ _) f) g s k H _ _ v u Q I l m #[p,P,G,J,rfl,rfl,(ak n H).jB L,(ak n H).jB U,q _ _ (ag.refl H) cY]
  |_=>cases e
 |_=>cases e
theorem OI:gQ X (VZ .Gt) (tM X.K λa b=>(fB .gt a b).map λc=>.d (.bl c)):=by
 intro f s g H x y v u Q I k l h;let(m,z,n,o,w,p,r,A,e,q):=h;cases n with
 |int i =>
  cases o with
  |int j =>
   cases e;cases r.cS;cases A.cS;exact QD f s g H _ _ v u Q I k l #[i,j,rfl,rfl,q _ _ (ag.refl H) cY]
  |_=>cases e
 |_=>cases e
theorem OJ:gQ X (VZ .GtE) (tM X.K λa b=>(fB .ge a b).map λc=>.d (.bl c)):=by
 intro f s g H x y v u Q I k l h;let(m,z,n,o,w,p,r,A,e,q):=h;cases n with
 |int i =>
  cases o with
  |int j =>
   cases e;cases r.cS;cases A.cS;exact QE f s g H _ _ v u Q I k l #[i,j,rfl,rfl,q _ _ (ag.refl H) cY]
  |_=>cases e
 |_=>cases e
theorem IW{K:Å}{H:Hp}{d:D}{v:V}(h:Hd K H d v):decide (v=.cq)=CF d:=by
 cases d with
 |cq=>cases h.Lz;rfl
 |bl b=>cases h.xH;rfl
 |int i=>cases h.cS;rfl
 |str x=>cases h.Oz;rfl
 |tup l=>let(a,c,rfl,_):=h.eH;rfl
 |lst l=>let(a,c,rfl,_):=h.jF;rfl
 |dct=>let(a,e,rfl,_):=h;rfl
theorem OK:gQ X (VZ .Is) (tM X.K λa b=>(fB .is a b).map λc=>.d (.bl c)):=by
 intro f s g H x y v u Q I i j h;let(k,z,l,m,w,n,o,p,e,q):=h;cases m with
 |bl b =>
  cases l with
  |bl a =>
   cases e;cases o.xH;cases p.xH;exact Of f s g H _ _ v u Q I i j #[a,b,rfl,rfl,q _ _ (ag.refl H) cY]
  |_=>cases e
 |cq =>
  have r:↑(S.d (.bl (CF l)))=↑w:=by cases l <;> exact e
  cases r;cases p.Lz;refine NY f s g H _ _ v u Q I i j #[rfl,?_];rw[IW o];exact q _ _ (ag.refl H) cY
 |_=>cases l <;> cases e
def LN:Cm->CmpOp
 |.eq=>.Eq | .ne=>.NotEq | .lt=>.Lt | .le=>.LtE | .gt=>.Gt | .ge=>.GtE | .is=>.Is | .mem=>.In | .nmem=>.NotIn
theorem A3(e:X.A.units + 64 < WN)(o:Cm):gQ X (VZ (LN o)) (tM X.K λa b=>(fB o a b).map λc=>.d (.bl c)):=by
 cases o
 .exact OC e
 .exact LL e
 .exact OG e
 .exact OH e
 .exact OI
 .exact OJ
 .exact OK
 .exact LM e
 .exact IU e
theorem bg.one{K:Å}{H:Hp}{d:D}{a:⇑V}(h:bg K H [d] a):∃ x,a=[x]/\Hd K H d x:=by
 let(x,r,rfl,c,e):=h.bj;rw[e.cC];exact#[x,rfl,c]
theorem bg.two{K:Å}{H:Hp}{d e:D}{a:⇑V}(h:bg K H [d,e] a):∃ x y,a=[x,y]/\Hd K H d x/\Hd K H e y:=by
 let(x,r,rfl,c,f):=h.bj;let(y,rfl,g):=f.one;exact#[x,y,rfl,c,g]
theorem CJ{K:Å}{c:Zk}{H:Hp}{d:D}{l:⇑D}{v:V}(h:Hd K (hz c H) d v)(e:qW d=↑l):∃ a f,v=↥a/\(jX K H a f\/dU K H a f)/\bg K (hz c H) l f:=by
 cases d with
 |tup m =>
  cases e;let(a,f,rfl,g,i):=h.eH;exact#[a,f,rfl,.inr ((ak c H).jB g),i]
 |lst m =>
  cases e;let(a,f,rfl,g,i):=h.jF;exact#[a,f,rfl,.inl (g.same (ak c H)).sq,i]
 |_=>cases e
theorem OL:cA X (.builtin "len") (D8 X.K (kO .len)):=by
 intro c s f H g i Q I r h;let(j,z,ds,w,k,m,e,q):=h
 match ds,e with
 |[d],e =>
  let(l,n,rfl):=Ö.mp (show(qW d).map _=↑w from e);let(x,rfl,o):=m.one;let(a,p,rfl,u,v):=CJ o n;exact yD c s f H _ i Q I r #[a,p,rfl,u,by rw[v.length];exact q _ _ (ag.refl H) fD]
theorem IY:cA X (.type "tuple") (D8 X.K (kO .tuple)):=by
 intro c s f H g i Q I r h;let(j,z,ds,w,k,m,e,q):=h
 match ds,e with
 |[d],e =>
  let(l,n,rfl):=Ö.mp (show(qW d).map _=↑w from e);let(x,rfl,o):=m.one;let(a,u,rfl,v,y):=CJ o n;refine wL c s f H _ i Q I r #[a,u,rfl,?_];rcases v with v | v
  .refine .inl #[v,λp A=>q _ _ (ag.new _ A) (vg (Hd.tup ((k.same (ag.new _ A)).A2 (dU.of aB)) (y.same (gx (ag.new _ A)))))]
  .exact .inr #[v,q _ _ (ag.refl H) (vg (Hd.tup (k.A2 v) y))]
theorem LO:cA X (.type "list") (D8 X.K (kO .list)):=by
 intro c s f H g i Q I r h;let(j,z,ds,w,k,m,e,q):=h
 match ds,e with
 |[d],e =>
  let(l,n,rfl):=Ö.mp (show(qW d).map _=↑w from e);let(x,rfl,o):=m.one;let(a,u,rfl,v,y):=CJ o n;exact yE c s f H _ i Q I r #[a,u,rfl,v,λp A=>q _ _ (ag.new _ A) (dB k y A)]
theorem CK{K:Å}{H:Hp}:∀ {l:⇑D}{bs:⇑Bool}{a:⇑V},l.mapM lJ=↑bs->bg K H l a->a=bs.map V.bl
 |[],_,_,e,h=>by simp at e;subst e;rw[h.cC];rfl
 |x::r,_,_,e,h=>by
  simp only[mapM_cons,bind,Õ] at e;let(b,d,bs,f,g):=e;cases g;let(y,i,rfl,j,k):=h.bj;cases x with
  |bl c=>cases d;cases j.xH;rw[CK f k];rfl
  |_=>cases d
theorem OM(c:X.calm):cA X (.builtin "all") (D8 X.K (kO .all)):=by
 intro d s f H g i Q I r h;let(j,z,ds,w,k,m,e,q):=h
 match ds,e with
 |[.lst l],e =>
  let(bs,n,rfl):=Ö.mp (show(l.mapM lJ).map _=↑w from e);let(x,rfl,o):=m.one;let(a,p,rfl,u,v):=o.jF;rw[CK n v] at u;exact HH c d s f H _ i Q I r #[a,bs,rfl,(u.same (ak j H)).sq,q _ _ (ag.refl H) cY]
theorem IZ(c:X.calm):cA X (.builtin "any") (λd H Q=>∃ (a:Ê) (bs:⇑Bool),d=[↥a]/\jX X.K H a (bs.map V.bl)/\Q (.bl (bs.any id)) H):=by
 intro f s g H d j Q I r h;let(a,bs,rfl,k,q):=h;let(u,rfl,l):=vals1 r;subst l;let(m,n,pl,hz):=I.list k;have w :=by have:=n.length;simpa using this.symm
 refine call_any_walk (Yn pl.isList #[_,_,_,_,_,_,λi=>(bs[i]?).getD false,rfl,Walks.list (by exact I.ok.hd c) s.heap.objs.size a (Û (by let(_,e,_):=pl.isList;exact é e)) m.toArray,#[#[_,Ï _ rfl,rfl,rfl],pl.isList.push _],?_,?_])
 .intro i v y z A B C;have E :=by simpa using B
  have F:i < bs.length:=by rw[<-w];exact(ç.mp E).1
  let(G,J,L):=n.get (i:=i) (x:=.bl bs[i]) (by simp[F])
  rw[E] at J;cases J;cases (show v=YJ _ from L);exact Wi (by simp_all)
 .intro N tk P;refine#[_,H,I.kept λb o e=>P b o (by simpa using Û (é e)) (Â _ e),?_,q]
  rw[á,w]
  congr 1
  rw[My,any_eq_true,any_eq_true];constructor
  .rintro ⟨i,U,Y⟩;have F :=û.mp U;exact#[_,V3 F,by simpa [F] using Y]
  .rintro ⟨b,U,Y⟩;let(i,F,rfl):=List.getElem_of_mem U;exact#[i,û.mpr F,by simpa [F] using Y]
theorem ON(c:X.calm):cA X (.builtin "any") (D8 X.K (kO .any)):=by
 intro d s f H g i Q I r h;let(j,z,ds,w,k,m,e,q):=h
 match ds,e with
 |[.lst l],e =>
  let(bs,n,rfl):=Ö.mp (show(l.mapM lJ).map _=↑w from e);let(x,rfl,o):=m.one;let(a,p,rfl,u,v):=o.jF;rw[CK n v] at u;exact IZ c d s f H _ i Q I r #[a,bs,rfl,(u.same (ak j H)).sq,q _ _ (ag.refl H) cY]
theorem OO(a:X.calm):cA X (.builtin "min") (D8 X.K (kO .min)):=by
 intro c s d H f g Q I r h;let(k,z,ds,w,l,m,e,q):=h
 match ds,e with
 |[~~~i,~~~j],e =>
  cases e;let(x,y,rfl,n,o):=m.two;cases n.cS;cases o.cS;exact FD a c s d H _ g Q I r #[i,j,rfl,q _ _ (ag.refl H) fD]
theorem OP(a:X.calm):cA X (.builtin "max") (D8 X.K (kO .max)):=by
 intro c s d H f g Q I r h;let(k,z,ds,w,l,m,e,q):=h
 match ds,e with
 |[~~~i,~~~j],e =>
  cases e;let(x,y,rfl,n,o):=m.two;cases n.cS;cases o.cS;exact FC a c s d H _ g Q I r #[i,j,rfl,q _ _ (ag.refl H) fD]
theorem OQ:cA X (.type "int") (D8 X.K (kO .int)):=by
 intro a s c H d f Q I r h;let(g,z,ds,w,j,k,e,q):=h
 match ds,e with
 |[~~~i],e =>
  cases e;let(x,rfl,l):=k.one;cases l.cS;exact xj a s c H _ f Q I r (.inl #[i,rfl,q _ _ (ag.refl H) fD])
 |[.bl b],e =>
  cases e;let(x,rfl,l):=k.one;cases l.xH;exact xj a s c H _ f Q I r (.inr #[b,rfl,q _ _ (ag.refl H) fD])
def I0:Ty->String
 |.int=>"int" | .bool=>"bool" | .tuple=>"tuple" | .list=>"list" | .str=>"str" | .seq=>""
theorem LP(t:Ty)(d:D)(h:t≠.seq):Ib d.ty (I0 t)=CG t d:=by
 cases t <;> cases d <;> first | rfl | (exact absurd rfl h) | decide
theorem Ja(d:D):(Ib d.ty "tuple" || Ib d.ty "list")=CG .seq d:=by cases d <;> rfl
theorem at_of{K:Å}{H:Hp}{l:⇑D}{a:⇑V}{i:Int}{d:D}(h:bg K H l a)(e:G3 l i=↑d):∃ v,G3 a i=↑v/\Hd K H d v:=by
 delta G3 at e ⊢
 let(j,c,f):=Õ.mp e;rw[h.length,c];exact h.get f
theorem UE:Qc X (tM X.K λa b=>(iP a b).map S.d):=by
 intro c f g s j H x y v u Q I k m h hs;let(n,z,o,p,w,A,B,C,e,q):=h;let(r,E,rfl):=Ö.mp e;cases o with
 |tup l =>
  cases p with
  |int i =>
   cases C.cS;let(a,F,rfl,G,J):=B.eH;let(L,N,P):=at_of J E;exact N1 c f g s j H _ _ v u Q I k m #[a,F,i,L,rfl,rfl,(ak n H).jB G,N,q _ _ (ag.refl H) (vg P)] hs
  |_=>cases E
 |lst l =>
  cases p with
  |int i =>
   cases C.cS;let(a,F,rfl,G,J):=B.jF;let(L,N,P):=at_of J E;exact yB c f g s j H _ _ v u Q I k m #[a,F,i,L,rfl,rfl,(G.same (ak n H)).sq,N,q _ _ (ag.refl H) (vg P)] hs
  |_=>cases E
 |_=>cases E
theorem Jb{K:Å}{H:Hp}{l:⇑D}{a:⇑V}(h:bg K H l a)(c d:Zq):bg K H (cutD l c d) (yz a c d):=by
 delta cutD yz
 rw[h.length];exact(h.drop _).take _
inductive Q6 (K:PySem.W.Frag) (x:V) (lo:Option Int) (hi:Option Int) (H:Hp) (Q:VK):Prop where
 |mk (zA z dx s) (h0_:aO zA z H) (h1_:Hd K (hz zA H) dx x) (h2_:TK dx lo hi=↑s) (h3_:∀ v H',ag H H'->nV K zA H H' s v->Q v H'):Q6 K x lo hi H Q
theorem TN:QJ X (Q6 X.K):=by
 intro c s d H x v f g i j sl Q I k hs pl m h;let(n,z,o,w,r,u,e,q):=h;cases o with
 |tup l =>
  cases e;let(a,y,rfl,A,B):=u.eH;exact Lf c s d H _ v f g i j sl Q I k hs pl m #[a,y,rfl,(ak n H).jB A,tupQ r (Jb B i j) q]
 |lst l =>
  cases e;let(a,y,rfl,A,B):=u.jF;exact K0 c s d H _ v f g i j sl Q I k hs pl m #[a,y,rfl,(A.same (ak n H)).sq,λp C=>q _ _ (ag.new _ C) (dB r (Jb B i j) C)]
 |_=>cases e
end
end Q
namespace Q
open PySem L2 PySem.Spec PyProof.Rows
open PySem.W (KatLex KatTups kat_nil kat_cons kat_go kat_yes kat_no kat_one kat_lt kat_kind kas_kind kat_lt_int)
theorem qZ(k:D):∀ l,(pL k l).Perm (k::l)
 |[]=>.refl _
 |y::r=>by
  unfold pL;split
  .exact((qZ k r).cons y).trans (.swap _ _ _)
  .exact .refl _
theorem oB:∀ l,(iW l).Perm l
 |[]=>.refl _|k::r=>(qZ k _).trans ((oB r).cons k)
theorem D9(k:D):∀ l,l.Pairwise (λx y=>MySort.aU (iO y) (iO x)=false)->(pL k l).Pairwise (λx y=>MySort.aU (iO y) (iO x)=false)
 |[],_=>VV _ _
 |y::r,h=>by
  let(a,c):=V5.mp h;unfold pL;split
  .rename_i d;refine V5.mpr #[λz hz=>?_,D9 k r c];rcases ì.mp ((qZ k r).mem_iff.mp hz) with rfl | hz
   .cases q:MySort.aU _ _ with
    |false=>rfl|true=>have:=MySort.fZ _ _ _ d q;rw[MySort.fi] at this;cases this
   .exact a z hz
  .rename_i d;refine V5.mpr #[λz hz=>?_,h];rcases ì.mp hz with rfl | hz
   .simpa using d
   .cases q:MySort.aU _ _ with
    |false=>rfl
    |true =>
     rcases MySort.uN _ _ _ q with q | q
     .rw[a z hz] at q;cases q
     .exact absurd q d
theorem A5:∀ l,(iW l).Pairwise (λx y=>MySort.aU (iO y) (iO x)=false)
 |[]=>.nil|k::r=>D9 k _ (A5 r)
mutual
theorem Jc:∀ x y:D,eqT x y=true->x=y
 |~~~i,y,h=>by
  cases y with
  |int j=>rw[ZC (show(i == j)=true from h)]|_=>cases h
 |.tup a,y,h=>by
  cases y with
  |tup b=>rw[yW a b h]|_=>cases h
 |.cq,y,h=>by cases y <;> cases h
 |.bl _,y,h=>by cases y <;> cases h
 |.str _,y,h=>by cases y <;> cases h
 |.lst _,y,h=>by cases y <;> cases h
 |.dct,y,h=>by cases y <;> cases h
theorem yW:∀ x y:⇑D,oy x y=true->x=y
 |[],[],_=>rfl|[],_::_,h=>by cases h
 |_::_,[],h=>by cases h
 |x::r,y::q,h=>by
  have h:(eqT x y&&oy r q)=true:=h;rw[Á] at h;rw[Jc x y h.1,yW r q h.2]
end
variable [TB:Tb]
theorem Ea(ok:∀ x∈l,∀ y∈l,iO x=iO y->x=y)(h:MySort.sortedBy (l.map iO) p):(p.map λi=>l.getD i .cq)=iW l:=by
 have c:=h.1.map λi=>l.getD i .cq;rw[Ã,MySort.range_getD] at c;refine Ws  (λa b g j p q=>?_) (by
  have:=h.2;rw[<-(by
  rw[à];refine Vx λi d=>?_;simp[by simpa using (h.1.mem_iff.mp d)]:((p.map λi=>l.getD i .cq).map iO)=p.map _),W8] at this;exact this) (A5 l) (c.trans (oB l).symm);exact ok a (c.mem_iff.mp g) b ((oB l).mem_iff.mp j) (MySort.iz _ _ q p)
mutual
theorem Jd(a:MySort.uP h c):∀ (d:D) {u:Ä}{as:Zp},eqT d d=true->Reads h u (CI d) as->Reads c u (CI d) as
 |~~~i,_,_,_,r=>by cases r;exact .int _ _
 |.tup l,_,_,e,r=>by
  cases r with
  |tuple f g j k=>exact .tuple (a _ _ f g) g j (fj a l e k)
 |.cq,_,_,e,_=>by cases e
 |.bl _,_,_,e,_=>by cases e
 |.str _,_,_,e,_=>by cases e
 |.lst _,_,_,e,_=>by cases e
 |.dct,_,_,e,_=>by cases e
theorem fj(a:MySort.uP h c):∀ (l:⇑D) {m:Zi}{as:Zp},oy l l=true->ReadsAll h m (lh l) as->ReadsAll c m (lh l) as
 |[],_,_,_,r=>by cases r;exact .nil
 |x::q,_,_,e,r=>by
  have e:(eqT x x&&oy q q)=true:=e;rw[Á] at e;cases r with
  |cons n o=>exact .cons (Jd a x e.1 n) (fj a q e.2 o)
end
theorem bP.get:∀ {us:Zi}{l:⇑D}{i:Nat}{d:D},bP h us l->l[i]?=↑d->rT h (us.getD i ö) d
 |_,[],i,d,_,e=>by cases e
 |us,x::r,i,d,hd,e=>by
  let(u,q,rfl,h1,h2):=hd.bj;cases i with
  |zero=>cases e;exact h1
  |succ i=>simpa using bP.get h2 (e)
theorem bP.len:∀ {a:Zi}{l:⇑D},bP h a l->a.length=l.length
 |_,[],c=>by rw[c.cC];rfl
 |a,x::r,c=>by
  let(u,q,rfl,d,e):=c.bj;simp[bP.len e]
def Je(l:⇑D):Prop:=∀ x r,l=x::r->∃ i,x= ~~~i
theorem Q7(d:A.units + 40 < WN):∀ (a c:⇑D) {f g:Zi}{r:Bool} (i:Nat),bP s.heap f a->bP s.heap g c->yS a c=↑r->cj a<=39 ->
  ((b&&i == 0)->Je a/\Je c)->fin=decide (f.length < g.length)->Q r s->KatLex P w A b fin Q (f.zip g) i s
 |[],[],_,_,r,i,h,j,e,_,_,o,q=>by
  cases h.cC;cases j.cC;cases e;subst o;exact kat_nil q
 |[],y::t,_,_,r,i,h,j,e,_,_,o,q=>by
  cases h.cC;let(u,g,rfl,_,_):=j.bj;cases e;subst o;exact kat_nil q
 |x::l,[],_,_,r,i,h,j,e,_,_,o,q=>by
  cases j.cC;let(v,f,rfl,_,_):=h.bj;cases e;subst o;exact kat_nil q
 |x::l,y::t,_,_,r,i,h,j,e,p,B,o,q=>by
  let(v,f,rfl,C,E):=h.bj;let(u,g,rfl,c1,c2):=j.bj;have F:deep x<=39:=Í (Nat.le_max_left _ _) p;have G:cj l<=39:=Í (Nat.le_max_right _ _) p;have e:(if xD x y=true then yS l t else Ak x y)=↑r:=e;refine kat_cons (M4 (A:=A) C c1 (VA (_P (VO _ _) F) d) P w _ _ ?_)
  refine kat_go (λz=>?_) λz=>?_
  .rw[Zu z] at e;refine kat_yes (Q7 d l t (i + 1) E c2 e G (λk=>?_) (by rw[o];simp) q)
   simp at k
  .rw[Zv (by rw[z];exact ï)] at e
   refine kat_no ?_;cases H:(b&&i == 0) with
   |true =>
    let(I,J):=B H;let(m,rfl):=I x l rfl;let(n,rfl):=J y t rfl;cases e;let(_,_,K):=C;let(_,_,L):=c1;cases K;cases L;exact oneLt_int q
   |false=>exact kat_one _ _ ((IV 39 (A:=A) (s:=s)).1 x y v u r F C c1 e (Nat.lt_of_succ_lt d) P w _ _ q)
theorem yX(h:nR x=0):∃ i,x= ~~~i:=by
 cases x with
 |int i=>exact#[i,rfl]
 |tup l =>
  cases l with
  |nil=>cases h
  |cons y r=>cases y <;> cases h
 |_=>cases h
theorem yY(h:nR x=k)(a:1<=k)(c:k < 3):∃ y r,x=.tup (y::r)/\(k=1->∃ i,y= ~~~i)/\(k=2->∃ l,y=.tup l):=by
 cases x with
 |tup l =>
  cases l with
  |nil=>have:k=3:=h.symm;omega
  |cons y r =>
   refine#[y,r,rfl,λe=>?_,λe=>?_] <;> subst e <;> cases y <;> first | exact#[_,rfl] | cases h
 |int i=>have:k=0:=h.symm;omega|_=>have:k=3:=h.symm;omega
theorem Jf(c:1<=k)(d:k < 3):∀ {g:Zi}{l:⇑D},bP h g l->(∀ x∈l,nR x=k)->∃ fs,KatTups h g fs/\fs.length=g.length/\∀ v∈fs,(k=1->∃ i t,v=Xq i t)/\(k=2->∃ a o,v=Wn a/\h.get? a=↑o/\o.cls=.type "tuple")
 |_,[],j,_=>by rw[j.cC];exact#[[],.nil,rfl,λv p=>absurd p ⋯]
 |_,x::r,j,s=>by
  obtain⟨u,q,rfl,⟨_,as,w⟩,z⟩:=j.bj;let(fs,A,B,C):=Jf c d z λy E=>s y (Î _ E);let(y,l,rfl,F,G):=yY (s x È) c d;cases w with
  | @tuple a o H n I as J K L N =>
   cases p:H.toList with
   |nil=>rw[p] at N;cases N
   |cons f fr =>
    rw[p] at N;cases N with
    |cons P f2 =>
     refine#[_,.cons J K L (by rw[<-Wt,p];rfl) A,by simp[B],λv U=>?_]
     rcases ì.mp U with rfl | U
     .refine#[λe=>?_,λe=>?_]
      .let(i,rfl):=F e;cases P;exact#[_,_,rfl]
      .let(m,rfl):=G e;cases P with
       |tuple X Y g3 g4=>exact#[_,_,rfl,X,Y]
     .exact C v U
def kdOf:Nat->XN
 |0=>oneType'|1=>tuples' true|_=>tuples' false
theorem pQ(h:cB x y):nR y=nR x/\Ak x y=↑(MySort.aU (iO x) (iO y))/\(iO x=iO y->x=y):=by
 delta cB at h
 rw[Á,Á,Wk] at h;refine#[ZC h.1,ZC h.2.1,λe=>?_];rcases h.2.2 with k | k
 .exact Jc _ _ k
 simp_all
theorem OR{P:ð}{w:ú}{A:Vl}{s:É}{c:Zi}{l:⇑D}{k:Nat}(f:bP s.heap c l)(g:k < 3)(h:∀ x∈l,nR x=k)(j:2<=c.length)(E:Ä->É->Prop)(Q:XN->É->Prop)(q:Q (kdOf k) s):â (Ü P w) A (keyKind' c.toArray) Q E s:=by
 match k,g,h,q with
 |0,_,h,q =>
  refine kas_kind j (T:=.type "int") (λv m=>?_) rfl rfl q;let(i,p,rfl):=Vv.mp m;have u:i < l.length:=by rw[<-f.len];exact p
  let(_,as,r):=f.get (i:=i) (d:=l[i]) ⋯
  let(n,y):=yX (h _ (V3 u));rw[y] at r;have e:c.getD i ö=c[i]:=by simp[p]
  rw[e] at r;generalize c[i]=v at r;cases r;exact PySem.W.Looks.of_pure rfl
 |1,_,h,q =>
  let(fs,z,B,C):=Jf (-0) (-0) f h
  exact kat_kind (T:=.type "int") z ∅ (λv m=>by let(i,t,rfl):=(C v m).1 rfl;exact PySem.W.Looks.of_pure rfl) rfl q
 |2,_,h,q =>
  let(fs,z,B,C):=Jf (-0) (-0) f h
  exact kat_kind (T:=.type "tuple") z ∅ (λv m=>by
   let(a,o,rfl,F,G):=(C v m).2 rfl;rw[<-G];exact(PySem.W.Looks.ld F).andThen .now) rfl q
theorem Q8{P:ð}{w:ú}{A:Vl}{s:É}{f:Zi}{l:⇑D}{k:Nat}(g:bP s.heap f l)(hu:A.units + 40 < WN)(o:k < 3)(p:∀ x∈l,nR x=k)(ho:∀ x∈l,iA x)(hp:∀ x∈l,∀ y∈l,cB x y)(i j:Nat)(hi:i < f.length)(hj:j < f.length)(E:Ä->É->Prop)(C:Bool->É->Prop)(r:C (MySort.aU ((l.map iO).getD i []) ((l.map iO).getD j [])) s):â (Ü P w) A (keyLt' (kdOf k) (f.getD i ö) (f.getD j ö)) C E s:=by
 have B:i < l.length:=by rw[<-g.len];exact hi
 have F:j < l.length:=by rw[<-g.len];exact hj
 have G:=V3 B;have H:=V3 F;let(_,I,_):=pQ (hp _ G _ H);have J:=g.get (i:=i) (d:=l[i]) ⋯
 have K:=g.get (i:=j) (d:=l[j]) ⋯
 rw[(by simp[B]:(l.map iO).getD i []=iO l[i]),(by simp[F]:(l.map iO).getD j []=iO l[j])] at r;generalize MySort.aU _ _=c at I r;have L:=p _ G;have ky:=p _ H;generalize l[i]=x at *
 generalize l[j]=y at *
 have tup:∀ b ,1<=k->(b=true->k=1)->â (Ü P w) A (keyLt' (tuples' b) (f.getD i ö) (f.getD j ö)) C E s:=λb N hb=>by
  let(x1,xr,rfl,x2,_):=yY L N o;let(y1,yr,rfl,y2,_):=yY ky N o;let(f1,as,U):=J;let(f2,bs,X):=K;generalize f.getD i ö=v at U;generalize f.getD j ö=u at X;cases U with
  |tuple p1 p2 p3 p4 =>
   cases X with
   |tuple q1 q2 q3 q4 =>
    refine kat_lt p1 p3 q1 q3 (Q7 hu _ _ 0 #[f1,_,p4] #[f2,_,q4] I (by have:deep (.tup (x1::xr))=cj _ + 1:=rfl;exact YQ (vj (ho _ G))) (λz=>?_) ⋯ r)
    have Y:=hb (by simpa using z)
    exact#[λa q e=>by cases e;exact x2 Y,λa q e=>by cases e;exact y2 Y]
 match k,o,L,ky,tup with
 |0,_,L,ky,_ =>
  let(m,rfl):=yX L;let(n,rfl):=yX ky;cases I;let(_,_,U):=J;let(_,_,X):=K;generalize f.getD i ö=v at U;generalize f.getD j ö=u at X;cases U;cases X;exact kat_lt_int r
 |1,_,_,_,tup=>exact tup true (-0) λ_=>rfl|2,_,_,_,tup=>exact tup false (-0) λh=>by cases h
theorem yZ(h64:us.length < 64)(hd:bP s.heap us l)(hu:A.units + 40 < WN)(k3:k < 3)(hk:∀ x∈l,nR x=k)(ho:∀ x∈l,iA x=true)(hp:∀ x∈l,∀ y∈l,cB x y=true):MySort.uO P w A s us (MySort.sortedBy (l.map iO)) (kdOf k) where
 len:=by omega
 few h2:=MySort.HU (by rw[Ã];exact hd.len) h2
 all p hp:=by rw[hp.1.length_eq,Vu,Ã,hd.len]
 kind:=OR hd k3 hk
 run:=MySort.DW (by rw[Ã];exact hd.len) ∅ (Q8 hd hu k3 hk ho hp)
theorem bg.pick{K:Å}{H:Hp}{l:⇑D}{a:⇑V}(h:bg K H l a):∀ {p:Zh},(∀ i∈p,i < l.length)->bg K H (p.map λi=>l.getD i .cq) (p.map λi=>a.getD i .cq)
 |[],_=>.nil
 |i::p,c=>by
  have e:=c i È;refine .cons ?_ (bg.pick h λj f=>c j (Î _ f));let(v,g,k):=h.get (i:=i) (d:=l[i]) ⋯
  simp_all
end Q
namespace Q
open PySem L2 PySem.Spec PyProof.Rows
open PySem.W (kas_mapM kas_first_eq kas_item kas_item_eq kas_cmp)
theorem lT:∀ (u p q:Zl),MySort.aU (u++p) (u++q)=MySort.aU p q
 |[],_,_=>rfl
 |x::u,p,q=>by
  show(if x=x then MySort.aU _ _ else _)=_;rw[Zu rfl];exact lT u p q
def UG(x y:D):Prop:=∃ b,Ak x y=↑b/\(xD x y=true->x=y/\b=false)/\(xD x y=false->∀ p q,MySort.aU (enc x++p) (enc y++q)=b)
theorem Jg(d:∀ x y,pM k x->pM k y->UG x y):∀ a c:⇑D,a.all (pM k)->c.all (pM k)->∃ b,yS a c=↑b/\(lg a c->a=c/\b=false)/\(lg a c=false->∀ p q,MySort.aU (F6 a++p) (F6 c++q)=b)
 |[],[],_,_=>#[false,rfl,λ_=>#[rfl,rfl],λh=>by cases h]
 |[],y::c,_,_=>#[true,rfl,λh=>by(cases h),λ_ p q=>rfl]
 |x::a,[],_,_=>#[false,rfl,λh=>by(cases h),λ_ p q=>rfl]
 |x::a,y::c,f,g=>by
  rw[V4,Á] at f g;let(i,j,m,n):=d x y f.1 g.1;let(b2,o,r,s):=Jg d a c f.2 g.2;have u:∀ (z:D) (l:⇑D) (p:Zl),F6 (z::l)++p=1::(enc z++(F6 l++p)):=λz l p=>congrArg _ (Ø _ _ p);have v:∀ p q ,MySort.aU (1::p) (1::q)=MySort.aU p q:=λp q=>lT [1] p q;show ∃ b,(if xD x y=true then yS a c else Ak x y)=↑b/\((xD x y&&lg a c)=true->x::a=y::c/\b=false)/\((xD x y&&lg a c)=false->_);cases e:xD x y with
  |true =>
   obtain⟨rfl,-⟩:=m e;refine#[b2,o,λh=>#[by rw[(r h).1],(r h).2],λh p q=>?_]
   rw[u,u,v,lT];exact s h p q
  |false =>
   refine#[i,j,λh=>by simp at h,λ_ p q=>?_]
   rw[u,u];exact n e _ _
theorem Jh:∀ (k:Nat) (x y:D),pM k x->pM k y->UG x y
 |0,~~~i,y,_,d=>by
  cases y with
  |int j =>
   refine#[_,rfl,λh=>?_,λh p q=>?_]
   .have :=ZC (show(i == j)=true from h)
    simp_all
   .show(if i=j then _ else _)=_;rw[Zv (ne_of_beq_false (show(i == j)=false from h))]
  |_=>cases d
 |k + 1,.tup a,y,e,d=>by
  cases y with
  |tup c =>
   let(b,f,g,l):=Jg (Jh k) a c e d;exact#[b,f,λh=>#[by rw[(g h).1],(g h).2],l]
  |_=>cases d
 |0,.tup _,_,h,_=>by cases h
 |0,.cq,_,h,_=>by cases h
 |0,.bl _,_,h,_=>by cases h
 |0,.str _,_,h,_=>by cases h
 |0,.lst _,_,h,_=>by cases h
 |0,.dct,_,h,_=>by cases h
 |_ + 1,~~~_,_,h,_=>by cases h
 |_ + 1,.cq,_,h,_=>by cases h
 |_ + 1,.bl _,_,h,_=>by cases h
 |_ + 1,.str _,_,h,_=>by cases h
 |_ + 1,.lst _,_,h,_=>by cases h
 |_ + 1,.dct,_,h,_=>by cases h
theorem y4(a:pM k x)(c:pM k y):Ak x y=↑((Ak x y).getD false)/\(Ak x y).getD false=MySort.aU (enc x) (enc y)/\(enc x=enc y->x=y):=by
 let(b,d,f,g):=Jh k x y a c;rw[d];refine#[rfl,?_,λh=>?_]
 .cases e:xD x y with
  |true=>let(rfl,rfl):=f e;exact(MySort.fi _).symm
  |false=>have:=g e [] [];simp_all
 .cases e:xD x y with
  |true=>exact(f e).1
  |false =>
   have i:=g e [0] [1];have p2:=g e [1] [0];rw[h,lT] at i p2;exact absurd (i.trans p2.symm) (-0)
theorem y6:∀ (k:Nat) (x:D),pM k x->dz x/\deep x<=k/\eqT x x
 |0,~~~i,_=>#[rfl,Ò _,beq_self_eq_true i]
 |k + 1,.tup l,h=>by
  let(a,b,c):=(λl=>by
   induction l with
   |nil=>exact λ_=>#[rfl,Wg _,rfl]
   |cons x r d =>
    intro h;rw[V4,Á] at h;let(a,b,c):=y6 k x h.1;let(e,f,g):=d h.2;exact#[by show(dz x&&bu r)=true;rw[a,e];rfl,Nat.max_le.mpr #[b,f],by show(eqT x x&&oy r r)=true;rw[c,g];rfl]:∀ l ,l.all (pM k)=true->bu l=true/\cj l<=k/\oy l l=true) l h;exact#[a,XC b,c]
 |0,.tup _,h=>by cases h
 |0,.cq,h=>by cases h
 |0,.bl _,h=>by cases h
 |0,.str _,h=>by cases h
 |0,.lst _,h=>by cases h
 |0,.dct,h=>by cases h
 |_ + 1,~~~_,h=>by cases h
 |_ + 1,.cq,h=>by cases h
 |_ + 1,.bl _,h=>by cases h
 |_ + 1,.str _,h=>by cases h
 |_ + 1,.lst _,h=>by cases h
 |_ + 1,.dct,h=>by cases h
theorem A6(l:⇑D)(h:l.all (pM (k + 1))):bu l/\oy l l=true :=
 have:=y6 (k + 2) (.tup l) h
 #[this.1,this.2.2]
theorem tR(h:yT l):∃ r k,l=.tup []::r/\r.length < 60000/\r.all (pM (k + 1))/\k < 2:=by
 match l,h with
 |.tup []::r,h =>
  have h:(decide _&&(r.all _ || r.all _))=true:=h;rw[Á,Wk,Zw] at h;rcases h.2 with k | k
  .exact#[r,0,rfl,h.1,k,by decide]
  .exact#[r,1,rfl,h.1,k,by decide]
theorem q9(k:D):∀ l,(AV k l).Perm (k::l)
 |[]=>.refl _
 |y::r=>by
  unfold AV;split
  .exact((q9 k r).cons y).trans (.swap _ _ _)
  .exact .refl _
theorem gf:∀ l,(lK l).Perm l
 |[]=>.refl _|k::r=>(q9 k _).trans ((gf r).cons k)
def SJ(l:⇑D):Prop:=l.Pairwise λx y=>MySort.aU (enc y) (enc x)=false
theorem Eb(k:D):∀ l,SJ l->SJ (AV k l)
 |[],_=>VV _ _
 |y::r,h=>by
  let(a,c):=V5.mp h;unfold AV;split
  .rename_i d;refine V5.mpr #[λz hz=>?_,Eb k r c];rcases ì.mp ((q9 k r).mem_iff.mp hz) with rfl | hz
   .cases q:MySort.aU _ _ with
    |false=>rfl|true=>have:=MySort.fZ _ _ _ d q;rw[MySort.fi] at this;cases this
   .exact a z hz
  .rename_i d;refine V5.mpr #[λz hz=>?_,h];rcases ì.mp hz with rfl | hz
   .simpa using d
   .cases q:MySort.aU _ _ with
    |false=>rfl
    |true =>
     rcases MySort.uN _ _ _ q with q | q
     .rw[a z hz] at q;cases q
     .exact absurd q d
theorem A7:∀ l,SJ (lK l)
 |[]=>.nil|k::r=>Eb k _ (A7 r)
theorem Ji(c:d.Perm l)(hs:SJ d)(inj:∀ x∈l,∀ y∈l,enc x=enc y->x=y):d=lK l :=
 Ws  (λa b e f p q=>inj a (c.mem_iff.mp e) b ((gf l).mem_iff.mp f) (MySort.iz _ _ q p)) hs (A7 l) (c.trans (gf l).symm)
theorem A8(ok:∀ x∈l,∀ y∈l,enc x=enc y->x=y)(h:MySort.sortedBy (l.map enc) p):(p.map λi=>l.getD i .cq)=lK l:=by
 have a:=h.1.map λi=>l.getD i .cq;rw[Ã,MySort.range_getD] at a;refine Ji a ?_ ok;have:=h.2;rw[<-(by
  rw[à];refine Vx λi c=>?_;simp[by simpa using (h.1.mem_iff.mp c)]:((p.map λi=>l.getD i .cq).map enc)=p.map _),W8] at this;exact this
variable [TB:Tb]
section
variable {P:ð}{w:ú}{A:Vl}{E:Ä->É->Prop}{s:É}
def TupAt(h:þ)(v:Ä):Prop:=∃ a o c n,v=↥a/\h.get? a=↑o/\o.cls=.type "tuple"/\o.data=.seq c n
theorem A9(c:s.heap.get? a=↑o)(d:o.cls=.type "tuple")(e:o.data=.seq xs n)(q:Q xs[0]? s):â (Ü P w) A (firstOfTuple' ↥a) Q E s:=by
 refine À (PySem.W.Looks.here (show PySem.W.Looks _ s.heap _ o.cls from(PySem.W.Looks.ld c).andThen .now) ?_);rw[d];exact À (listItems_at c e (Æ q))
theorem xI:∀ (c:Zi),(∀ v∈c,TupAt s.heap v)->∃ fs:⇑Zn,∀ Q,Q fs s->â (Ü P w) A (c.mapM firstOfTuple') Q E s
 |[],_=>#[[],λQ q=>by exact Æ q]
 |v::c,h=>by
  let(fs,d):=xI c λu e=>h u (Î _ e);let(a,o,f,n,rfl,g,i,j):=h v È;refine#[f[0]?::fs,λQ q=>?_];rw[mapM_cons];exact À (A9 g i j (À (d _ (Æ q))))
theorem Ec(c:s.heap.get? a=↑o)(d:o.cls=.type "tuple")(e:o.data=.seq [].toArray n)(h:∀ v∈f,TupAt s.heap v)(q:Q oneType' s):â (Ü P w) A (keyKind' (Wn a::f).toArray) Q E s:=by
 let(fs,g):=xI     f h;rw[keyKind'_eq,List.mapM_toArray,mapM_cons];refine À (À (À (A9 c d e (À (g _ (Æ (Æ ?_)))))));rw[Zv ⋯,oneTypeOnly'_eq,List.mapM_toArray];refine À (À (À (kas_mapM (r:=.type "tuple") _ (λv i j k=>?_) (Æ ?_))))
 .let(b,l,p,m,rfl,u,y,_):=(by
   rcases ì.mp i with rfl | i
   .exact#[_,_,_,_,rfl,c,d,e]
   .exact h v i:TupAt s.heap v);rw[<-y] at k;exact PySem.W.Looks.here (show PySem.W.Looks _ s.heap _ l.cls from(PySem.W.Looks.ld u).andThen .now) k
 .rw[(⋯:(List.map _ _).toArray[0]?=↑(Wz "tuple"))];simp[(⋯:((List.map (λ_=>Wz "tuple") _).toArray.all λx=>x == Wz "tuple")=true),if_true];exact Æ (Æ q)
theorem OS(a:IsTup s.heap l d)(e:IsTup s.heap b f)(g:A.units < WN)(h:Lx A.in1 s d.toList f.toList c)(q:Q c s):â (Ü P w) A (keyLt' oneType' ↥l ↥b) Q E s:=by
 obtain⟨⟨i,j,k,sl⟩,m,o,n,p⟩:=id a;obtain⟨⟨r,u,v,x⟩,y,z,n2,B⟩:=id e;subst o p z B;refine À (wpAny_cRoomFor g (À (wpAny_callSpecialIfBound?_slot #[_,m,rfl] PySem.F.slot_tuple_lt (Wv PySem.F.slot_tuple_lt #[_,m,rfl] PySem.F.entry_tuple_lt (PySem.F.args_tuple_lt_2 _ _) (rV l b d f n n2 j u sl x c) #[m,y,h,?_]))));exact Wi q
theorem OT{c:Zi}{r:⇑D}{k:Nat}(f:bP s.heap c (.tup []::r))(ty:r.all (pM (k + 1))){Q:XN->É->Prop}(q:Q oneType' s):â (Ü P w) A (keyKind' c.toArray) Q E s:=by
 have tup:∀ {v:Ä}{l:⇑D},rT s.heap v (.tup l)->∃ g n a o,v=↥a/\s.heap.get? a=↑o/\o.cls=.type _/\o.data=.seq g n/\(l=[]->g=[].toArray):=λ{v l} h=>by
  let(_,as,r):=h;cases r with
  | @tuple a o j n g as m p y z=>exact#[j,n,a,o,rfl,m,p,y,λe=>by
    subst e;have:j.toList=[]:=by cases B:j.toList with | nil=>rfl | cons _ _=>rw[B] at z;cases z
    simp_all]
 let(v,j,rfl,C,F):=f.bj;let(g,n,a,o,rfl,G,H,I,J):=tup C;cases J rfl;refine Ec G H I (λu K=>?_) q;let(i,L,rfl):=Vv.mp K;have N:i < r.length:=by rw[<-F.len];exact L
 have d:=F.get (i:=i) (d:=r[i]) ⋯
 have t:=Ù.mp ty _ (V3 N);have e:j.getD i ö=j[i]:=by simp[L]
 rw[e] at d;generalize r[i]=x at d t;cases x with
 |tup l =>
  let(g,n,a,o,e,C,U,X,_):=tup d;exact#[a,o,g,n,e,C,U,X]
 |_=>cases t
theorem Q9{a:Zi}{l:⇑D}{k:Nat}(e:bP s.heap a l)(ty:l.all (pM (k + 1)))(hk:k<=30)(hu:A.units + 60 < WN)(i j:Nat)(f:i < a.length)(g:j < a.length)(C:Bool->É->Prop)(h:C (MySort.aU ((l.map enc).getD i []) ((l.map enc).getD j [])) s):â (Ü P w) A (keyLt' oneType' (a.getD i ö) (a.getD j ö)) C E s:=by
 have m:i < l.length:=by rw[<-e.len];exact f
 have n:j < l.length:=by rw[<-e.len];exact g
 have o:=e.get (i:=i) (d:=l[i]) ⋯
 have p:=e.get (i:=j) (d:=l[j]) ⋯
 have q:=Ù.mp ty _ (V3 m);have r:=Ù.mp ty _ (V3 n);rw[(by simp[m]:(l.map enc).getD i []=enc l[i]),(by simp[n]:(l.map enc).getD j []=enc l[j]),<-(y4 q r).2.1] at h;have F:=(y4 q r).1;generalize (Ak _ _).getD false=c at F h;generalize l[i]=x at *
 generalize l[j]=y at *
 generalize a.getD i ö=v at o;generalize a.getD j ö=u at p;cases x with
 |tup H =>
  cases y with
  |tup ys =>
   let(I,as,J):=o;let(K,bs,L):=p;cases J with
   |tuple N p2 U X =>
    cases L with
    |tuple Y q2 q3 q4 =>
     exact OS #[_,N,p2,_,U] #[_,Y,q2,_,q3] (VA (VO _ _) hu) ((IV 40).2 _ _ _ _ _ (by have:cj H + 1<=k + 1:=((y6 _ _ q).2.1);omega) #[I,_,X] #[K,_,q4] F (VA (XA (_h _ _) _) hu)) h
  |_=>cases r
 |_=>cases q
theorem Jj{us:Zi}{r:⇑D}{k:Nat}(hd:bP s.heap us (.tup []::r))(hr:r.length < 60000)(ty:r.all (pM (k + 1))=true)(hk:k<=30)(hu:A.units + 60 < WN):MySort.uO P w A s us (MySort.sortedBy ((D.tup []::r).map enc)) oneType' where
 len:=by rw[hd.len,ã];exact hr
 few h2:=MySort.HU (by rw[Ã];exact hd.len) h2
 all p hp:=by rw[hp.1.length_eq,Vu,Ã,hd.len]
 kind _ E Q q:=OT hd ty q
 run:=MySort.DW (by rw[Ã];exact hd.len) (by rw[hd.len,ã];exact _b hr) λi j hi hj E C hC=>Q9 hd (k:=k) (by rw[V4,ty];rfl) hk hu i j hi hj C hC
end
section
variable {X:Cx}
theorem Ed{zA:Zk}{H:Hp}{l:⇑D}{a:⇑V}(c:X.A.units + 64 < WN)(d:bg X.K H l a)(ok:yT l):uR X H a (MySort.sortedBy (l.map enc)):=by
 intro e f s g I h;let(r,k,rfl,i,ty,j):=tR ok;have cl:=A6 _ (by rw[V4,ty];rfl:(D.tup []::r).all _=true);let(as,n):=kf I d h cl.1;exact#[oneType',λo p=>Jj #[cl.1,_,fj p _ cl.2 n] i ty (_R (Ñ j (_h _ _))) (by grind)]
theorem Ee{zA:Zk}{H:Hp}{l:⇑D}{a:⇑V}{c:Zh->Prop}(d:bg X.K H l a)(ok:bV l)(mk:∀ (s:É) (e:Zi) (k:Nat),e.length=l.length->bP s.heap e l->k < 3->(∀ x∈l,nR x=k)->(∀ x∈l,iA x)->(∀ x∈l,∀ y∈l,cB x y)->MySort.uO X.prog X.w X.A.in1.in1 s e c (kdOf k)):uR X H a c:=by
 intro f g s e I i;have j:e.length=l.length:=by rw[<-i.length,d.length]
 have all:∀ x∈l,nR x < 3/\iA x=true/\∀ y∈l,cB x y=true:=λx m=>by
  have:=Ù.mp ok x m
  simp_all
 have n:bu l=true:=by
  clear d mk j
  induction l with
  |nil=>rfl
  |cons x r o =>
   show(dz x&&bu r)=true;rw[(gM (all x È).2.1).1];exact o (Ù.mpr λy v=>by simp_all) λy v=>#[(all y (Î _ v)).1,(all y (Î _ v)).2.1,λz hz=>(all y (Î _ v)).2.2 z (Î _ hz)]
 let(as,B):=kf I d i n;have pure :=by
  refine (λq=>by
   induction q with
   |nil=>intro _;rfl|cons x r o=>intro h;show(eqT x x&&oy r r)=true;rw[h x È,o λy v=>h y (Î _ v)];rfl:∀ q ,(∀ x∈q,eqT x x=true)->oy q q=true) l λx m=>?_;have h:=(all x m).2.2 x m;unfold cB at h
  simp_all
 cases l with
 |nil=>exact#[kdOf 0,λC E=>mk _ _ _ j #[n,_,fj E _ pure B] (-0) (λx m=>absurd m ⋯) (λx m=>absurd m ⋯) λx m=>absurd m ⋯]
 |cons x r =>
  have m:=all x È;exact#[_,λC E=>mk _ _ _ j #[n,_,fj E _ pure B] m.1 (λy v=>(pQ (m.2.2 y v)).1) (λy v=>(all y v).2.1) λy v=>(all y v).2.2]
theorem Ef{zA:Zk}{H:Hp}{l:⇑D}{a:⇑V}(c:X.A.units + 64 < WN)(e:bg X.K H l a)(f:l.length < 64)(ok:bV l):uR X H a (MySort.sortedBy (l.map iO)) :=
 Ee (zA:=zA) e ok λ_ _ _ g d h i j k=>yZ (VA (WA g) f) d (by grind) h i j k
theorem Ge(hu:X.A.units + 64 < WN):cA X (.builtin "sorted") (D8 X.K (kO .sorted)):=by
 intro d s f H xs g Q I r h;let(j,z,ds,w,st,n,e,q):=h
 match ds,e with
 |[x],e =>
  let(l,o,e):=Õ.mp e;let(v,rfl,hv):=n.one;have go:∀ (a:Ê) (u:⇑V),v=↥a->(jX X.K H a u\/dU X.K H a u)->bg X.K (hz j H) l u->â (Ü X.prog X.w) X.A (call (.builtin "sorted") g) (EP X d f Q) X.xe s:=λa u B hq C=>by
   subst B;by_cases c:l.length < 64/\bV l=true
   .rw[Zu c] at e;cases e;let(E,ok):=c;refine gZ d s f H _ g Q I r #[a,u,_,rfl,hq,Ef (zA:=j) hu (C.same (ak j H)) E ok,λp F i G=>by rw[C.length];simpa using (F.1.mem_iff.mp G),λp lA F J=>?_]
    have L:=C.pick  λi G=>by simpa using (F.1.mem_iff.mp G)
    rw[Ea (λx n y N=>?_) F] at L
    .exact q _ _ (ag.new _ J) (dB st L J)
    .have:=Ù.mp ok x n;rw[Á,Á,VT] at this;exact(pQ (this.2.2 y N)).2.2
   .rw[Zv c] at e;by_cases c2:yT l=true
    .delta qX at e
     rw[Zu c2] at e;cases e;refine gZ d s f H _ g Q I r #[a,u,_,rfl,hq,Ed (zA:=j) hu (C.same (ak j H)) c2,λp F i G=>by rw[C.length];simpa using (F.1.mem_iff.mp G),λp lA F J=>?_]
     have L:=C.pick  λi G=>by simpa using (F.1.mem_iff.mp G)
     rw[A8 (λx n y N=>?_) F] at L
     .exact q _ _ (ag.new _ J) (dB st L J)
     .let(rr,k,rfl,_,ty,_):=tR c2;have P:(D.tup []::rr).all (pM (k + 1))=true:=by rw[V4,ty];rfl
      exact(y4 (Ù.mp P _ n) (Ù.mp P _ N)).2.2
    .delta qX at e
     simp_all
  cases x with
  |tup m =>
   cases o;let(a,u,rfl,U,Y):=hv.eH;exact go a u rfl (.inr ((ak j H).jB U)) Y
  |lst m =>
   cases o;let(a,u,rfl,U,Y):=hv.jF;exact go a u rfl (.inl (U.same (ak j H)).sq) Y
  |_=>cases o
end
end Q
namespace SS
open PySem PySem.W PyProof.Rows MySort
def Jk(m:Nat):Nat->Nat
 |0=>0|i + 1=>(fS m).getD i 0 + 1
theorem Gf:((ø 256).all λm=>(ø ((fS m).length + 1)).all λi=>SetTable.below (fS m).toArray (Jk m i) == i):=by decide +kernel
theorem Gg(b:Bool)(m:Nat):(dk b m).plain:=by delta dk;split <;> rfl
theorem LQ(b:Bool)(m:Nat):(dk b m).led=b:=by delta dk;split <;> rfl
theorem xJ(b:Bool)(m:Nat):(dk b m).place=(fS m).toArray:=by delta dk;split <;> rfl
theorem M5{w:ú}{m:Nat}{g:Nat->Tok}(hm:m < 256):CD w (dk (led w) m) (ent g m) where
 fits:=by rw[bY];exact(gK _ hm).1
 plain:=Gg _ _
 led:=LQ _ _
 below:=λi hi=>by
  rw[bY] at hi;have h:=ZC (Ù.mp (Ù.mp Gf m (û.mpr hm)) i (û.mpr (Nat.lt_succ_of_le hi)));have e:AR (dk (led w) m) i=Jk m i:=by
   cases i with
   |zero=>rfl
   |succ i =>
    show(dk (led w) m).place.getD i 0 + 1=(fS m).getD i 0 + 1;rw[xJ];simp[Array.getD,Ì];split <;> simp_all
  rw[e,xJ];exact h
 small:=by
  rw[bY];exact Í (Wb _ _) ⋯
def key:Ä->Int
 |.int i _=>i|_=>0
theorem Ba(m:Nat):(fS m).Pairwise (· < ·):=WR _ WQ
theorem vk:∀ a:Nat,a < 8->∀ b:Nat,b < 8->Q.cB (~~~a) (~~~b):=by decide
section
variable {P:ð}{w:ú}{A:Vl}{E:Ä->É->Prop}{s:É}{S ep m:Nat}{g:Nat->Tok}{o:Obj}
def jH(w:ú)(S ep:Nat)(g:Nat->Tok)(m:Nat):⇑Value:=(ord w S ep (ent g m)).toList.map (·.2)
def pT(w:ú)(S ep:Nat)(g:Nat->Tok)(m:Nat):⇑L2.D:=(jH w S ep g m).map λv=>~~~(key v)
theorem pU:(jH w S ep g m).Perm ((fS m).map λ(i:Nat)=>Xq i (g i)):=by
 have:=(AS w S ep (ent g m)).map (·.2);unfold ent at this;rw[à] at this;exact this
theorem y7(h:v∈jH w S ep g m):∃ i,i < 8/\v=.int (i:Nat) (g i):=by
 let(i,a,rfl):=Ç.mp (pU.mem_iff.mp h);exact#[i,(pJ.mp a).1,rfl]
theorem rd(h:þ):∀ a:Zi,(∀ v∈a,∃ (i:Nat) (t:Tok),v=.int i t)->Q.bP h a (a.map λv=>~~~(key v))
 |[],_=>#[rfl,[],.nil]
 |v::r,k=>by
  let(i,t,rfl):=k v È;let(c,as,d):=rd h r λv e=>k v (Î _ e);exact#[c,_,.cons (.int _ _) d]
theorem Bb(c:sortedBy ((pT w S ep g m).map Q.iO) p):(p.map λi=>(jH w S ep g m).getD i ö)=(fS m).map λ(i:Nat)=>Xq i (g i):=by
 let(d,f):=c;rw[(by delta pT;simp:((pT w S ep g m).map Q.iO).length=(jH w S ep g m).length)] at d;have k:(p.map λi=>(jH w S ep g m).getD i ö).Perm ((fS m).map λ(i:Nat)=>Xq i (g i)):=by
  apply XU (d.map _);rw[MySort.range_getD];exact pU
 refine Ws (le:=λu v=>key u<=key v) (λu v l n q r=>?_) ?_ ?_ k
 .let(i,x,rfl):=Ç.mp (k.mem_iff.mp l);let(j,y,rfl):=Ç.mp n;have q:(i:Int)<=j:=q;have r:(j:Int)<=i:=r
  grind
 .rw[(by
   rw[à];refine Vx λi x=>?_;delta pT
   simp[by simpa using d.mem_iff.mp x,Q.iO]:(p.map _)=(p.map λi=>(jH w S ep g m).getD i ö).map λv=>[key v]),W8] at f;refine f.imp λ{u v} h=>?_;simp[aU] at h;omega
 .rw[W8];exact(Ba m).imp λ{a b} h=>by show(a:Int)<=b;exact Vz (_n h)
theorem CL{R:Ä->É->Prop}(a:A.handled=none)(f:A.units + 64 < WN)(k:m < 256)(l:s.heap.get? S=↑o)(n:o.ExactSet)(q:o.data=.set (ent g m) ep (dk (led w) m))
  (h:∀ r x y c,s.heap.objs.size<=r->(∀ b u,s.heap.get? b=↑u->x.get? b=↑u)->x.get? r=↑(V0 "list" ((fS m).map λ(i:Nat)=>Xq i (g i)).toArray c)->R ↥r { s with heap:=x,toks:=y }):â (Ü P w) A (call (.builtin "sorted") [↥S]) R E s:=by
 have z:(jH w S ep g m).length<=8:=by
  rw[pU.length_eq,Ã];exact Í (Wb _ _) ⋯
 apply Yx kind_sorted plain_sorted entry_sorted (args_sorted1 _);refine À  (Æ ?_);refine À (rQ (by simp[a]) (M5 k) l n q λB y C F=>?_)
 refine À (YW ?_ (by show(jH w S ep g m).length<=_;rw[VD];omega))
 have G:(B.push _).get? B.objs.size=↑(V0 "list" (jH w S ep g m).toArray 0):=Ï _ rfl;have H:∀ x,uO P w A.in1.in1 { s with heap:=x,toks:=y } _ (sortedBy ((pT w S ep g m).map Q.iO)) (Q.kdOf 0):=λx=>by
  have I:∀ d∈pT w S ep g m,∃ i:Nat,i < 8/\d= ~~~i:=λd q=>by
   let(v,J,rfl):=Ç.mp q;let(i,K,rfl):=y7 J;exact#[i,K,rfl]
  letI:Q.Tb:=#[[]]
  refine Q.yZ ∅ (rd x _ λv J=>by let(i,_,rfl):=y7 J;exact#[i,_,rfl]) (by grind) (-0) (λd q=>?_) (λd q=>?_) λd q e L=>?_
  .let(i,_,rfl):=I d q;rfl
  .let(i,_,rfl):=I d q;rfl
  .let(i,K,rfl):=I d q;let(j,N,rfl):=I e L;exact vk i K j N
 refine À (Vw (Vt slot_list_sort #[_,G,rfl] entry_list_sort (pz G (λx _=>H x) λp x c U X Y=>#[_,rfl,Æ #[_,rfl,?_]]) (args_list_sort _)));rw[Bb U] at Y;exact h _ x y c (so C) (λb u e=>X b u (Û (é (F b u e))) (Â _ (F b u e))) Y
end
end SS
namespace Q
open PySem L2 PySem.Spec PyProof.Rows
variable [TB:Tb]
structure Gs where
 fns:⇑(Str × ⇑Str)
 nums:⇑(Str × Int)
 F:FT
 cls:Nat->Addr
 lv:Nat
def EPost(G:Gs)(a:Zk)(E:XK)(c:Nat)(z:Z)(H:Hp):Prop:=∀ e d,Ext a H d->aO a z d->d e=none->E ↥(G.cls c) ↑e d
theorem EPost.mono(h:EPost G d E c z H)(e:Ext d H H1):EPost G d E c z H1:=λa f x s n=>h a f (e.trans x) s n
def Ra(K:Å)(G:Gs)(a:Zk)(E:XK)(H:Hp)(Q:VK):R S->Prop
 |.ok s d=>∀ v e,Ext a H e->aO a d e->nV K a H e s v->Q v e|.er c d=>EPost G a E c d H
def vm(K:Å)(G:Gs)(a:Zk)(E:XK)(H:Hp)(Q:VK):R ⇑S->Prop
 |.ok l d=>∃ s,l=[s]/\∀ v e,Ext a H e->aO a d e->nV K a H e s v->Q v e|.er c d=>EPost G a E c d H
def Rb(K:Å)(G:Gs)(a:Zk)(E:XK)(H:Hp)(Q:⇑V->Hp->Prop):R ⇑S->Prop
 |.ok l d=>∀ e f,Ext a H f->aO a d f->VX (nV K a H f) l e->Q e f|.er c d=>EPost G a E c d H
def Eg(G:Gs)(a:Zk)(E:XK)(H:Hp)(Q:Bool->Hp->Prop):R ⇑S->Prop
 |.ok l e=>∃ b,l=[.d (.bl b)]/\∀ f,Ext a H f->aO a e f->Q b f|.er c e=>EPost G a E c e H
def fE(K:Å)(a:Zk)(H:Hp)(c:Env)(d:L2.St):Prop:=∀ (i:Nat) (s:S),c[i]?=↑↑s->∃ v,d[i]?=↑↑v/\Al K a H s v
theorem fE.mono{K:Å}{c:Zk}{H d:Hp}{f:Env}{g:L2.St}(h:fE K c H f g)(e:Ext c H d):fE K c d f g:=λi s q=>let #[v,a,b]:=h i s q;#[v,a,b.mono e]
inductive tI (K:PySem.W.Frag) (G:Gs) (E:XK) (x:Ex) (σ:L2.St) (H:Hp) (Q:VK):Prop where
 |mk (zA ρ z r) (h0_:fE K zA H ρ σ) (h1_:aO zA z H) (h2_:ev G.F x ρ z=↑r) (h3_:vm K G zA E H Q r):tI K G E x σ H Q
inductive tA (K:PySem.W.Frag) (G:Gs) (E:XK) (x:Ex) (σ:L2.St) (H:Hp) (Q:⇑V->Hp->Prop):Prop where
 |mk (zA ρ z r) (h0_:fE K zA H ρ σ) (h1_:aO zA z H) (h2_:ev G.F x ρ z=↑r) (h3_:Rb K G zA E H Q r):tA K G E x σ H Q
inductive tT (K:PySem.W.Frag) (G:Gs) (E:XK) (x:Ex) (σ:L2.St) (H:Hp) (Q:Bool->Hp->Prop):Prop where
 |mk (zA ρ z r) (h0_:fE K zA H ρ σ) (h1_:aO zA z H) (h2_:ev G.F x ρ z=↑r) (h3_:Eg G zA E H Q r):tT K G E x σ H Q
def KO(K:Å)(G:Gs)(f n:Nat):Sp:=λa H Q E=>a.length=n/\∃ c z d r,wF K c H d a/\aO c z H/\G.F false f d z=↑r/\Ra K G c E H Q r
section
variable {K:Å}{G:Gs}{E:XK}{a x:Ex}{ρ:Env}{z:Z}{zA:Zk}{σ:L2.St}{H:Hp}
theorem cK{d:Type}{k:⇑S->M d}{r:R d}(e:fE K zA H ρ σ)(f:aO zA z H)(h:Zd (ev G.F a ρ) k z=↑r)(g:∀ c i,r=.er c i->EPost G zA E c i H)
  (j:∀ l i,k l i=↑r->∃ s,l=[s]/\∀ v m,Ext zA H m->aO zA i m->nV K zA H m s v->n v m):tI K G E a σ H n:=by
 rcases M.bind_some h with ⟨l,i,o,p⟩ | ⟨c,i,o,p⟩
 .exact#[zA,ρ,z,_,e,f,o,j l i p]
 .exact#[zA,ρ,z,_,e,f,o,g c i p]
theorem pV{d:Type}{k:⇑S->M d}{r:R d}(e:fE K zA H ρ σ)(f:aO zA z H)(h:Zd (ev G.F a ρ) k z=↑r)(g:∀ c i,r=.er c i->EPost G zA E c i H)
  (j:∀ l i,k l i=↑r->∀ m n,Ext zA H n->aO zA i n->VX (nV K zA H n) l m->o m n):tA K G E a σ H o:=by
 rcases M.bind_some h with ⟨l,i,p,q⟩ | ⟨c,i,p,q⟩
 .exact#[zA,ρ,z,_,e,f,p,j l i q]
 .exact#[zA,ρ,z,_,e,f,p,g c i q]
theorem pW{e:Type}{k:Bool->M e}{r:R e}{f:Bool->Hp->Prop}(g:fE K zA H ρ σ)(i:aO zA z H)(h:Zd (ev G.F a ρ) (λx=>Zd (Zf ((pl x).bind lJ)) k) z=↑r)(j:∀ c m,r=.er c m->EPost G zA E c m H)
  (n:∀ b m,k b m=↑r->∀ o,Ext zA H o->aO zA m o->f b o):tT K G E a σ H f:=by
 rcases M.bind_some h with ⟨l,m,p,q⟩ | ⟨c,m,p,q⟩
 .let(b,u,v):=M.ao q;let(d,w,A):=Õ.mp u;have B:l=[.d (.bl b)]:=by
   let(s,rfl,hs):=bZ w;cases s with
   |d y=>cases hs;cases d <;> first | (cases A;rfl) | cases A
   |fr C=>cases hs;cases A
   |_=>cases hs
  exact#[zA,ρ,z,_,g,i,p,b,B,n b m v]
 .exact#[zA,ρ,z,_,g,i,p,j c m q]
theorem lU{l:⇑S}{s:S}(h:one l=↑s):l=[s]:=by
 delta one at h
 split at h
 .cases h;rfl
 .cases h
end
theorem PE.imp(h:PE X e t)(i:∀ a H Q,c a H Q->t a H Q):PE X e c:=λd s a H Q I q=>h d s a H Q I (i _ _ _ q)
theorem PT.imp(h:PT X e t)(i:∀ a H Q,c a H Q->t a H Q):PT X e c:=λd s a H Q I q=>h d s a H Q I (i _ _ _ q)
theorem PW.imp(h:PW X e t)(i:∀ a H Q,c a H Q->t a H Q):PW X e c:=λw d s a H Q I q=>h w d s a H Q I (i _ _ _ q)
theorem PA.imp(h:PA X e t)(i:∀ a H Q,c a H Q->t a H Q):PA X e c:=λp d s a H Q I q=>h p d s a H Q I (i _ _ _ q)
def noStar:Þ->Bool
 |.Starred ..=>false|_=>true
theorem bS(h:noStar e)(a:Zm)(c:Xw):VC (e::a) c=(false,eval e c)::VC a c:=by
 cases e <;> first | rfl | cases h
theorem iD:∀ {a:Zm} (c:Xw) (pos:Pos),a.all noStar->(backTo pos (VC a c)).any (·.1)=false
 |[],_,_,_=>rfl
 |e::a,c,pos,h=>by
  rw[V4,Á] at h;rw[bS h.1];show(false || (backTo pos _).any _)=false;rw[iD c pos h.2];rfl
def plainT:Þ->Bool
 |.UnaryOp .Not _ _=>false|.BoolOp ..=>false|.IfExp ..=>false|.Compare ..=>false|_=>true
theorem Gh(h:plainT e=true)(env:Xw)(whole:Sem Ä):isTrue e env whole=(do let v <-whole;standAt e.pos;holding [v] (truthy v)):=by
 cases e with
 |UnaryOp op _ _=>cases op <;> first | rfl | cases h
 |BoolOp _ _ _=>cases h
 |IfExp _ _ _ _=>cases h
 |Compare _ _ _ _=>cases h
 |_=>rfl
def tS:Þ->Bool
 |.Slice ..=>false|_=>true
theorem oC(h:tS e=true):DF e:=λo i=>by
 cases e with
 |Slice _ _ _ _=>cases h
 |_=>rfl
def fF:Þ->Bool
 |.Set ..=>false|_=>true
theorem vn(h:fF e=true)(op:CmpOp):behindInMarks op e=false:=by
 cases e with
 |Set _ _ _=>cases h
 |_=>rfl
structure ay(X:Cx)(G:Gs)(E:XK)(x:Ex)(e:Expr):Prop where
 pe:PE X e (tI X.K G E x)
 pt:(∀ t a b p,e≠.IfExp t a b p)->PT X e (tT X.K G E x)
 pw:∀ op vs p,e=.BoolOp op vs p->PW X e (tT X.K G E x)
theorem aK(h:PE X e (tI X.K G E x))(a:plainT e):ay X G E x e:=by
 refine#[h,λ_=>PT.imp (yu h (Gh a X.env)) λd H Q q=>?_,λf g p i=>?_]
 .let(j,k,z,r,m,n,e,o):=q;refine#[j,k,z,r,m,n,e,?_];cases r with
  |er c s=>exact o
  |ok l s =>
   let(b,rfl,o):=o;exact#[_,rfl,λv u ex w y=>#[b,Hd.xH (show Hd X.K (hz j u) _ v from y),o u ex w]]
 .subst i;cases a
def cH:Ex->Bool
 |.nil=>true|.cons _ _=>true|_=>false
def Good(X:Cx)(G:Gs)(E:XK):Ex->Zm->Prop
 |.nil,c=>c=[]|.cons a r,c=>∃ e d,c=e::d/\noStar e=true/\ay X G E a e/\cH r=true/\Good X G E r d|x,c=>∃ e,c=[e]/\ay X G E x e
theorem Good.args:∀ {x:Ex}{d:Zm},cH x->Good X G E x d->PA X d (tA X.K G E x)/\d.all noStar:=by
 intro x
 induction x with
 |nil =>
  intro d _ h;subst h;refine#[PA.imp gJ λf H Q q=>?_,rfl];let(i,j,z,r,k,m,e,n):=q;cases e;exact n [] H Ext.refl m .nil
 |cons a r _ o =>
  intro d _ h;let(e,p,rfl,u,g,w,y):=h;let(A,B):=o w y;refine#[PA.imp (cG g.pe A (bS u p X.env)) λf H Q q=>?_,by rw[V4,u,B];rfl]
  let(i,j,z,C,k,m,e,n):=q;have F:∀ c I,C=.er c I->EPost G i E c I H:=λc I e=>by subst e;exact n
  refine cK k m e F λl I J=>?_;let(s,hs,L):=M.ao J;refine#[s,lU hs,λv H1 N aZ rv=>?_];refine pV (k.mono N) aZ L (λc P q=>(F c P q).mono N) λl2 P e3 vs H2 U eF Y=>?_;cases e3;exact n _ H2 (N.trans U) eF (.cons (rv.mono U) (VX.An Y λ_ _ q=>q.from N))
 |_=>intro d h;cases h
def CM:Zj:=["len","sorted","tuple","list","sum","min","max","abs","all","any","int","bool","str","isinstance","range","zip","enumerate","set"]
def lowG(G:Gs)(k:Nat):Gs:={ G with F:=dH G.F,lv:=k }
structure gR(X:Cx)(G:Gs)(sc:Scope)(c P:Addr)(q:Str)(k:Nat)(fR:Addr)(fdR:FuncData):Prop where
 sco:X.env.scope=sc
 code:X.env.code=↥c
 hd:PySem.W.codeHdIn X.K c P=true
 qual:X.env.qual++"<lambda>"=q
 tb:(P,q)∈TB.tb
 uq:∀ p∈TB.tb,p.1=P->p.2=q
 bm:BMain X.mg X.base
 lv:G.lv=k + 2
 cls:∀ j,j < 12->qU X.K X.mg (G.cls j) j
 m:X.mg "_law_refused"=↑↥fR
 kp:PySem.W.keepIn X.K ↥fR=true
 bd:Binds X.K fdR ["_law_call"] []
 fn:pD X.prog X.w X.K X.mg X.base Au (k + 2) fR fdR ["_law_call"] (Iv X.prog X.w X.K X.mg X.base (k + 1))
 low:∀ f nm ps,G.fns[f]?=↑(nm,ps)->∃ fa fd,X.mg nm=↑↥fa/\PySem.W.keepIn X.K ↥fa=true/\Binds X.K fd ps []/\jY X.prog X.w X.K X.mg X.base (rP X.prog X.w) k fa fd ps (KO X.K (lowG G k) f ps.length)
theorem gR.rm(L:gR X G sc c P q k a d)(r:eG G.lv A):eG (k + 2) A:=by rw[<-L.lv];exact r
def Rc(X:Cx)(G:Gs)(a:ý):Prop:=∃ c P q k d e,gR X G a c P q k d e
structure XI(lm:Bool)(X:Cx)(G:Gs)(E:XK)(N:⇑Str)(sc:Scope):Prop where
 gok:∀ f nm ps,G.fns[f]?=↑(nm,ps)->∃ fa fd,X.mg nm=↑↥fa/\PySem.W.keepIn X.K ↥fa=true/\Binds X.K fd ps []/\jY X.prog X.w X.K X.mg X.base (rP X.prog X.w) G.lv fa fd ps (KO X.K G f ps.length)
 num:∀ p∈G.nums,∃ t,X.mg p.1=↑(.int p.2 t)
 blt:∀ n∈CM,X.mg n=none
 hN:X.N=N
 nd:N.Nodup
 vis:∀ x∈N,Fx X.env.scope x
 glb:∀ x,sc.names.lookup x=↑.globalImplicit->Gl X x
 cel:∀ x,(sc.names.lookup x=↑.cell\/sc.names.lookup x=↑.free)->(X.env.kindOf x=↑.cell\/X.env.kindOf x=↑.free)
 calm:X.calm=true
 room:eG G.lv X.A
 pas:Passes (rP X.prog X.w) X E
 lam:lm=true->Rc X G sc
def glob(a:ý)(x:Str):Bool:=a.names.lookup x == ↑.globalImplicit&&!(x == ("__debug__":Str))&&!(x == ("__name__":Str))
def aG(x:Str):Bool:=!(x == ("__debug__":Str))&&!(x == ("__classdict__":Str))
def Jl:Const->D->Bool
 |~~~i,~~~j=>i == j|.bool a,.bl b=>a == b|.str x,.str y=>x == y|.none,.cq=>true|_,_=>false
def UH:Bf->Str × Bool
 |.len=>("len",false) | .sorted=>("sorted",false) | .tuple=>("tuple",true) | .list=>("list",true) | .min=>("min",false) | .max=>("max",false)|.all=>("all",false) | .any=>("any",false) | .int=>("int",true) | .sset=>("sorted",false) | .oY=>("len",false)
def served:Bf->Bool
 |.len | .tuple | .list | .min | .max | .all | .any | .int | .sorted=>true|_=>false
mutual
noncomputable def eD(N:Zj)(loc:Str->Bool):iU->Þ->Bool
 |.v i=>λe=>match e with
  |.Name x _=>N[i]? == ↑x&&loc x|_=>false
 |.tup a=>λe=>match e with
  |.Tuple c _ _=>w5 N loc a c|_=>false
 |.nil=>λ_=>false|.cons _ _=>λ_=>false
noncomputable def w5(N:Zj)(loc:Str->Bool):iU->Zm->Bool
 |.nil=>λc=>c.isEmpty
 |.cons p r=>λc=>match c with
  |e::c=>noStar e&&eD N loc p e&&w5 N loc r c|[]=>false
 |.v _=>λ_=>false|.tup _=>λ_=>false
end
def gj:Þ->Bool
 |.Tuple ..=>true|_=>false
def dg:Þ->Zj
 |.Name x _=>[x]|.Tuple c _ _=>names c|_=>[]
where names:Zm->Zj
 |[]=>[]|.Name x _::r=>x::names r|.Tuple [.Name a _,.Name b _] _ _::r=>a::b::names r|_::r=>names r
def kg(a c:ý)(N own:Zj)(d:⇑(Str × Nat)):Bool :=
 a.kind == .function&&a.names.all (λy=>y.2 != .cell)&&a.names.all (λy=>y.2 != .local || a.names.lookup y.1 == ↑.local) &&
  a.names.all (λy=>y.2 != .free || (c.names.lookup y.1 == ↑.cell || c.names.lookup y.1 == ↑.free))&&d.all (λp=>N[p.2]? == ↑p.1&&a.names.lookup p.1 == ↑.free) &&
  own.all (λx=>a.names.lookup x == ↑.local)&&decide (own++d.map (·.1)).Nodup
def aF(N:Zj):Zh->⇑(Str × Nat)
 |[]=>[]
 |i::r=>match N[i]? with
  |↑x=>(x,i)::aF N r|none=>aF N r
def opt{c:Type}(o:Option c)(f:c->Bool):Bool:=match o with
 |↑a=>f a|none=>false
theorem ax{c:Type}{o:Option c}{f:c->Bool}(h:opt o f):∃ a,o=↑a/\f a:=by
 cases o with
 |none=>cases h
 |some a=>exact#[a,rfl,h]
def Rf:(e:Zm)->Option {q:Str × Pos // e=[.Name q.1 q.2]}
 |[.Name n p]=>↑#[(n,p),rfl]|_=>none
def Rg:(e:Zm)->Option {q:Const × Nat × Pos // e=[.Constant q.1 q.2.1 q.2.2]}
 |[.Constant c k p]=>↑#[(c,k,p),rfl]|_=>none
def Rh:(e:Zm)->Option {q:Pos // e=[.Dict [] [] q]}
 |[.Dict [] [] p]=>↑#[p,rfl]|_=>none
def Ri:(e:Zm)->Option {q:Zm × Nat × Pos // e=[.Tuple q.1 q.2.1 q.2.2]}
 |[.Tuple l k p]=>↑#[(l,k,p),rfl]|_=>none
def Rj:(e:Zm)->Option {q:Zm × Pos // e=[.List q.1 q.2]}
 |[.List l p]=>↑#[(l,p),rfl]|_=>none
def Rk:(e:Zm)->Option {q:Þ × Operator × Þ × Pos // e=[.BinOp q.1 q.2.1 q.2.2.1 q.2.2.2]}
 |[.BinOp l o r p]=>↑#[(l,o,r,p),rfl]|_=>none
def Rl:(e:Zm)->Option {q:Þ × CmpOp × Þ × Pos // e=[.Compare q.1 [q.2.1] [q.2.2.1] q.2.2.2]}
 |[.Compare l [o] [r] p]=>↑#[(l,o,r,p),rfl]|_=>none
def Rm:(e:Zm)->Option {q:Str × Str × Pos × Pos × Þ × Pos × Pos × ý × Pos // e=[eC q.1 q.2.1 q.2.2.1 q.2.2.2.1 q.2.2.2.2.2.1 q.2.2.2.2.2.2.1 q.2.2.2.2.1 q.2.2.2.2.2.2.2.1 q.2.2.2.2.2.2.2.2]}
 |[.ListComp (.Name y a) [#[.Name x c,d,[],0],#[.Name f g,.Name i j,[],0]] k l]=>if h:f=y/\i=x then ↑#[(x,y,a,c,d,g,j,k,l),by rw[h.1,h.2]] else none|_=>none
def TQ:(e:Zm)->Option {q:Str × Pos × Str × Pos × Þ × Pos × Pos // e=[.Call (.Name q.1 q.2.1) [.Call (.Name q.2.2.1 q.2.2.2.1) [q.2.2.2.2.1] [] q.2.2.2.2.2.1] [] q.2.2.2.2.2.2]}
 |[.Call (.Name n a) [.Call (.Name m p2) [x] [] c] [] d]=>↑#[(n,a,m,p2,x,c,d),rfl]|_=>none
def TR:(e:Zm)->Option {q:Str × Pos × Nat × Pos × Pos × Þ × ý × Pos // e=[.DictComp (.Name q.1 q.2.1) (.Constant (.bool true) q.2.2.1 q.2.2.2.1) [#[.Name q.1 q.2.2.2.2.1,q.2.2.2.2.2.1,[],0]] q.2.2.2.2.2.2.1 q.2.2.2.2.2.2.2]}
 |[.DictComp (.Name n a) (.Constant (.bool true) k p2) [#[.Name m c,d,[],0]] f g]=>if h:m=n then ↑#[(n,a,k,p2,c,d,f,g),by rw[h]] else none|_=>none
def TU(o:Bool):(e:Zm)->Option {q:Þ × Str × Pos × Pos // e=[.Compare q.1 [Iy o] [.Name q.2.1 q.2.2.1] q.2.2.2]}
 |[.Compare l [c] [.Name n p] pos]=>if h:c=Iy o then ↑#[(l,n,p,pos),by rw[h]] else none|_=>none
def Ro:(e:Zm)->Option {q:Þ × Pos // e=[.UnaryOp .USub q.1 q.2]}
 |[.UnaryOp .USub x p]=>↑#[(x,p),rfl]|_=>none
def Rp:(e:Zm)->Option {q:Þ × Pos // e=[.UnaryOp .Not q.1 q.2]}
 |[.UnaryOp .Not x p]=>↑#[(x,p),rfl]|_=>none
def Rq:(e:Zm)->Option {q:Þ × Þ × Zm × Pos // e=[.BoolOp .And (q.1::q.2.1::q.2.2.1) q.2.2.2]}
 |[.BoolOp .And (l::r::v) p]=>↑#[(l,r,v,p),rfl]|_=>none
def Rr:(e:Zm)->Option {q:Þ × Þ × Zm × Pos // e=[.BoolOp .Or (q.1::q.2.1::q.2.2.1) q.2.2.2]}
 |[.BoolOp .Or (l::r::v) p]=>↑#[(l,r,v,p),rfl]|_=>none
def Ru:(e:Zm)->Option {q:Þ × Þ × Þ × Pos // e=[.IfExp q.1 q.2.1 q.2.2.1 q.2.2.2]}
 |[.IfExp t x y p]=>↑#[(t,x,y,p),rfl]|_=>none
def TV:(e:Zm)->Option {q:Þ × CmpOp × CmpOp × Þ × Þ × Pos // e=[.Compare q.1 [q.2.1,q.2.2.1] [q.2.2.2.1,q.2.2.2.2.1] q.2.2.2.2.2]}
 |[.Compare l [o,a] [r,s] p]=>↑#[(l,o,a,r,s,p),rfl]|_=>none
def Rv:(e:Zm)->Option {q:Str × Pos × Þ × Zm × Pos // e=[.Call (.Name q.1 q.2.1) (q.2.2.1::q.2.2.2.1) [] q.2.2.2.2]}
 |[.Call (.Name n a) (x::l) [] p]=>↑#[(n,a,x,l,p),rfl]|_=>none
def TX:(e:Zm)->Option {q:Str × Pos × Str × Pos × Þ × Pos × Pos // e=[.Call (.Name q.1 q.2.1) [.Call (.Name q.2.2.1 q.2.2.2.1) [q.2.2.2.2.1] [] q.2.2.2.2.2.1] [] q.2.2.2.2.2.2]}
 |[.Call (.Name n a) [.Call (.Name m p2) [x] [] c] [] d]=>↑#[(n,a,m,p2,x,c,d),rfl]|_=>none
def TY:Bf->Bool
 |.sset=>true|_=>false
def Rw:(e:Zm)->Option {q:Str × Pos × Þ × Þ × Pos // e=[.Call (.Name q.1 q.2.1) [q.2.2.1,q.2.2.2.1] [] q.2.2.2.2]}
 |[.Call (.Name n a) [x,ty] [] p]=>↑#[(n,a,x,ty,p),rfl]|_=>none
def TZ:(e:Zm)->Option {q:Þ × Þ × Pos // e=[.Subscript q.1 q.2.1 q.2.2]}
 |[.Subscript v x p]=>↑#[(v,x,p),rfl]|_=>none
def T1:(e:Zm)->Option {q:Þ × Zt × Zt × Pos × Pos // e=[.Subscript q.1 (.Slice q.2.1 q.2.2.1 none q.2.2.2.1) q.2.2.2.2]}
 |[.Subscript v (.Slice l h none a) p]=>↑#[(v,l,h,a,p),rfl]|_=>none
def Rx:(e:Zm)->Option {q:Þ × Nat × Pos × Pos × Pos × Pos // e=[.Subscript q.1 (.Slice none none ↑(.UnaryOp .USub (.Constant (~~~1) q.2.1 q.2.2.1) q.2.2.2.1) q.2.2.2.2.1) q.2.2.2.2.2]}
 |[.Subscript v (.Slice none none ↑(.UnaryOp .USub (.Constant (~~~1) k a) c) d) p]=>↑#[(v,k,a,c,d,p),rfl]|_=>none
def OU:(e:Zm)->Option {q:Þ × Þ × Þ × Zm × ý × Pos // e=[.ListComp q.1 [#[q.2.1,q.2.2.1,q.2.2.2.1,0]] q.2.2.2.2.1 q.2.2.2.2.2]}
 |[.ListComp a [#[c,d,f,0]] g p]=>↑#[(a,c,d,f,g,p),rfl]|_=>none
def Gi:(e:Þ)->Option {q:Str × Pos × Þ × Pos // e=.Call (.Name q.1 q.2.1) [q.2.2.1] [] q.2.2.2}
 |.Call (.Name n c) [a] [] p=>↑#[(n,c,a,p),rfl]|_=>none
def Gj:(e:Þ)->Option {q:Str × Pos × Þ × Þ × Pos // e=.Call (.Name q.1 q.2.1) [q.2.2.1,q.2.2.2.1] [] q.2.2.2.2}
 |.Call (.Name n c) [a,b] [] p=>↑#[(n,c,a,b,p),rfl]|_=>none
def UI:(e:Þ)->Option {q:Str × Pos // e=.Name q.1 q.2}
 |.Name n p=>↑#[(n,p),rfl]|_=>none
def Ry:(e:Þ)->Option {q:Str × Pos × Str × Pos × Nat × Pos // e=.Tuple [.Name q.1 q.2.1,.Name q.2.2.1 q.2.2.2.1] q.2.2.2.2.1 q.2.2.2.2.2}
 |.Tuple [.Name a c,.Name b d] k p=>↑#[(a,c,b,d,k,p),rfl]|_=>none
def T2:(e:Zm)->Option {q:Str × Pos × Int × Nat × Pos × Pos // e=[.Subscript (.Name q.1 q.2.1) (.Constant (~~~q.2.2.1) q.2.2.2.1 q.2.2.2.2.1) q.2.2.2.2.2]}
 |[.Subscript (.Name n p) (.Constant (~~~j) c a) r]=>↑#[(n,p,j,c,a,r),rfl]|_=>none
def T3:(e:Zm)->Option {q:Str × Pos × Str × Pos × Zm × Pos × Pos // e=[.Call (.Name q.1 q.2.1) [.Call (.Name q.2.2.1 q.2.2.2.1) q.2.2.2.2.1 [] q.2.2.2.2.2.1] [] q.2.2.2.2.2.2]}
 |[.Call (.Name n p) [.Call (.Name m a) l [] r] [] t]=>↑#[(n,p,m,a,l,r,t),rfl]|_=>none
def U9(a:ý):Ty->Þ->Bool
 |.seq=>λe=>opt (Ry e) λq=>q.1.1 == ("tuple":Str)&&q.1.2.2.1 == ("list":Str)&&glob a "tuple"&&glob a "list"|t=>λe=>opt (UI e) λq=>q.1.1 == XB (I0 t)&&glob a (XB (I0 t))
def OV:D->Bool
 |.dct=>true|_=>false
def LR:Þ->Bool
 |.IfExp ..=>true|_=>false
def nZ(a c:ý)(d:⇑(Str × Nat)):Bool :=
 a.kind == .function&&!a.isCoroutine&&!a.isGenerator&&a.names.all (λy=>y.2 != .cell)&&a.names.all (λy=>y.2 != .free || c.names.lookup y.1 == ↑.cell)&&d.all (λp=>a.names.lookup p.1 == ↑.free)&&decide (d.map (·.1)).Nodup
def mt:Bool->⇑(Str × Zj)->⇑(Str × Int)->Ex->ý->Zj->Zm->Bool
 |h,j,nums,.nil=>λ_ _ l=>l.isEmpty
 |h,j,nums,.cons a r=>λm N l=>match l with
  |e::l=>noStar e&&!cH a&&cH r&&mt h j nums a m N [e]&&mt h j nums r m N l|[]=>false
 |h,j,nums,.var i=>λ_ N l=>opt (Rf l) λq=>N[i]? == ↑q.1.1&&aG q.1.1|h,j,nums,.con d=>λ_ _ l=>(opt (Rg l) λq=>Jl q.1.1 d) || opt (Rh l) λ_=>OV d|h,j,nums,.gint g i=>λm _ l=>opt (Rf l) λq=>q.1.1 == g&&glob m q.1.1&&nums.contains (g,i)|h,j,nums,.tup as=>λm N l=>opt (Ri l) λq=>cH as&&mt h j nums as m N q.1.1|h,j,nums,.lst as=>λm N l=>opt (Rj l) λq=>cH as&&mt h j nums as m N q.1.1|h,j,nums,.bin o a b=>λm N l=>opt (Rk l) λq=>q.1.2.1 == TM o&&!cH a&&!cH b&&mt h j nums a m N [q.1.1]&&mt h j nums b m N [q.1.2.2.1]|h,j,nums,.cmp o a b=>λm N l=>opt (Rl l) λq=>q.1.2.1 == LN o&&fF q.1.2.2.1&&!cH a&&!cH b&&mt h j nums a m N [q.1.1]&&mt h j nums b m N [q.1.2.2.1]|h,j,nums,.neg a=>λm N l=>opt (Ro l) λq=>!cH a&&mt h j nums a m N [q.1.1]|h,j,nums,.not a=>λm N l=>opt (Rp l) λq=>!cH a&&!LR q.1.1&&mt h j nums a m N [q.1.1]|h,j,nums,.and a b=>λm N l=>opt (Rq l) λq=>!cH a&&!cH b&&!LR q.1.1&&mt h j nums a m N [q.1.1]&&(if q.1.2.2.1.isEmpty then !LR q.1.2.1&&mt h j nums b m N [q.1.2.1] else mt h j nums b m N [.BoolOp .And (q.1.2.1::q.1.2.2.1) q.1.2.2.2])|h,j,nums,.or a b=>λm N l=>opt (Rr l) λq=>!cH a&&!cH b&&!LR q.1.1&&mt h j nums a m N [q.1.1]&&(if q.1.2.2.1.isEmpty then !LR q.1.2.1&&mt h j nums b m N [q.1.2.1] else mt h j nums b m N [.BoolOp .Or (q.1.2.1::q.1.2.2.1) q.1.2.2.2])|h,j,nums,.orT a b=>λm N l=>opt (Rr l) λq=>!cH a&&!cH b&&q.1.2.2.1.isEmpty&&mt h j nums a m N [q.1.1]&&mt h j nums b m N [q.1.2.1]|h,j,nums,.ite c a b=>λm N l=>opt (Ru l) λq=>!cH c&&!cH a&&!cH b&&!LR q.1.1&&mt h j nums c m N [q.1.1]&&mt h j nums a m N [q.1.2.1]&&mt h j nums b m N [q.1.2.2.1]|h,j,nums,.ch o n a b c=>λm N l=>opt (TV l) λq=>q.1.2.1 == LN o&&q.1.2.2.1 == LN n&&fF q.1.2.2.2.2.1&&!cH a&&!cH b&&!cH c&&mt h j nums a m N [q.1.1]&&mt h j nums b m N [q.1.2.2.2.1]&&mt h j nums c m N [q.1.2.2.2.2.1]|h,j,nums,.bf f as=>λm N l=>(opt (Rv l) λq=>served f&&q.1.1 == (UH f).1&&glob m q.1.1&&cH as&&mt h j nums as m N (q.1.2.2.1::q.1.2.2.2.1)) || (TY f&&opt (TX l) λq=>q.1.1 == ("sorted":Str)&&q.1.2.2.1 == ("set":Str)&&glob m "sorted"&&glob m "set"&&cH as&&mt h j nums as m N [q.1.2.2.2.2.1])|h,j,nums,.isi t a=>λm N l=>opt (Rw l) λq=>q.1.1 == ("isinstance":Str)&&glob m q.1.1&&noStar q.1.2.2.1&&!cH a&&mt h j nums a m N [q.1.2.2.1]&&U9 m t q.1.2.2.2.1|h,j,nums,.idx a i=>λm N l=>opt (TZ l) λq=>tS q.1.2.1&&!cH a&&!cH i&&mt h j nums a m N [q.1.1]&&mt h j nums i m N [q.1.2.1]|h,j,nums,.sl a s u=>λm N l=>opt (T1 l) λq=>!cH a&&cH s&&cH u&&mt h j nums a m N [q.1.1]&&mt h j nums s m N q.1.2.1.toList&&mt h j nums u m N q.1.2.2.1.toList|h,j,nums,.rev a=>λm N l=>opt (Rx l) λq=>!cH a&&mt h j nums a m N [q.1.1]|h,j,nums,.call f as=>λm N l=>opt (Rv l) λq=>(opt j[f]? λp=>p.1 == q.1.1&&p.2.length == q.1.2.2.2.1.length + 1)&&glob m q.1.1&&cH as&&mt h j nums as m N (q.1.2.2.1::q.1.2.2.2.1)
 |h,j,nums,.comp own v p it w y z=>λm N l=>opt (OU l) λq =>
   (dg q.1.2.1).length == own&&(aF N v).length == v.length&&kg q.1.2.2.2.2.1 m N (dg q.1.2.1) (aF N v)&&eD (dg q.1.2.1++(aF N v).map (·.1)) (λx=>(dg q.1.2.1).contains x) p q.1.2.1&&cH w&&!cH z&&cH y&&q.1.2.2.2.1.length<=1&&noStar q.1.1&&fF q.1.2.2.1 &&
    q.1.2.2.2.1.all (λc=>!LR c) &&
    (match it with
    |.seq=>mt h j nums w m N [q.1.2.2.1]|.rng1=>opt (Gi q.1.2.2.1) λr=>r.1.1 == ("range":Str)&&glob m r.1.1&&mt h j nums w m N [r.1.2.2.1]|.rng2=>opt (Gj q.1.2.2.1) λr=>r.1.1 == ("range":Str)&&glob m r.1.1&&mt h j nums w m N [r.1.2.2.1,r.1.2.2.2.1]|.zip=>opt (Gj q.1.2.2.1) λr=>r.1.1 == ("zip":Str)&&glob m r.1.1&&gj q.1.2.1&&mt h j nums w m N [r.1.2.2.1,r.1.2.2.2.1]|.enum=>opt (Gi q.1.2.2.1) λr=>r.1.1 == ("enumerate":Str)&&glob m r.1.1&&gj q.1.2.1&&mt h j nums w m N [r.1.2.2.1]
    )&&mt false j nums y q.1.2.2.2.2.1 (dg q.1.2.1++(aF N v).map (·.1)) q.1.2.2.2.1&&mt false j nums z q.1.2.2.2.2.1 (dg q.1.2.1++(aF N v).map (·.1)) [q.1.1]
 |h,j,nums,.lrng b as=>λm N l=>opt (T3 l) λq=>q.1.1 == M1 b&&q.1.2.2.1 == ("range":Str)&&glob m (M1 b)&&glob m "range"&&cH as&&decide (1<=q.1.2.2.2.2.1.length/\q.1.2.2.2.2.1.length<=2)&&mt h j nums as m N q.1.2.2.2.2.1|h,j,nums,.zget i k=>λ_ N l=>opt (T2 l) λq=>N[i]? == ↑q.1.1&&aG q.1.1&&q.1.2.2.1 == (k:Int)|h,j,nums,.flat a=>λm N l=>opt (Rm l) λq=>kg q.1.2.2.2.2.2.2.2.1 m N [q.1.1,q.1.2.1] []&&aG q.1.1&&aG q.1.2.1&&fF q.1.2.2.2.2.1&&!cH a&&mt h j nums a m N [q.1.2.2.2.2.1]|h,j,nums,.oY as=>λm N l=>opt (TQ l) λq=>q.1.1 == ("len":Str)&&q.1.2.2.1 == ("set":Str)&&glob m "len"&&glob m "set"&&cH as&&mt h j nums as m N [q.1.2.2.2.2.1]|h,j,nums,.dkeys a=>λm N l=>opt (TR l) λq=>kg q.1.2.2.2.2.2.2.1 m N [q.1.1] []&&aG q.1.1&&fF q.1.2.2.2.2.2.1&&!cH a&&mt h j nums a m N [q.1.2.2.2.2.2.1]|h,j,nums,.memk o a i=>λm N l=>opt (TU o l) λq=>N[i]? == ↑q.1.2.1&&aG q.1.2.1&&!cH a&&mt h j nums a m N [q.1.1]
theorem bM{a:ý}{x:Str}(h:glob a x):a.names.lookup x=↑.globalImplicit/\(x == ("__debug__":Str))=false/\x≠"__name__":=by
 delta glob at h
 simp_all
section
variable {lm:Bool}{X:Cx}{G:Gs}{E:XK}{N:Zj}{sc:ý}
theorem OW{K:Å}{a:Zk}{c H:Hp}{s:S}{v:V}(h:Al K a H s v):nV K a c H (qJ s) v:=by cases s <;> exact h
theorem CN(h:(!LR e)):∀ t a b p,e≠.IfExp t a b p:=by
 intro t a b p c;subst c;cases h
theorem aA(a:cH x=false)(h:Good X G E x [e]):ay X G E x e:=by
 cases x with
 |nil=>cases a
 |cons _ _=>cases a
 |_ =>
  let(c,d,f):=(show ∃ c,[e]=[c]/\ay X G E _ c from h);cases d;exact f
theorem bh(a:cH x=false)(h:ay X G E x e):Good X G E x [e]:=by
 cases x with
 |nil=>cases a
 |cons _ _=>cases a
 |_=>exact#[e,rfl,h]
theorem b9(a:vm X.K G d E H Q r):∀ c f,r=.er c f->EPost G d E c f H:=λc f e=>by subst e;exact a
theorem rf(a:Eg G d E H Q r):∀ c f,r=.er c f->EPost G d E c f H:=λc f e=>by subst e;exact a
theorem Rz(x:XI lm X G E N sc){pos:Pos}(a:N[i]?=↑n)(c:aG n):ay X G E (.var i) (.Name n pos):=by
 delta aG at c
 simp only[Á,ò] at c;refine aK (PE.imp (eE  (by rw[x.hN];exact a) (x.vis n (ë a)) c.1 c.2) λd H Q q=>?_) rfl
 let(f,g,z,r,h,j,e,k):=q;have l:(match g[i]? with | ↑↑s=>Ze _ | _=>Zg) z=↑r:=e
 cases hs:g[i]? with
 |none=>rw[hs] at l;cases l
 |some o =>
  cases o with
  |none=>rw[hs] at l;cases l
  |some s =>
   rw[hs] at l;cases l;let(v,m,p):=h i s hs;let(u,l,k):=k;cases l;exact#[v,m,k v H Ext.refl j (OW p)]
theorem RA{pos:Pos}(h:Jl c d):ay X G E (.con d) (.Constant c j pos):=by
 refine aK ?_ rfl;have a:∀ {v:V},(∀ H,Hd X.K H d v)->∀ f H Q,tI X.K G E (.con d) f H Q->tC v f H Q:=λ{v} hd f H Q q=>by
  let(g,k,z,r,l,m,e,n):=q;cases e;let(o,p,n):=n;cases p;exact n v H Ext.refl m (vg (hd _))
 cases c with
 |int i=>cases d <;> first | (cases eq_of_beq (show (i == _)=true from h);exact PE.imp uy (a λH=>Hd.int)) | (cases h)
 |bool b=>cases d <;> first | (cases eq_of_beq (show (b == _)=true from h);exact PE.imp Qn (a λH=>Hd.bl)) | (cases h)
 |str y=>cases d <;> first | (cases eq_of_beq (show (y == _)=true from h);exact PE.imp G7 (a λH=>Hd.str)) | (cases h)
 |none=>cases d <;> first | exact PE.imp Cc (a λH=>Hd.cq) | (cases h)
 |_=>cases h
theorem RB{pos:Pos}:ay X G E (.con .dct) (.Dict [] [] pos):=by
 refine aK (PE.imp Lg λa H Q q=>?_) rfl;let(c,d,z,r,f,g,e,h):=q;cases e;let(i,j,h):=h;cases j;intro p k;refine h _ _ (Ext.of (ag.new _ k)) (g.same (ag.new _ k)) (vg ?_);exact#[p,[],rfl,bx aB (g.vf k)]
theorem OX(x:XI lm X G E N sc){pos:Pos}(a:glob sc g)(c:(g,i)∈G.nums):ay X G E (.gint g i) (.Name g pos):=by
 let(d,f,_):=bM a;let(t,h):=x.num _ c;refine aK (PE.imp (dS (v:= ~~~i) (x.glb g d) h #[t,rfl] f) λj H Q q=>?_) rfl;let(k,l,z,r,m,n,e,o):=q;cases e;let(p,s,o):=o;cases s;exact o _ H Ext.refl n fD
theorem kR{K:Å}{a:Zk}{c H:Hp}{l:⇑S}{d:⇑V}{ds:⇑D}(h:VX (nV K a c H) l d)(e:kN l=↑ds):bg K (hz a H) ds d:=wF.ds (VX.An h λ_ _ q=>q.pl) e
theorem RC{pos:Pos}(a:cH as)(g:Good X G E as l):ay X G E (.tup as) (.Tuple l k pos):=by
 refine aK (PE.imp (Hs (g.args a).1) λc H Q q=>?_) rfl;let(d,f,z,r,i,j,e,m):=q;refine pV i j e (b9 m) λl n o s u v aZ w=>?_;let(ds,x,y):=M.ao o;split at y
 .rename_i A;cases y;let(B,C,m):=m;cases C;have h:=kR w x;exact#[d9 (by rw[h.length];exact A),λp F=>m _ _ (v.trans (Ext.of (ag.new _ F))) (aZ.same (ag.new _ F)) (vg (Hd.tup ((aZ.same (ag.new _ F)).A2 (dU.of aB)) (h.same (gx (ag.new _ F)))))]
 .cases y
theorem RD{pos:Pos}(a:cH as)(g:Good X G E as l):ay X G E (.lst as) (.List l pos):=by
 refine aK (PE.imp (Ck (g.args a).1) λc H Q q=>?_) rfl;let(d,f,z,r,i,j,e,k):=q;refine pV i j e (b9 k) λl m n o s u aZ v=>?_;let(ds,w,x):=M.ao n;split at x
 .rename_i y;cases x;let(A,B,k):=k;cases B;have h:=kR v w;exact#[d9 (by rw[h.length];exact y),λp C=>k _ _ (u.trans (Ext.of (ag.new _ C))) (aZ.same (ag.new _ C)) ((dB aZ h C).from u)]
 .cases x
theorem vo{d:Type}{a b:Ex}{k:D->D->M d}{r:R d}{Q:V->V->Hp->Prop}(e:fE X.K f H g σ)(i:aO f z H)
  (h:Zd (ev G.F a g) (λx=>Zd (Zf (pl x)) λx=>Zd (ev G.F b g) λy=>Zd (Zf (pl y)) λy=>k x y) z=↑r) (j:∀ c n,r=.er c n->EPost G f E c n H)
  (o:∀ p s u v w A,k p s u=↑r->Ext f H A->aO f u A->Hd X.K (hz f A) p v->Hd X.K (hz f A) s w->Q v w A) :
  tI X.K G E a σ H λv B=>tI X.K G E b σ B λw A=>Q v w A:=by
 refine cK e i h j λl n C=>?_;let(p,I,J):=M.ao C;let(s1,rfl,L):=bZ I;refine#[s1,rfl,λv B P aZ rv=>?_];refine cK (e.mono P) aZ J (λc u q=>(j c u q).mono P) λm u e3=>?_;let(s,p2,e4):=M.ao e3;let(s2,rfl,q2):=bZ p2;exact#[s2,rfl,λw A U eF Y=>o p s u v w A e4 (P.trans U) eF ((rv.pl.mono U).d_ L) (Y.pl.d_ q2)]
theorem bQ{Q:VK}(a:vm X.K G c E H Q (.ok [s] d))(x:Ext c H e)(f:aO c d e):∀ v g,ag e g->nV X.K c e g s v->Q v g:=λv g h i=>by
 let(j,k,a):=a;cases k;exact a v g (x.trans (Ext.of h)) (f.same h) (i.from x)
theorem RE{a b:Ex}{pos:Pos}(c:ay X G E a l)(d:ay X G E b r):ay X G E (.bin o a b) (.BinOp l (TM o) r pos):=by
 refine aK (PE.imp (Dy (U8 o) c.pe d.pe) λf H Q q=>?_) rfl;let(g,h,z,i,j,k,e,m):=q;refine vo j k e (b9 m) λn p u v w x y A eF B C=>?_;let(s,hs,F):=M.ao y;cases F;exact#[g,u,n,p,s,eF,B,C,hs,bQ m A eF]
theorem y8(a:Eg G d E H Q r):vm X.K G d E H (λx e=>∃ k,x=.bl k/\Q k e) r:=by
 cases r with
 |er c f=>exact a
 |ok l f =>
  let(b,rfl,a):=a;exact#[_,rfl,λv e ex g h=>#[b,Hd.xH (show Hd X.K (hz d e) _ v from h),a e ex g]]
theorem RF(x:XI lm X G E N sc){a b:Ex}{pos:Pos}(hs:fF r)(d:ay X G E a l)(f:ay X G E b r):ay X G E (.cmp o a b) (.Compare l [LN o] [r] pos):=by
 have key:∀ g H Q,tI X.K G E (.cmp o a b) g H Q->MQ (tM X.K λa b=>(fB o a b).map _) _ _ g H Q:=λg H Q q=>by
  let(i,j,z,k,m,n,e,s):=q;refine vo m n e (b9 s) λu y A v w B C F eF I J=>?_;let(c,L,P):=M.ao C;cases P;exact#[i,A,u,y,_,eF,I,J,by rw[L];rfl,bQ s F eF]
 refine#[PE.imp (yw (A3 x.room.units o) d.pe f.pe (vn hs _)) key,λ_=>PT.imp (oV (A3 x.room.units o) d.pe f.pe (vn hs _)) λg H Q q=>?_,λU Y p h=>by cases h]
 let(i,j,z,k,m,n,e,s):=q;exact key g H _ #[i,j,z,k,m,n,e,y8 s]
theorem RG{pos:Pos}(c:ay X G E a l):ay X G E (.neg a) (.UnaryOp .USub l pos):=by
 refine aK (PE.imp (MS Hm c.pe) λf H Q q=>?_) rfl;let(g,h,z,k,n,o,e,p):=q;refine cK n o e (b9 p) λm r s=>?_;let(i,u,w):=M.ao s;let(d,p2,x):=Õ.mp u;let(s1,rfl,y):=bZ p2;cases w;refine#[s1,rfl,λv A B aZ C=>?_];have F:=C.pl.d_ y;cases d with
 |int j =>
  cases x;exact#[i,F.cS,bQ p B aZ _ _ (ag.refl A) fD]
 |_=>cases x
theorem RH{a:Ex}{l:Þ}{pos:Pos}(f:ay X G E a l)(g:∀ t x y p,l≠.IfExp t x y p):ay X G E (.not a) (.UnaryOp .Not l pos):=by
 refine#[PE.imp (G9 f.pe) λi H Q q=>?_,λ_=>PT.imp (Cd (f.pt g)) λi H Q q=>?_,λj k p h=>by cases h]
 .let(n,o,z,r,s,u,e,w):=q;refine cK s u e (b9 w) λm A B=>?_;let(b,C,F):=M.ao B;let(d,p2,I):=Õ.mp C;let(s1,rfl,J):=bZ p2;cases F;refine#[s1,rfl,λv K L aZ P=>?_];have U:=P.pl.d_ J;cases d with
  |bl c =>
   cases I;exact#[b,U.xH,bQ w L aZ _ _ (ag.refl K) cY]
  |_=>cases I
 .let(n,o,z,r,s,u,e,w):=q;refine pW s u e (rf w) λb A B K L aZ=>?_;cases B;let(b',Y,w):=w;cases Y;exact w K L aZ
end
end Q
namespace Q
open PySem L2 PySem.Spec PyProof.Rows
variable [TB:Tb]
section
variable {lm:Bool}{X:Cx}{G:Gs}{E:XK}{N:Zj}{sc:ý}
theorem tU(e:fE X.K f H g σ)(i:aO f z H)
  (h:Zd (ev G.F a g) (λx=>Zd (Zf ((pl x).bind lJ)) k) z=↑r) (j:∀ c l,r=.er c l->EPost G f E c l H)
  (n:∀ b l,k b l=↑r->∀ o,Ext f H o->aO f l o->p (.bl b) o):tI X.K G E a σ H p:=by
 refine cK e i h j λm l q=>?_;let(b,s,u):=M.ao q;let(d,p2,w):=Õ.mp s;let(s1,rfl,y):=bZ p2;refine#[s1,rfl,λv o A aZ B=>?_];have C:=B.pl.d_ y;cases d with
 |bl c =>
  cases w;rw[C.xH];exact n b l u o A aZ
 |_=>cases w
theorem RI(d:ay X G E a l)(f:∀ t x y p,l≠.IfExp t x y p)
  (g:ay X G E b (.BoolOp .And (r::i) p)):ay X G E (.and a b) (.BoolOp .And (l::r::i) p):=by
 have j:PW X (.BoolOp .And (l::r::i) p) (tT X.K G E (.and a b)):=by
  refine PW.imp (G8 (d.pt f) (g.pw _ _ _ rfl)) λk H Q q=>?_;let(m,n,z,o,s,u,e,v):=q;refine pW s u e (rf v) λc w A B C aZ=>?_;cases c with
  |true =>
   refine pW (s.mono C) aZ A (λc F q=>((rf v) c F q).mono C) λc F I J L eF=>?_;cases I;let(P,U,v):=v;cases U;exact v J (C.trans L) eF
  |false =>
   rw[Zv ï];cases A;let(P,U,v):=v;cases U;exact v B C aZ
 refine#[PE.imp (NL d.pe g.pe) λk H Q q=>?_,λ_=>j.pt,λY i p h=>j];let(m,n,z,o,s,u,e,v):=q;refine tU s u e (b9 v) λc w A B C aZ=>#[c,rfl,?_];cases c with
 |true =>
  refine tU (s.mono C) aZ A (λc F q=>((b9 v) c F q).mono C) λc F I J L eF=>?_;cases I;exact bQ v (C.trans L) eF _ _ (ag.refl J) cY
 |false =>
  cases A;exact bQ v C aZ _ _ (ag.refl B) cY
theorem T4(d:ay X G E a l)(f:∀ t x y p,l≠.IfExp t x y p)
  (g:ay X G E b (.BoolOp .Or (r::i) p)):ay X G E (.or a b) (.BoolOp .Or (l::r::i) p):=by
 have j:PW X (.BoolOp .Or (l::r::i) p) (tT X.K G E (.or a b)):=by
  refine PW.imp (Qo (d.pt f) (g.pw _ _ _ rfl)) λk H Q q=>?_;let(m,n,z,o,s,u,e,v):=q;refine pW s u e (rf v) λc w A B C aZ=>?_;cases c with
  |false =>
   refine pW (s.mono C) aZ A (λc F q=>((rf v) c F q).mono C) λc F I J L eF=>?_;cases I;let(P,U,v):=v;cases U;exact v J (C.trans L) eF
  |true =>
   rw[Zu rfl];cases A;let(P,U,v):=v;cases U;exact v B C aZ
 refine#[PE.imp (Qr d.pe g.pe) λk H Q q=>?_,λ_=>j.pt,λY i p h=>j];let(m,n,z,o,s,u,e,v):=q;refine tU s u e (b9 v) λc w A B C aZ=>#[c,rfl,?_];cases c with
 |false =>
  refine tU (s.mono C) aZ A (λc F q=>((b9 v) c F q).mono C) λc F I J L eF=>?_;cases I;exact bQ v (C.trans L) eF _ _ (ag.refl J) cY
 |true =>
  cases A;exact bQ v C aZ _ _ (ag.refl B) cY
theorem M6(gb:ay X G E b r)(hr:∀ t x y p,r≠.IfExp t x y p):ay X G E b (.BoolOp op [r] p):=by
 have pw:PW X (.BoolOp op [r] p) (tT X.K G E b):=by
  cases op with
  |And=>exact Dt (gb.pt hr)|Or=>exact NJ (gb.pt hr)
 exact#[NK gb.pe,λ_=>pw.pt,λ_ _ _ _=>pw]
theorem vm.M7(a:vm X.K G d E H Q e)(f:Ext d H H1):vm X.K G d E H1 Q e:=by
 cases e with
 |er c g=>exact EPost.mono a f
 |ok l h =>
  let(s,i,a):=a;exact#[s,i,λv j k m n=>a v j (f.trans k) m (n.from f)]
set_option tactic.hygienic true in
theorem xK{c:Type}{m:M c}{z:Z}{r:R c}(h:M.calm m z=↑r):m z=↑r/\∃ a d,r=.ok a d:=by
 delta M.calm at h
 split at h
 .rename_i a d e;cases h;exact#[e,a,d,rfl]
 .cases h
theorem OY{a b:Þ}{c d:TE}{pos:Pos}(e:PE X a c)(f:PE X b d):PE X (.BoolOp .Or [a,b] pos) (λg H Q=>c g H λx i=>∃ t j,x=↥t/\dU X.K i t j/\if j.isEmpty=true then d g i Q else Q x i):=by
 intro k s g H Q I h;refine BoolOp_or (cF (e k s g H _ I h) λv s1 #[x,i,l,m,n]=>?_);let(t,j,rfl,o,n):=n;let(p,q,u,w):=l.tuple o;have z :=q.length;subst m;apply truthy_tuple u (by rw[á];have:=VD;omega)
 cases j with
 |nil =>
  cases p with
  |nil=>exact BoolOp_one (f k _ g i Q (l.tok _) n)|cons _ _=>cases z
 |cons y r =>
  cases p with
  |nil=>cases z
  |cons _ _=>exact#[↥t,i,l.tok _,rfl,n]
theorem Jm(h:(pl y).bind wY=↑l):∃ s,y=[s]/\Lv s=↑(.tup l):=by
 let(d,p2,a):=Õ.mp h;let(s1,rfl,c):=bZ p2;cases d with
 |tup l=>cases a;exact#[s1,rfl,c]
 |_=>cases a
theorem RJ(ga:ay X G E a l)(gb:ay X G E b r):ay X G E (.orT a b) (.BoolOp .Or [l,r] p):=by
 have d:∀ {f:Zk}{g:Env}{z:Z}{h:R _}{H:Hp}{Q:Bool->Hp->Prop},ev G.F (.orT a b) g z=↑h->Eg G f E H Q h->False:=λe i=>by
  let(e,u,j,rfl):=xK e;let(c,rfl,_):=i;rcases M.bind_some e with ⟨m,k,_,n⟩ | ⟨c,k,_,n⟩
  .let(ds,_,o):=M.ao n;split at o
   .rcases M.bind_some o with ⟨m,k,_,n⟩ | ⟨c,k,_,n⟩
    .let(ds,_,o):=M.ao n;cases o
    .cases n
   .cases o
  .cases n
 refine#[PE.imp (OY ga.pe gb.pe) λx H Q q=>?_,λ_ aa s x H Q I #[_,_,_,_,_,_,e,i]=>(d e i).elim,λ_ _ _ _ wh aa s x H Q I #[_,_,_,_,_,_,e,i]=>(d e i).elim];let(f,g,z,h,A,st,e,i):=q;let(e,u,j,rfl):=xK e;refine cK A st e (b9 i) λm j B=>?_;let(ds,C,n):=M.ao B;let(s1,rfl,J):=Jm C;refine#[s1,rfl,λv K L aZ P=>?_];have U:=P.pl.d_ J;let(t,xs,rfl,h1,Y):=U.eH;refine#[t,xs,rfl,(ak f K).jB h1,?_];cases ds with
 |nil =>
  cases Y.cC;have i:=i.M7 L;refine cK (A.mono L) aZ n (b9 i) λm j B=>?_;let(ds,C,n):=M.ao B;let(s1,rfl,J):=Jm C;cases n;exact#[s1,rfl,λv H2 x2 eF P=>bQ i x2 eF _ _ (ag.refl H2) (P.pl.d_ J)]
 |cons y r =>
  let(u,w,rfl,_):=Y.bj;cases n;exact bQ i L aZ _ _ (ag.refl K) U
theorem RK(f:ay X G E c t)(g:∀ a b d p,t≠.IfExp a b d p)(i:ay X G E a x)(j:ay X G E b y):ay X G E (.ite c a b) (.IfExp t x y p):=by
 refine#[PE.imp (Hc (f.pt g) i.pe j.pe) λl H Q q=>?_,λh=>absurd rfl (h t x y p),λm n p h=>by cases h]
 let(o,r,z,s,u,v,e,w):=q;refine pW u v e (b9 w) λk A B C F aZ=>?_;have I:=w.M7 F;cases k with
 |true =>
  exact#[o,r,A,s,u.mono F,aZ,B,I]
 |false =>
  exact#[o,r,A,s,u.mono F,aZ,B,I]
theorem T5(x:XI lm X G E N sc){a b c:Ex}{pos:Pos}(hs:fF s)(f:ay X G E a l)(g:ay X G E b r)(i:ay X G E c s):ay X G E (.ch o j a b c) (.Compare l [LN o,LN j] [r,s] pos):=by
 have n:lastMarks [LN o,LN j] [r,s]=false:=vn hs _;have key:∀ u H Q,tI X.K G E (.ch o j a b c) u H Q->Cj (tM X.K λa b=>(fB o a b).map _) (tM X.K λa b=>(fB j a b).map _) _ _ _ u H Q:=λu H Q q=>by
  let(y,A,z,B,C,F,e,I):=q;refine vo C F e (b9 I) λdx dy J v w H2 e2 x2 eF h1 h2=>?_;let(k,hk,e3):=M.ao e2;refine#[y,J,dx,dy,.d (.bl k),eF,h1,h2,by rw[hk];rfl,λv3 H3 L rv=>#[k,Hd.xH (show Hd X.K (hz y H3) _ v3 from rv),?_]]
  have P:=x2.trans (Ext.of L);have B9:=eF.same L;cases k with
  |true =>
   refine cK (C.mono P) B9 e3 (λc J q=>((b9 I) c J q).mono P) λm z4 e4=>?_;let(dw,p1,e5):=M.ao e4;let(k',U,e6):=M.ao e5;let(s1,rfl,q1):=bZ p1;cases e6;refine#[s1,rfl,λv4 H4 x4 G4 Y=>?_];exact#[y,z4,dy,dw,_,G4,(h2.same (ag.trans (gx L) x4)),Y.pl.d_ q1,by rw[U];rfl,bQ I (P.trans x4) G4]
  |false =>
   cases e3;exact bQ I P B9 _ _ (ag.refl H3) cY
 refine#[PE.imp (Hq (A3 x.room.units o) (A3 x.room.units j) f.pe g.pe i.pe n) key,λ_=>PT.imp (Hr (A3 x.room.units o) (A3 x.room.units j) f.pe g.pe i.pe n) λu H Q q=>?_,λop vs p h=>by cases h]
 let(y,A,z,B,C,F,e,I):=q;exact key u H _ #[y,A,z,B,C,F,e,y8 I]
theorem Jn:∀ a H Q,tI X.K G E (.bf f as) a H Q->Tf (D8 X.K (kO f)) (tA X.K G E as) a H Q:=λa H Q q=>by
 let(c,d,z,g,h,i,e,j):=q;refine pV h i e (b9 j) λl k m n o p aZ r=>?_;let(ds,u,v):=M.ao m;let(s,hs,w):=M.ao v;cases w;exact#[c,k,ds,s,aZ,kR r u,hs,bQ j p aZ]
theorem xM(x:XI lm X G E N sc){f:Bf}{as:Ex}{n:Str}{a:String}{e:Þ}{l:Zm}{p pos:Pos}(c:cA X (.builtin a) (D8 X.K (kO f)))(d:n∈CM)(h:Vk n=↑(.builtin a))(i:glob sc n)(j:cH as)(g:Good X G E as (e::l)):ay X G E (.bf f as) (.Call (.Name n p) (e::l) [] pos):=by
 let(k,m,o):=bM i;let(q,hs):=g.args j;rw[V4,Á] at hs;exact aK (PE.imp (jy c (x.glb n k) (x.blt n d) h q o m (bS hs.1 l X.env) (iD X.env pos hs.2)) Jn) rfl
theorem Jo(x:XI lm X G E N sc){T:String}{p pos:Pos}(a:cA X (.type T) (D8 X.K (kO f)))(c:n∈CM)(d:Vk n=↑(.type T))(h:glob sc n)(i:cH as)(g:Good X G E as (e::l)):ay X G E (.bf f as) (.Call (.Name n p) (e::l) [] pos):=by
 let(j,k,m):=bM h;let(o,hs):=g.args i;rw[V4,Á] at hs;exact aK (PE.imp (qN a (x.glb n j) (x.blt n c) d o m k (bS hs.1 l X.env) (iD X.env pos hs.2)) Jn) rfl
theorem Jp:Vk "len"=↑(.builtin "len"):=by decide +kernel
theorem xN:Vk "sorted"=↑(.builtin "sorted"):=by decide +kernel
theorem OZ:Vk "all"=↑(.builtin "all"):=by decide +kernel
theorem O0:Vk "any"=↑(.builtin "any"):=by decide +kernel
theorem O1:Vk "min"=↑(.builtin "min"):=by decide +kernel
theorem O2:Vk "max"=↑(.builtin "max"):=by decide +kernel
theorem n5:Vk "isinstance"=↑(.builtin "isinstance"):=by decide +kernel
theorem O3:Vk "int"=↑(.type "int"):=by decide +kernel
theorem vt:Vk "tuple"=↑(.type "tuple"):=by decide +kernel
theorem y9:Vk "list"=↑(.type "list"):=by decide +kernel
theorem T6(x:XI lm X G E N sc){p pos:Pos}(a:served f)(c:n=(UH f).1)(d:glob sc n)(h:cH as)(g:Good X G E as (e::l)):ay X G E (.bf f as) (.Call (.Name n p) (e::l) [] pos):=by
 subst c;cases f with
 |len=>exact xM x OL (-0) Jp d h g|tuple=>exact Jo x IY (-0) vt d h g|list=>exact Jo x LO (-0) y9 d h g|min=>exact xM x (OO x.calm) (-0) O1 d h g|max=>exact xM x (OP x.calm) (-0) O2 d h g|all=>exact xM x (OM x.calm) (-0) OZ d h g|any=>exact xM x (ON x.calm) (-0) O0 d h g|int=>exact Jo x OQ (-0) O3 d h g|sorted=>exact xM x (Ge x.room.units) (-0) xN d h g|_=>cases a
theorem RL(t:Ty)(h:t≠.seq):XB (I0 t)∈CM/\Vk (XB (I0 t))=↑(.type (I0 t))/\I0 t∈["int","bool","tuple","list","str"]:=by
 cases t with
 |seq=>exact absurd rfl h|_=>decide +kernel
theorem O4(x:XI lm X G E N sc){t:Ty}{a:Ex}{n:Str}{e:Þ}{p pos p2:Pos}(hs:t≠.seq)
  (c:glob sc (XB (I0 t))) (f:n="isinstance") (g:glob sc n) (h:noStar e) (i:ay X G E a e):ay X G E (.isi t a) (.Call (.Name n p) [e,.Name (XB (I0 t)) p2] [] pos):=by
 let(j,k,l):=RL t hs;subst f;let(o,r,s):=bM g;let(u,w,y):=bM c;refine aK (PE.imp (jy Ie (x.glb _ o) (x.blt _ (-0)) n5 (cG i.pe (cG (s9 (v:=.ty _) (x.glb _ u) (x.blt _ j) k rfl y w) gJ) (bS h _ _)) s r (bS h _ _) rfl) λσ H Q q=>?_) rfl
 let(A,ρ,z,rr,B,C,e,F):=q;refine cK B C e (b9 F) λm z1 I=>?_;let(d,J,K):=M.ao I;let(s1,rfl,L):=bZ J;cases K;refine#[s1,rfl,λv P U aZ Y=>#[d,v,_,rfl,((Y.pl.d_ L).same (ak A P)).has,l,?_]];rw[LP t d hs];exact bQ F U aZ _ _ (ag.refl P) cY
theorem O5(x:XI lm X G E N sc){a:Ex}{n:Str}{e:Þ}{p pos c p2 f:Pos}{k:Nat}(g:glob sc "tuple")(h:glob sc "list")(i:n="isinstance")(j:glob sc n)(l:noStar e)(o:ay X G E a e) :
  ay X G E (.isi .seq a) (.Call (.Name n p) [e,.Tuple [.Name "tuple" c,.Name "list" p2] k f] [] pos):=by
 subst i;let(r,s,u):=bM j;let(w,y,A):=bM g;let(B,C,F):=bM h;refine aK (PE.imp (jy FO (x.glb _ r) (x.blt _ (-0)) n5 (cG o.pe (cG (Hs (cG (s9 (v:=.ty _) (x.glb _ w) (x.blt _ (-0)) vt rfl A y)
  (cG (s9 (v:=.ty _) (x.glb _ B) (x.blt _ (-0)) y9 rfl F C) gJ))) gJ) (bS l _ _)) u s (bS l _ _) rfl) λσ H Q q=>?_) rfl
 let(I,ρ,z,rr,J,K,e,L):=q;refine cK J K e (b9 L) λm z1 P=>?_;let(d,c,e2):=M.ao P;let(s1,rfl,q1):=bZ c;cases e2;refine#[s1,rfl,λv U x1 aZ rv=>#[by decide,λt ht=>?_]]
 have Y:ag U (upd U t (.tup [.ty "tuple",.ty "list"])):=ag.new _ ht;refine#[d,v,t,rfl,((rv.pl.d_ q1).same (ag.trans (ak I U) Y)).has,dU.of aB,?_];rw[Ja d];exact bQ L x1 aZ _ _ Y cY
theorem RM{pos:Pos}(hs:tS x)(d:ay X G E a v)(f:ay X G E i x):ay X G E (.idx a i) (.Subscript v x pos):=by
 refine aK (PE.imp (DG UE d.pe f.pe (oC hs)) λg H Q q=>?_) rfl;let(h,j,z,k,l,m,e,n):=q;refine vo l m e (b9 n) λo p r v w s u y eF A B=>?_;let(c,C,F):=M.ao u;cases F;exact#[h,r,o,p,_,eF,A,B,by simp_all,bQ n y eF]
set_option tactic.hygienic true in
theorem O6(x:XI lm X G E N sc){i k:Nat}{n:Str}{c:Nat}{p q pos:Pos}(d:N[i]?=↑n)(f:aG n):ay X G E (.zget i k) (.Subscript (.Name n p) (.Constant (~~~k) c q) pos):=by
 delta aG at f
 simp only[Á,ò] at f;refine aK (PE.imp (DG yB (eE  (by rw[x.hN];exact d) (x.vis n (ë d)) f.1 f.2) uy (oC rfl)) λg H Q h=>?_) rfl
 let(j,l,z,m,o,r,e,s):=h;have u:AY k _ z=↑m:=e
 delta AY at u
 split at u
 .rename_i p hs;let(v,w,a,y,rfl):=o i .z hs;subst y;have A :=r.zat;refine#[_,w,a,[~~~p.1,.bl p.2],(k:Int),?_];split at u
  .rename_i B;subst B;cases u;let(C,F,s):=s;cases F;exact#[_,rfl,rfl,jX.of A,rfl,s _ H Ext.refl r fD]
  .split at u
   .rename_i B;subst B;cases u;let(C,F,s):=s;cases F;exact#[_,rfl,rfl,jX.of A,rfl,s _ H Ext.refl r (vg Hd.bl)]
   .cases u
 .cases u
theorem pX(a:Int):∀ (n:Nat) {aw:Zi},aw.length=n->(∀ i,i < n->∃ v t,aw[i]?=↑v/\v=.int (a + (i:Nat)) t)->Vals ((ø n).map λ(k:Nat)=>V.int (a + k)) aw:=by
 intro n aw hl h;rw[WW];exact (by
  intro m
  induction m with
  |zero =>
   intro l o hl _;rw[List.length_eq_zero_iff.mp hl];exact .nil
  |succ m ih =>
   intro l o hl h;cases l with
   |nil=>cases hl
   |cons x r =>
    let(v,t,e1,e2):=h 0 (succ_pos m);simp only[YT,XZ] at e1;refine .cons #[t,by simp_all] (ih r _ (by simpa using hl) λi hi=>?_)
    grind:∀ (m:Nat) (l:Zi) (o:Nat),l.length=m->(∀ i,i < m->∃ v t,l[i]?=↑v/\v=.int (a + (o + i:Nat)) t)->Vals ((range' o m 1).map _) l) n aw 0 hl λi hi=>by
  let(v,t,e1,e2):=h i hi;exact#[v,t,e1,by simp_all]
theorem Gk:Vk "range"=↑(.type "range"):=by decide +kernel
def Va:⇑V->Option (Int × Int)
 |[~~~j]=>↑(0,j)|[~~~i,~~~j]=>↑(i,j)|_=>none
def T7:Bool->⇑V->HO
 |true=>HO.tup|false=>HO.lst
def UJ:Bool->String
 |true=>"tuple"|false=>"list"
def RN(b:Bool)(a:TA):TE:=λc H Q=>a c H λd e=>∃ i j:Int,Va d=↑(i,j)/\-100000 < i/\i < 100000/\-100000 < j/\j < 100000/\∀ l,e l=none->Q ↥l (upd e l (T7 b ((ø (j - i).toNat).map λ(k:Nat)=>V.int (i + k))))
theorem O7{a:⇑(Ê × Obj)}{c:L2.St}{d:Hp}{s1:É}{r:Ê}{i j:Int}{t u v:Tok}{Q:VK}(f:X.calm)(g:Inv X a c d s1)(h:IsRange s1.heap r i j 1 t u v)(m:-100000 < i)(n:i < 100000)(o:-100000 < j)(p:j < 100000)
  (q:∀ l,d l=none->Q ↥l (upd d l (.lst ((ø (j - i).toNat).map λ(k:Nat)=>V.int (i + k))))):â (Ü X.prog X.w) X.A (call (.type "list") [↥r]) (EP X a c Q) X.xe s1:=by
 refine call_list_range  (g.ok.hd f) h (small_one ∅ ∅ ∅ ∅) (by rw[rangeSize_one];split <;> omega:V7 i j 1=(((j - i).toNat:Nat):Int)) ∅ λs x y z B C F=>?_
 exact#[↥_,_,g.laid  B (Ò _) (show cO X.prog X.w _ s _ (.lst _) from#[by rw[Ã,Vu,VD];omega,y.toList,z,by
  refine pX i _ ?_ λi I=>?_
  .exact F.1
  .have J:i < y.size:=by rw[F.1];exact I
   let(t,e):=F.2 i _ (WU J)
   simp_all,by simp_all]),rfl,q _ (g.aX.fresh (Ò _))]
theorem LS{a:⇑(Ê × Obj)}{c:L2.St}{d:Hp}{s1:É}{r:Ê}{i j:Int}{t u v:Tok}{Q:VK}(f:X.calm)(g:Inv X a c d s1)(h:IsRange s1.heap r i j 1 t u v)(m:-100000 < i)(n:i < 100000)(p:-100000 < j)(s:j < 100000)
  (q:∀ l,d l=none->Q ↥l (upd d l (.tup ((ø (j - i).toNat).map λ(k:Nat)=>V.int (i + k))))):â (Ü X.prog X.w) X.A (call (.type "tuple") [↥r]) (EP X a c Q) X.xe s1:=by
 refine HT.tuple_range  (g.ok.hd f) h (small_one ∅ ∅ ∅ ∅) (by rw[rangeSize_one];split <;> omega:V7 i j 1=(((j - i).toNat:Nat):Int)) ∅ λx y z B C F=>?_
 exact#[↥_,_,g.laid  (λb o e=>Â _ (B b o e)) C (show cO X.prog X.w _ _ _ (.tup _) from#[by rw[Ã,Vu,VD];omega,z.toList,by
  refine pX i _ ?_ λi I=>?_
  .exact F.1
  .have J:i < z.size:=by rw[F.1];exact I
   let(t,e):=F.2 i _ (WU J)
   simp_all,#[_,Ï _ rfl,rfl,0,rfl]]),rfl,q _ (g.aX.fresh C)]
theorem Eh(b:Bool){a:⇑(Ê × Obj)}{c:L2.St}{d:Hp}{s1:É}{r:Ê}{i j:Int}{t u v:Tok}{Q:VK}(e:X.calm)(f:Inv X a c d s1)(g:IsRange s1.heap r i j 1 t u v)(h:-100000 < i)(m:i < 100000)(n:-100000 < j)(o:j < 100000)
  (q:∀ l,d l=none->Q ↥l (upd d l (T7 b ((ø (j - i).toNat).map λ(k:Nat)=>V.int (i + k))))):â (Ü X.prog X.w) X.A (call (.type (UJ b)) [↥r]) (EP X a c Q) X.xe s1:=by
 cases b with
 |true=>exact LS e f g h m n o q|false=>exact O7 e f g h m n o q
theorem RO(b:Bool):Vk (M1 b)=↑(.type (UJ b)):=by
 cases b with
 |true=>exact vt|false=>exact y9
theorem Gm(b:Bool){e:Þ}{l:Zm}{a:TA}{p p2 pos c:Pos}(d:X.calm)(f:Gl X (M1 b))(g:X.mg (M1 b)=none)(k:Gl X "range")(m:X.mg "range"=none)(n:PA X (e::l) a)(hs:noStar e)(v:l.all noStar) :
  PE X (.Call (.Name (M1 b) p) [.Call (.Name "range" p2) (e::l) [] c] [] pos) (RN b a):=by
 intro w s x H Q I h;refine Call_ (gI I f g (RO b) (Vo (YL ?_) rfl rfl) (by cases b <;> decide) (by cases b <;> decide))
 refine Call_ (gI I k m Gk (Vo (cF (n c w s x H _ I h) λus s1 #[y,H1,z,A,B]=>?_) (bS hs l X.env) (iD X.env c v)));let(i,j,C,F,J,K,L,q):=B
 match y,C with
 |[~~~_],C =>
  cases C;let(u,rfl,r):=vals1 A;let(t,rfl):=r;exact call_range_1 (X8 (Eh b d (z.kept λb o e=>Â _ e) (IsRange.new ..) F J K L q))
 |[~~~_,~~~_],C =>
  cases C;let(u,P,rfl,r,U):=vals2 A;let(t,rfl):=r;let(Y,rfl):=U;exact call_range_2 (X8 (Eh b d (z.kept λb o e=>Â _ e) (IsRange.new ..) F J K L q))
theorem Jq:∀ {ds a:⇑D},Q5 ds=↑a->∃ i j:Int,((ds=[~~~j]/\i=0)\/ds=[~~~i,~~~j])/\-100000 < i/\i < 100000/\-100000 < j/\j < 100000/\a=(ø (j - i).toNat).map λ(k:Nat)=>D.int (i + k)
 |[],_,h=>by cases h
 |[x],a,h=>by
  cases x with
  |int j =>
   let(c,h):=cm h;have c:=kP.mp c;exact#[0,j,.inl #[rfl,rfl],by omega,by omega,c.1,c.2,by simp_all]
  |_=>cases h
 |[x,y],a,h=>by
  cases x with
  |int i =>
   cases y with
   |int j =>
    let(c,h):=cm h;have d:=kP.mp c.1;have e:=kP.mp c.2;exact#[i,j,.inr rfl,d.1,d.2,e.1,e.2,by simp_all]
   |_=>cases h
  |_=>cases h
 |x::y::_::_,_,h=>by
  cases x with
  |int i=>cases y <;> cases h
  |_=>cases h
theorem O8(x:XI lm X G E N sc){b:Bool}{p p2 pos c:Pos}(d:glob sc (M1 b))(f:glob sc "range")(h:cH as)(g:Good X G E as (a::l)):ay X G E (.lrng b as) (.Call (.Name (M1 b) p) [.Call (.Name "range" p2) (a::l) [] c] [] pos):=by
 let(m,_,_):=bM d;let(n,_,_):=bM f;let(o,hs):=g.args h;rw[V4,Á] at hs;refine aK (PE.imp (Gm b x.calm (x.glb _ m) (x.blt _ (by cases b <;> decide)) (x.glb _ n) (x.blt _ (-0)) o hs.1 hs.2) λσ H Q q=>?_) rfl
 let(r,ρ,z,rr,s,u,e,y):=q;refine pV s u e (b9 y) λl z1 e1 vs A B aZ C=>?_;let(xs,hx,e2):=M.ao e1;cases e2;let(s',e',y):=y;cases e';let(ds,h3,h4):=Õ.mp hx;have F:=kR C h3;let(i,j,U,j1,j2,j3,j4,ex):=Jq h4;refine#[i,j,?_,j1,j2,j3,j4,(λi j ex J L=>by
  subst ex;have P:=bg.ints (K:=X.K) (H:=hz r A) ((ø (j - i).toNat).map λ(k:Nat)=>i + (k:Int));rw[à,à] at P;cases b with
  |false=>exact y _ _ (B.trans (Ext.of (ag.new _ L))) (aZ.same (ag.new _ L)) ((dB aZ P L).from B)|true=>exact y _ _ (B.trans (Ext.of (ag.new _ L))) (aZ.same (ag.new _ L)) (vg (Hd.tup ((aZ.same (ag.new _ L)).A2 (dU.of aB)) (P.same (gx (ag.new _ L))))):∀ i j ,xs=(ø (j - i).toNat).map (λ(k:Nat)=>D.int (i + k))->∀ J,A J=none->Q ↥J (upd A J (T7 b ((ø (j - i).toNat).map λ(k:Nat)=>V.int (i + k))))) i j ex];rcases U with ⟨rfl,rfl⟩ | rfl
 .let(v,rfl,Y):=F.one;cases Y.cS;rfl
 .let(v,w,rfl,Y,h6):=F.two;cases Y.cS;cases h6.cS;rfl
end
theorem zc(a:Nat->Nat)(i:Nat):∀ n,(SS.met a n).testBit i=(ø n).any λj=>a j == i
 |0=>Nat.zero_testBit i
 |n + 1=>by
  show(SS.met a n ||| 2 ^ a n).testBit i=_;rw[Nat.testBit_or,zc a i n,Nat.testBit_two_pow,range_succ];simp;rfl
theorem vw:∀ {l:⇑D}{a:Zh},oz l=↑a->l=a.map (λ(n:Nat)=>D.int n)/\∀ n∈a,n < 8
 |[],a,h=>by cases h;simp_all
 |x::r,a,h=>by
  cases x with
  |int i =>
   let(c,h):=cm h;let(d,f,rfl):=Ö.mp h;let(e,k):=vw f;refine#[?_,λn g=>?_]
   .rw[Xc,<-e,show((i.toNat:Nat):Int)=i from Xn c.1]
   .rcases ì.mp g with rfl | g
    .omega
    .exact k n g
  |_=>cases h
theorem Ei{a:Zh}:SS.fS (SS.met (λi=>a.getD i 0) a.length)=(ø 8).filter λi=>a.contains i:=by
 refine VG λi _=>?_;rw[zc,My,any_eq_true,VR];constructor
 .rintro ⟨j,c,e⟩;rw[mem_range] at c;rw[<-ZC e,Ì,ß c];exact V3 c
 .intro h;let(j,c,e):=Vv.mp h;exact#[j,û.mpr c,by simp_all]
theorem zd{K:Å}{H:Hp}:∀ {a:Zh}{c:⇑V},bg K H (a.map λ(n:Nat)=>D.int n) c->c=a.map λ(n:Nat)=>V.int n
 |[],_,h=>h.cC
 |n::r,_,h=>by
  let(y,q,rfl,d,e):=bg.bj h;rw[d.cS,zd e];rfl
theorem Ej{K:Å}{H:Hp}:∀ a:Zh,bg K H (a.map λ(n:Nat)=>D.int n) (a.map λ(n:Nat)=>V.int n)
 |[]=>.nil|n::r=>.cons Hd.int (Ej r)
theorem tV{a:Zh}(h:∀ n∈a,n < 8)(i:Nat):a.getD i 0 < 8:=by
 rw[Ì];cases e:a[i]? with
 |none=>decide|some n=>exact h n (ë e)
section
variable {lm:Bool}{X:Cx}{G:Gs}{E:XK}{N:Zj}{sc:ý}
def xO(w:ú)(p m:Nat):þ->Prop:=λh=>SS.jD w h p m
theorem Gp(c:X.calm):cA X (.type "set") (λd H Q=>∃ (a:Ê) (f:Zh) (g:⇑V),d=[↥a]/\(jX X.K H a g\/dU X.K H a g)/\g=f.map (λ(n:Nat)=>V.int n)/\(∀ n∈f,n < 8)/\∀ p,H p=none->Q ↥p (upd H p (.ext (xO X.w p (SS.met (λi=>f.getD i 0) f.length))))):=by
 intro aa s σ H d g Q I r h;let(a,f,vs,rfl,j,rfl,h8,q):=h;let(u,rfl,rx):=vals1 r;subst rx;have hv :=tV h8;have hp:∀ {l:Zi},Vals (f.map λ(n:Nat)=>V.int n) l->l.toArray.size=f.length/\∀ (i:Nat) (v),l.toArray[i]?=↑v->∃ t,v=.int ((λi=>f.getD i 0) i) t:=λ{l} m=>by
  refine#[by rw[á,<-m.length,Ã],λi v e=>?_]
  have e :=by simpa using e
  have hi :=by have:=(ç.mp e).1;rw[<-m.length,Ã] at this;exact this
  let(w',e1,e2):=m.get (i:=i) (x:=V.int (f[i])) (by simp[hi])
  rw[e] at e1;cases e1;let(t,rfl):=e2;exact#[t,by simp[hi]]
 have y:∀ (z) (B),SS.jD X.w z s.heap.objs.size _->(∀ b u,s.heap.get? b=↑u->z.get? b=↑u)->EP X aa σ Q _ _:=λz B hS C=>by
  refine#[↥s.heap.objs.size,_,I.laid (t':=B) (o:=.ext _) C (Ò _) #[hS,?_,λh1 h2 p k=>p.keep k],rfl,q _ (I.aX.fresh (Ò _))];let(o,_,_,J,_):=hS;exact#[o,J]
 rcases j with j | j
 .let(l,m,pl,_):=I.list j;let(o,J,L,n,P):=pl.isList;let(sz,pv):=hp m;refine SS.pK
   #[L,F.sub_list_set,F.sub_list_frozenset,by decide,λA E s Q e q=>Yn #[o,e,L,n,P] q,λA I U Y=>Walks.list U I a Y _,λh e=>#[#[_,Ï _ rfl,rfl,rfl],#[o,Â _ e,L,n,P]]] (by exact I.ok.hd c) J hv pv λz B x C=>?_
  rw[sz] at x;exact y z B x C
 .let(l,m,pl,_):=I.tuple j;let(o,J,L,n,P):=pl;let(sz,pv):=hp m;refine SS.pK
   #[L,by kernel_rfl,by kernel_rfl,by decide,λA E s Q e q=>WJ #[o,e,L,n,P] q,λA I U Y=>Walks.tuple U I a Y _,λh e=>#[#[_,Ï _ rfl,rfl,rfl],#[o,Â _ e,L,n,P]]] (by exact I.ok.hd c) J hv pv λz B x C=>?_
  rw[sz] at x;exact y z B x C
theorem ze(a:X.calm)(d:X.A.units + 64 < WN):cA X (.builtin "sorted") (λe H Q=>∃ (p:Ê) (m:Nat),e=[↥p]/\m < 256/\H p=↑(.ext (xO X.w p m))/\∀ l,H l=none->Q ↥l (upd H l (.lst ((SS.fS m).map λ(n:Nat)=>V.int n)))):=by
 intro f s i H e j Q I r h;let(p,m,rfl,k,v,q):=h;let(u,rfl,x):=vals1 r;subst x;obtain⟨⟨o,y,g,z,B,C⟩,_⟩:=I.aX p _ v;refine SS.CL (by exact I.ok.hd a) d k z B C λl F J c K L P=>?_
 refine#[↥l,_,I.laid  (o:=.lst _) L K #[?_,_,c,?_,P],rfl,q _ (I.aX.fresh K)]
 .rw[Ã,VD];have:(SS.fS m).length<=8:=Í (Wb _ _) ⋯
  omega
 .generalize SS.fS m=l
  induction l with
  |nil=>exact .nil|cons n r U=>exact .cons #[_,rfl] U
theorem Jr:Vk "set"=↑(.type "set"):=by decide +kernel
theorem O9(x:XI lm X G E N sc){c p2 f h:Pos}(h1:glob sc "sorted")(h2:glob sc "set")(hL:cH as)(g:Good X G E as [e]):ay X G E (.bf .sset as) (.Call (.Name "sorted" c) [.Call (.Name "set" p2) [e] [] f] [] h):=by
 let(k1,k2,k3):=bM h1;let(j1,j2,j3):=bM h2;let(ha,hs):=g.args hL;rw[V4,Á] at hs;refine aK (PE.imp (jy (ze x.calm x.room.units) (x.glb _ k1) (x.blt _ (-0)) xN (cG (qN (Gp x.calm) (x.glb _ j1) (x.blt _ (-0)) Jr ha j3 j2 (bS hs.1 [] X.env) (iD X.env f hs.2)) gJ) k3 k2) λσ H Q q=>?_) rfl
 let(j,ρ,z,rr,k,st,ee,n):=q;refine pV k st ee (b9 n) λl z1 e1 vs o x1 aZ r=>?_;let(ds,hd,e2):=M.ao e1;let(s,u,e3):=M.ao e2;cases e3;have y:=kR r hd
 match ds,u with
 |[d],u =>
  let(l,A,u):=Õ.mp u;let(B,hn,rfl):=Ö.mp u;let(rfl,C):=vw hn;let(v,rfl,F):=y.one;obtain⟨a,I,rfl,hq,J⟩:∃ a I,v=↥a/\(jX X.K o a I\/dU X.K o a I)/\bg X.K _ _ I:=by
   cases d with
   |tup m =>
    cases A;let(a,L,rfl,P,U):=F.eH;exact#[a,L,rfl,.inr ((ak j o).jB P),U]
   |lst m =>
    cases A;let(a,L,rfl,P,U):=F.jF;exact#[a,L,rfl,.inl (P.same (ak j o)).sq,U]
   |_=>cases A
  refine#[a,B,I,rfl,hq,zd J,C,λp hp=>#[p,_,rfl,SS.yQ (tV C) _,aB,λl A=>?_]];have Y:ag o (upd o p (.ext (xO X.w p (SS.met (λi=>B.getD i 0) B.length)))):=ag.new _ hp;rw[Ei];exact bQ n x1 aZ _ _ (ag.trans Y (ag.new _ A)) ((dB (aZ.same Y) (Ej _) A).from (Ext.of Y))
end
theorem nk:∀ {l:⇑D}{ns:Zh},pN l=↑ns->l=ns.map (λ(n:Nat)=>D.int n)/\∀ n∈ns,n < 8
 |[],ns,h=>by cases h;simp_all
 |x::r,ns,h=>by
  cases x with
  |int i =>
   let(a,h):=cm h;let(c,d,rfl):=Ö.mp h;let(e,k):=nk d;refine#[?_,λn f=>?_]
   .rw[Xc,<-e,show((i.toNat:Nat):Int)=i from Xn a.1]
   .rcases ì.mp f with rfl | f
    .omega
    .exact k n f
  |_=>cases h
section
variable {lm:Bool}{X:Cx}{G:Gs}{E:XK}{N:Zj}{sc:ý}
theorem Gq(c:X.calm):cA X (.type "set") (λd H Q=>∃ (a:Ê) (f:Zh) (g:⇑V),d=[↥a]/\(jX X.K H a g\/dU X.K H a g)/\g=f.map (λ(n:Nat)=>V.int n)/\(∀ n∈f,n < 8)/\∀ p,H p=none->Q ↥p (upd H p (.ext (xO X.w p (SS.met (λi=>f.getD i 0) f.length))))):=by
 intro aa s σ H d g Q I r h;let(a,f,vs,rfl,j,rfl,h8,q):=h;let(u,rfl,rx):=vals1 r;subst rx;have hv :=tV h8;have hp:∀ {l:Zi},Vals (f.map λ(n:Nat)=>V.int n) l->l.toArray.size=f.length/\∀ (i:Nat) (v:Ä),l.toArray[i]?=↑v->∃ t,v=.int ((λi=>f.getD i 0) i:Nat) t:=λ{l} m=>by
  refine#[by rw[á,<-m.length,Ã],λi v e=>?_]
  have e :=by simpa using e
  have hi :=by have:=(ç.mp e).1;rw[<-m.length,Ã] at this;exact this
  let(w',e1,e2):=m.get (i:=i) (x:=V.int (f[i]:Nat)) (by simp[hi])
  rw[e] at e1;cases e1;let(t,rfl):=e2;exact#[t,by simp[hi]]
 have y:∀ (z:þ) (B:Nat),SS.jD X.w z s.heap.objs.size _->(∀ b u,s.heap.get? b=↑u->z.get? b=↑u)->EP X aa σ Q _ _:=λz B hS C=>by
  refine#[↥s.heap.objs.size,_,I.laid (t':=B) (o:=.ext _) C (Ò _) #[hS,?_,λh1 h2 p k=>p.keep k],rfl,q _ (I.aX.fresh (Ò _))];let(o,_,_,J,_):=hS;exact#[o,J]
 rcases j with j | j
 .let(l,m,pl,_):=I.list j;let(o,J,L,n,P):=pl.isList;let(sz,pv):=hp m;refine SS.pK
   #[L,F.sub_list_set,F.sub_list_frozenset,by decide,λA E s Q e q=>Yn #[o,e,L,n,P] q,λA I U Y=>Walks.list U I a Y _,λh e=>#[#[_,Ï _ rfl,rfl,rfl],#[o,Â _ e,L,n,P]]] (by exact I.ok.hd c) J hv pv λz B x C=>?_
  rw[sz] at x;exact y z B x C
 .let(l,m,pl,_):=I.tuple j;let(o,J,L,n,P):=pl;let(sz,pv):=hp m;refine SS.pK (o:=o) (it:={ cls:=.type "tuple_iterator",data:=.fields [↥a,.int 0 0].toArray }) (n:=l.toArray.size) (St:=λI i h=>h.IsTupleIter I a i/\h.IsTuple a l.toArray) (Pv:=λi v=>l.toArray[i]?=↑v) (val:=λi=>f.getD i 0)
   #[L,by rw[YE];kernel_rfl,by rw[YE];kernel_rfl,by decide,λA E s Q e q=>WJ #[o,e,L,n,P] q,λA I U Y=>Walks.tuple U I a Y _,λh e=>#[#[_,Ï _ rfl,rfl,rfl],#[o,Â _ e,L,n,P]]] (by exact I.ok.hd c) J hv pv λz B x C=>?_
  rw[sz] at x;exact y z B x C
theorem Gr:cA X (.builtin "len") (λa H Q=>∃ (p:Ê) (m:Nat),a=[↥p]/\m < 256/\H p=↑(.ext (xO X.w p m))/\Q (~~~(SS.fS m).length) H):=by
 intro c s d H a e Q I r h;let(p,m,rfl,f,i,q):=h;let(u,rfl,j):=vals1 r;subst j;obtain⟨⟨o,k,g,l,n,v⟩,_⟩:=I.aX p _ i;have x:(SS.fS m).length<=8:=Í (Wb _ _) ⋯
 refine call_len_set l n v (by rw[SS.bY];exact(SS.gK _ f).1) (by rw[SS.bY];omega) #[_,H,I.tok _,?_,q]
 rw[SS.bY];exact#[_,rfl]
theorem Pb(x:XI lm X G E N sc){c p2 f h:Pos}(j:glob sc "len")(h2:glob sc "set")(hL:cH as)(g:Good X G E as [e]):ay X G E (.oY as) (.Call (.Name "len" c) [.Call (.Name "set" p2) [e] [] f] [] h):=by
 let(k1,k2,k3):=bM j;let(j1,j2,j3):=bM h2;let(ha,hs):=g.args hL;rw[V4,Á] at hs;refine aK (PE.imp (jy Gr (x.glb _ k1) (x.blt _ (-0)) Jp (cG (qN (Gq x.calm) (x.glb _ j1) (x.blt _ (-0)) Jr ha j3 j2 (bS hs.1 [] X.env) (iD X.env f hs.2)) gJ) k3 k2) λσ H Q q=>?_) rfl
 let(k,ρ,z,rr,n,st,ee,o):=q;refine pV n st ee (b9 o) λl z1 e1 vs r x1 aZ u=>?_;let(ds,hd,e2):=M.ao e1;let(s,y,e3):=M.ao e2;cases e3;have A:=kR u hd
 match ds,y with
 |[d],y =>
  let(l,B,y):=Õ.mp y;let(C,hn,rfl):=Ö.mp y;let(rfl,F):=nk hn;let(v,rfl,I):=A.one;obtain⟨a,J,rfl,hq,L⟩:∃ a J,v=↥a/\(jX X.K r a J\/dU X.K r a J)/\bg X.K _ _ J:=by
   cases d with
   |tup m =>
    cases B;let(a,P,rfl,U,Y):=I.eH;exact#[a,P,rfl,.inr ((ak k r).jB U),Y]
   |lst m =>
    cases B;let(a,P,rfl,U,Y):=I.jF;exact#[a,P,rfl,.inl (U.same (ak k r)).sq,Y]
   |_=>cases B
  refine#[a,C,J,rfl,hq,zd L,F,λp hp=>#[p,_,rfl,SS.yQ (tV F) _,aB,?_]];have sm:ag r (upd r p (.ext (xO X.w p (SS.met (λi=>C.getD i 0) C.length)))):=ag.new _ hp;rw[Ei];exact bQ o x1 aZ _ _ sm (vg Hd.int)
def UK(K:Å)(G:Gs)(E:XK)(x:Ex):TO:=λa H Q=>∃ d e z r,fE K d H e a/\aO d z H/\ev G.F x e z=↑r/\(match r with
 |.ok l f=>∃ o,AW l=↑o/\∀ g,Ext d H g->aO d f g->Q o g
 |.er c f=>EPost G d E c f H)
theorem M8(f:cH x)(g:Good X G E x e.toList):PO X e (UK X.K G E x):=by
 cases e with
 |none =>
  cases x with
  |nil =>
   refine λj s k H Q I q=>DD j s k H Q I ?_;let(m,n,z,r,p,u,e,w):=q;cases e;let(o,A,w):=w;cases A;exact w H Ext.refl u
  |cons a r=>let(e,B,h,_):=g;cases h
  |_=>cases f
 |some e =>
  cases x with
  |nil=>cases (show [e]=[] from g)
  |cons a r =>
   let(A,B,h,ns,C,F,J):=g;cases h;refine λj s k H Q I q=>DE C.pe j s k H Q I ?_;let(m,n,z,L,p,u,e,w):=q;have rn:r=.nil:=by
    cases r with
    |nil=>rfl|cons b q=>let(e,B,h,_):=J;cases h
    |_=>cases F
   subst rn;refine cK p u e (λc U e=>by simp_all) λl U e1=>?_;let(s,hs,e2):=M.ao e1;cases e2;let(o,A,w):=w;refine#[s,lU hs,λv Y x1 aZ rv=>?_];cases s with
   |d y =>
    cases y with
    |int i =>
     cases A;exact#[i,Hd.cS (show Hd X.K (hz m Y) _ v from rv),w Y x1 aZ]
    |_=>cases A
   |_=>cases A
  |_=>cases f
theorem T8{a d f:Ex}{v:Þ}{l h:Zt}{p pos:Pos}(g:ay X G E a v)(i:cH d)(j:cH f)(k:Good X G E d l.toList)(gh:Good X G E f h.toList):ay X G E (.sl a d f) (.Subscript v (.Slice l h none p) pos):=by
 refine aK (PE.imp (Hv TN g.pe (M8 i k) (M8 j gh)) λσ H Q q=>?_) rfl;let(n,r,z,rr,x,st,e,y):=q;refine cK x st e (b9 y) λm A e1=>?_;let(dx,p1,e2):=M.ao e1;let(s1,rfl,q1):=bZ p1;refine#[s1,rfl,λw H1 B aZ rv=>?_];rcases M.bind_some e2 with ⟨u,C,F,I⟩ | ⟨c,C,F,I⟩
 .let(o,ho,e5):=M.ao I;refine#[n,r,A,_,x.mono B,aZ,F,o,ho,λH2 J eF=>?_];rcases M.bind_some e5 with ⟨u',K,L,P⟩ | ⟨c,K,L,P⟩
  .let(o',U,e8):=M.ao P;refine#[n,r,C,_,(x.mono B).mono J,eF,L,o',U,λH3 Y B9=>?_];let(s,hs,e9):=M.ao e8;cases e9;exact#[n,K,dx,s,B9,((rv.pl.mono (J.trans Y)).d_ q1),hs,bQ y ((B.trans J).trans Y) B9]
  .exact#[n,r,C,_,(x.mono B).mono J,eF,L,((b9 y) c K P).mono (B.trans J)]
 .exact#[n,r,A,_,x.mono B,aZ,F,((b9 y) c C I).mono B]
theorem RP{c p2 f pos:Pos}(g:ay X G E a v):ay X G E (.rev a) (.Subscript v (.Slice none none ↑(.UnaryOp .USub (.Constant (~~~1) k c) p2) f) pos):=by
 refine aK (PE.imp (Oe g.pe (MS Hm uy)) λh H Q q=>?_) rfl;let(i,j,z,n,o,r,e,u):=q;refine cK o r e (b9 u) λm x y=>?_;let(s,c,A):=M.ao y;let(d,p2,f):=Õ.mp c;let(s1,rfl,B):=bZ p2;cases A;refine#[s1,rfl,λw C F aZ I=>#[1,rfl,rfl,?_]];have J:=I.pl.d_ B;cases d with
 |tup l =>
  cases f;let(a,K,rfl,L,P):=J.eH;exact .inl #[a,K,rfl,(ak i C).jB L,tupQ aZ P.reverse (bQ u F aZ)]
 |lst l =>
  cases f;let(a,K,rfl,L,P):=J.jF;exact .inr #[a,K,rfl,(L.same (ak i C)).sq,λp U=>bQ u F aZ _ _ (ag.new _ U) (dB aZ P.reverse U)]
 |_=>cases f
theorem Pc:∀ {x:Ex}{d:Zm}{z f:Z}{l:⇑S},cH x->Good X G E x d->ev G.F x i z=↑(.ok l f)->l.length=d.length:=by
 intro x
 induction x with
 |nil =>
  intro d z f l _ h e;subst h;cases e;rfl
 |cons a r _ j =>
  intro d z f l _ h e;let(k,n,rfl,o,g,p,q):=h;rcases M.bind_some e with ⟨m,u,v,w⟩ | ⟨c,u,v,w⟩
  .let(s,hs,y):=M.ao w;rcases M.bind_some y with ⟨A,B,C,H⟩ | ⟨c,B,C,H⟩
   .cases H;rw[ã,ã,j p q C]
   .cases H
  .cases w
 |_=>intro d z f l h;cases h
theorem s_call(x:XI lm X G E N sc){p pos:Pos}(a:G.fns[f]?=↑(n,d))(h:d.length=l.length + 1)(i:glob sc n)(j:cH as)(g:Good X G E as (e::l)) :
  ay X G E (.call f as) (.Call (.Name n p) (e::l) [] pos):=by
 let(k,k2,k3):=bM i;let(fa,fd,m1,m2,m3,F):=x.gok f n d a;let(ha,hs):=g.args j;rw[V4,Á] at hs;refine aK (PE.imp (KW F x.room (x.glb n k) m1 m2 m3 .nil x.pas ha k2 (bS hs.1 l X.env) (iD X.env pos hs.2)) λσ H Q q=>?_) rfl;let(o,r,z,rr,u,w,e,y):=q;rcases M.bind_some e with ⟨m,A,B,C⟩ | ⟨c,A,B,C⟩
 .refine#[o,r,z,_,u,w,B,λvs H1 I aZ J=>?_];show KO X.K G f d.length _ H1 Q E;rw[ó];refine#[by rw[<-J.length,Pc j g B,h];rfl,o,A,m.map qJ,?_];have L :=wF.qJ (VX.An J λ_ _ q=>q.pl);rcases M.bind_some C with ⟨s,P,U,Y⟩ | ⟨c,P,U,Y⟩
  .cases Y;refine#[_,L,aZ,U,λv H2 x2 eF rv=>?_];let(s',e',y):=y;cases e';exact y v H2 (I.trans x2) eF (rv.from I)
  .exact#[_,L,aZ,U,((b9 y) c P Y).mono I]
 .exact#[o,r,z,_,u,w,B,(b9 y) c A C]
def LU:iU->Nat
 |.nil=>0|.cons _ r=>LU r + 1|_=>0
mutual
noncomputable def gP(K:Å):iU->TG
 |.v i=>lB i|.tup a=>Qz K (LU a) (gL K a)|.nil=>λ_ _ _ _=>False|.cons _ _=>λ_ _ _ _=>False
noncomputable def gL(K:Å):iU->MM
 |.nil=>Qy|.cons p r=>MN (gP K p) (gL K r)|.v _=>λ_ _ _ _=>False|.tup _=>λ_ _ _ _=>False
end
end
end Q
namespace Q
open PySem L2 PySem.Spec PyProof.Rows
variable [TB:Tb]
theorem CO(h:noStar e)(a:Zm)(c:Xw):XR (e::a) c=(false,assign e c)::XR a c:=by
 cases e <;> first | rfl | cases h
structure Ek(X:Cx)(N:⇑Str)(loc:Str->Bool):Prop where
 hN:X.N=N
 nd:N.Nodup
 lc:∀ x,loc x=true->Loc X.env.scope x
 fn:∀ x,loc x=true->(X.fn x=true\/X.env.scope.names.lookup x=↑.local)
 calm:X.calm=true
theorem oD:∀ {a:Zm} (c:Xw),a.all noStar->(XR a c).length=a.length/\(XR a c).findIdx? (·.1)=none
 |[],_,_=>#[rfl,rfl]
 |e::a,c,h=>by
  rw[V4,Á] at h;let(d,f):=oD c h.2;rw[CO h.1];refine#[by simp_all,?_]
  rw[List.findIdx?_cons,f];rfl
theorem Bc:∀ {r:iU}{a:Zm},w5 N loc r a->a.length=LU r/\a.all noStar
 |.nil,a,h=>by
  have :=List.isEmpty_iff.mp h;subst this;exact#[rfl,rfl]
 |.cons p r,a,h=>by
  cases a with
  |nil=>cases h
  |cons e a =>
   have h:(noStar e&&eD N loc p e&&w5 N loc r a)=true:=h;rw[Á,Á] at h;let(c,d):=Bc  h.2;exact#[by rw[ã,c];rfl,by rw[V4,h.1.1,d];rfl]
 |.v _,_,h=>by cases h
 |.tup _,_,h=>by cases h
mutual
theorem Be(L:Ek X N loc):∀ {p:iU}{e:Þ},eD N loc p e=true->PG X e (gP X.K p)
 |.v i,e,h=>by
  cases e with
  |Name x pos =>
   have h:(N[i]? == ↑x&&loc x)=true:=h;rw[Á,Zx] at h;unfold gP;exact tm (by rw[L.hN];exact L.nd) (by rw[L.hN];exact h.1) (L.lc x h.2) (L.fn x h.2)
  |_=>cases h
 |.tup ps,e,h=>by
  cases e with
  |Tuple es k pos =>
   let(h1,h2):=Bc h;let(h3,h4):=oD X.env h2;unfold gP;exact NN L.calm (Js L h) (by rw[h3,h1]) h4
  |_=>cases h
 |.nil,e,h=>by cases h
 |.cons _ _,e,h=>by cases h
theorem Js(L:Ek X N loc):∀ {r:iU}{es:Zm},w5 N loc r es=true->Qw X es (gL X.K r)
 |.nil,es,h=>by
  have:es=[]:=List.isEmpty_iff.mp h;subst this;unfold gL;exact KU
 |.cons p r,es,h=>by
  cases es with
  |nil=>cases h
  |cons e es =>
   have h:(noStar e&&eD N loc p e&&w5 N loc r es)=true:=h;rw[Á,Á] at h;unfold gL;exact He (Be L h.1.2) (Js L h.2) (by rw[CO h.1.1];rfl)
 |.v _,_,h=>by cases h
 |.tup _,_,h=>by cases h
end
section
variable {K:Å}{zA:Zk}{H:Hp}
theorem fE.set{a:Env}{c:L2.St}{i:Nat}{s:S}{v:V}(h:fE K zA H a c)(d:a.length=c.length)(r:Al K zA H s v):fE K zA H (a.set i ↑s) (c.set i ↑v):=by
 intro j t e;by_cases f:j=i
 .have g :=by
   simpa using ((ç.mp e).1)
  simp_all
 .rw[Ý (ü f)] at e;let(w,k,l):=h j t e;exact#[w,by rw[Ý (ü f)];exact k,l]
theorem rg:∀ {r:iU}{l:⇑D}{a c:Env},bindL r l a=↑c->l.length=LU r
 |.nil,l,a,c,e=>by
  cases l with
  |nil=>rfl|cons x l=>cases e
 |.cons p r,l,a,c,e=>by
  cases l with
  |nil=>cases e
  |cons x l =>
   let(d,f,g):=Õ.mp e;rw[ã,rg g];rfl
 |.v _,_,_,_,e=>by cases e
 |.tup _,_,_,_,e=>by unfold bindL at e;cases e
mutual
theorem El:∀ {p:iU}{d:D}{c f:Env},cJ p d c=↑f->∀ {g:L2.St}{v:V}{R:L2.St->Hp->Prop},fE K zA H c g->c.length=g.length->Hd K (hz zA H) d v ->
  (∀ h,fE K zA H f h->f.length=h.length->R h H)->gP K p v g H R
 |.v i,d,c,f,e,g,v,R,j,m,n,k=>by
  unfold cJ at e;cases e;unfold gP;exact k _ (j.set m (show Al K zA H (.d d) v from n)) (by rw[Vs,Vs,m])
 |.tup o,d,c,f,e,g,v,R,j,m,n,k=>by
  unfold cJ at e;cases d with
  |tup l =>
   let(a,q,rfl,s,u):=n.eH;unfold gP;exact#[a,q,rfl,(ak zA H).jB s,by rw[u.length];exact rg e,Bg e j m u k]
  |_=>cases e
 |.nil,_,_,_,e,_,_,_,_,_,_,_=>by unfold cJ at e;cases e
 |.cons _ _,_,_,_,e,_,_,_,_,_,_,_=>by unfold cJ at e;cases e
theorem Bg:∀ {r:iU}{l:⇑D}{c f:Env},bindL r l c=↑f->∀ {g:L2.St}{w:⇑V}{R:L2.St->Hp->Prop},fE K zA H c g->c.length=g.length->bg K (hz zA H) l w ->
  (∀ h,fE K zA H f h->f.length=h.length->R h H)->gL K r w g H R
 |.nil,l,c,f,e,g,w,R,j,m,n,k=>by
  unfold bindL at e;cases l with
  |nil =>
   cases e;unfold gL;exact#[n.cC,k g j m]
  |cons x l=>cases e
 |.cons p r,l,c,f,e,g,w,R,j,m,n,k=>by
  unfold bindL at e;cases l with
  |nil=>cases e
  |cons x l =>
   let(y,z,A):=Õ.mp e;let(v,B,rfl,s,u):=n.bj;unfold gL;exact#[v,B,rfl,El z j m s λh C E=>Bg A C E u k]
 |.v _,_,_,_,e,_,_,_,_,_,_,_=>by unfold bindL at e;cases e
 |.tup _,_,_,_,e,_,_,_,_,_,_,_=>by unfold bindL at e;cases e
end
end
end Q
namespace Q
open PySem L2 PySem.Spec PyProof.Rows
variable [TB:Tb]
structure Pd(K:PySem.W.Frag)(zA:Option Addr)(J:L2.It)(xs:⇑D)(H1:Hp):Prop where
 go:∀ i H,Ext zA H1 H->i < xs.length->J.go i H
 yld:∀ i H x H' z d,Ext zA H1 H->aO zA z H->J.yld i H x H'->xs[i]?=↑d->ag H H'/\Hd K (hz zA H') d x
 stop:∀ H,Ext zA H1 H->J.stop xs.length H
structure LV(K:PySem.W.Frag)(J:L2.It)(xs:⇑D)(B:Hp):Prop where
 go:∀ i H,ag B H->i < xs.length->J.go i H
 yld:∀ i H x H' zA z d,ag B (hz zA H)->aO zA z H->J.yld i H x H'->xs[i]?=↑d->ag H H'/\∀ C,ag B C->(∀ a ys,dU K (hz zA H') a ys->dU K C a ys)->Hd K C d x
 stop:∀ H,ag B H->J.stop xs.length H
section
variable {K:Å}{B:Hp}
theorem LV.ok(h:LV K J xs (hz zA H1)):Pd K zA J xs H1 :=
 #[λi H x=>h.go i H (ag.trans x (ak zA H)),λi H x a z d e c y k=>let #[s,f]:=h.yld i H x a zA z d e c y k;#[s,f _ (ag.trans e (gx s)) λ_ _ q=>q],λH x=>h.stop H (ag.trans x (ak zA H))]
theorem Bh(h:dA K B a ys)(r:bg K B xs ys):LV K (SA K a) xs B where
 go:=λi H x hi=>#[ys,ys[i]'(by rw[r.length];exact hi),(h.same x).sq,⋯]
 yld:=λi H v H' zA z d x st y e=>by
  let(rfl,y):=y;have y1:=y ys ((h.same x).same (ak zA _)).sq;let(w,e1,e2):=r.get e;rw[y1] at e1;cases e1;exact#[ag.refl _,λC c _=>e2.same c]
 stop:=λH x=>#[ys,(h.same x).sq,by rw[r.length];exact Ò _]
theorem Em(h:dU K B a ys)(r:bg K B xs ys):LV K (SD K a) xs B where
 go:=λi H x hi=>#[ys,ys[i]'(by rw[r.length];exact hi),ag.jB x h,⋯]
 yld:=λi H v H' zA z d x st y e=>by
  let(rfl,y):=y;have y1:=y ys ((ak zA _).jB (ag.jB x h));let(w,e1,e2):=r.get e;rw[y1] at e1;cases e1;exact#[ag.refl _,λC c _=>e2.same c]
 stop:=λH x=>#[ys,ag.jB x h,by rw[r.length];exact Ò _]
theorem En(lo:Int)(n:Nat):LV K (Qb lo n) ((ø n).map λ(k:Nat)=>D.int (lo + k)) B where
 go:=λi H x hi=>by show i < n;simpa using hi
 yld:=λi H v H' zA z d x st y e=>by
  let(rfl,rfl):=y;rw[å] at e;let(k,e1,rfl):=Ö.mp e;let(h1,h2):=ç.mp e1;rw[List.getElem_range] at h2;subst h2;exact#[ag.refl _,λ_ _ _=>Hd.int]
 stop:=λH x=>by show n<=_;simp
end
section
variable {K:Å}{zA:Zk}{H1:Hp}
theorem zip_get:∀ {a b:⇑D}{i:Nat}{d:D},(iC a b)[i]?=↑d->∃ x y,a[i]?=↑x/\b[i]?=↑y/\d=.tup [x,y]
 |[],_,_,_,e=>by simp[iC] at e|_::_,[],_,_,e=>by simp[iC] at e|x::r,y::q,0,d,e=>by simp[iC] at e;exact#[x,y,rfl,rfl,e.symm]
 |x::r,y::q,i + 1,d,e=>by
  let(u,v,c,f,g):=zip_get    (by simpa [iC] using e)
  exact#[u,v,c,f,g]
theorem tW:∀ (a b:⇑D),(iC a b).length=min a.length b.length
 |[],_=>rfl|_::_,[]=>rfl|x::r,y::q=>by simp only[iC,ã,tW r q];omega
theorem Eo{B:Hp}{bb:Bool}{a b:Ê}{xs ys:⇑D}{us ws:⇑V}(h:∀ H,ag B H->Aj bb K H a us)(r:bg K B xs us)(h':∀ H,ag B H->Aj bb K H b ws)(r':bg K B ys ws):LV K (Tt bb K a b) (iC xs ys) B where
 go:=λi H x hi=>by
  rw[tW] at hi;exact#[us,ws,us[i]'(by rw[r.length];exact Ñ hi (_s _ _)),ws[i]'(by rw[r'.length];exact Ñ hi (_j _ _)),h H x,h' H x,⋯,⋯]
 yld:=λi H v H' zA z d x st y e=>by
  let(T,rfl,hT,y):=y;let(d1,d2,e1,e2,rfl):=zip_get e;let(w1,f1,g1):=r.get e1;let(w2,f2,g2):=r'.get e2;have y1:=y us ws w1 w2 (h H (ag.trans x (ak zA H))) (h' H (ag.trans x (ak zA H))) f1 f2;subst y1;have sm:ag H (upd H T (.tup [w1,w2])):=ag.new _ hT;exact#[sm,λC c t=>Hd.tup (t _ _ ((st.same sm).A2 (dU.of aB))) (.cons (g1.same c) (.cons (g2.same c) .nil))]
 stop:=λH x=>#[us,ws,h H x,h' H x,by rw[tW,r.length,r'.length];omega]
end
def PX(P:D->Prop):D->Prop
 |.tup l=>∀ y∈l,P y|.lst l=>∀ y∈l,P y|_=>True
def RQ(K:Å)(c:Zk)(H e:Hp)(l:⇑S)(J:L2.It)(f:⇑D):Prop :=
 ∀ (P:D->Prop) (B:Hp),ag B (hz c e)->(∀ a g,dU K (hz c e) a g->dU K B a g)->(∀ d v,P d->Hd K (hz c e) d v->Hd K B d v)->(∀ ds,kN l=↑ds->∀ d∈ds,PX P d) ->
  (∀ a g,dA K (hz c e) a g->((H a=none/\e a=↑(.lst g))\/qY l=true)->dA K B a g)->LV K J f B
theorem bg.move{K:Å}{H B:Hp}{P:D->Prop}(a:∀ d v,P d->Hd K H d v->Hd K B d v):∀ {ds:⇑D}{c:⇑V},(∀ y∈ds,P y)->bg K H ds c->bg K B ds c
 |[],_,_,h=>by rw[h.cC];exact .nil
 |d::ds,_,p,h=>by
  let(x,r,rfl,e,f):=h.bj;exact .cons (a d x (p d È) e) (bg.move a (λy g=>p y (Î _ g)) f)
theorem RQ.ok{K:Å}{zA:Zk}{H a:Hp}{l:⇑S}{J:L2.It}{c:⇑D}(h:RQ K zA H a l J c):Pd K zA J c a:=by
 refine(h (λ_=>True) _ (ag.refl _) (λ_ _ q=>q) (λ_ _ _ q=>q) (λds _ d _=>?_) λ_ _ q _=>q).ok;cases d <;> first | trivial | exact λ_ _=>trivial
inductive KP (K:PySem.W.Frag) (G:Gs) (E:XK) (it:It) (src:Ex) (σ:L2.St) (H:Hp) (R:L2.It->Hp->Prop):Prop where
 |mk (zA ρ z r) (h0_:fE K zA H ρ σ) (h1_:aO zA z H) (h2_:ev G.F src ρ z=↑r) (h3_:(match (generalizing:=false) r with   | .ok l z'=>∃ xs,(kN l).bind (AX it)=↑xs/\∀ J H',Ext zA H H'->aO zA z' H'->RQ K zA H H' l J xs->R J H'   | .er c z'=>EPost G zA E c z' H)):KP K G E it src σ H R
section
variable {lm:Bool}{X:Cx}{G:Gs}{E:XK}{N:Zj}{sc:ý}
theorem Pe{a:Zk}{H:Hp}{it:It}{P:L2.It->Hp->Prop}{r:R ⇑S}(d:(match r with | .ok l f=>∃ g,(kN l).bind (AX it)=↑g/\∀ J h,Ext a H h->aO a f h->RQ X.K a H h l J g->P J h | .er c f=>EPost G a E c f H)):∀ c i,r=.er c i->EPost G a E c i H:=λc i e=>by simp_all
theorem Ep{s:S}{ds:⇑D}(h:kN [s]=↑ds):∃ d,ds=[d]/\Lv s=↑d:=by
 cases s with
 |d x=>cases h;exact#[x,rfl,rfl]
 |fr a=>cases h;exact#[_,rfl,rfl]
 |_=>cases h
theorem Jt(g:ay X G E a e):PI X tg e (KP X.K G E .seq (.cons a .nil)):=by
 intro f s h H R I q;let(i,j,z,rr,k,n,ee,o):=q;rcases M.bind_some ee with ⟨m,z1,p,r⟩ | ⟨c,z1,p,r⟩
 .let(t,ht,e3):=M.ao r;cases e3;have hm:=lU ht;subst hm;let(u,hx,o):=o;let(ds,w,h2):=Õ.mp hx;let(d,rfl,A):=Ep w;cases d with
  |tup l =>
   cases h2;refine Hk g.pe f s h H R I #[i,j,z,_,k,n,p,t,rfl,λv C x1 aZ F=>?_];let(b,J,rfl,L,U):=(F.pl.d_ A).eH;exact#[b,rfl,#[J,(ak i C).jB L],o _ C x1 aZ λP B sub tup mv pa sf=>Em (tup _ _ L) (bg.move mv (show ∀ y∈u,P y from pa _ w _ È) U)]
  |lst l =>
   cases h2;refine oU g.pe f s h H R I #[i,j,z,_,k,n,p,t,rfl,λv C x1 aZ F=>?_];have Y:∀ {b:Ê}{J:⇑V},dA X.K _ b J->bg X.K _ u J->((H b=none/\C b=↑_)\/qY [t]=true)->∃ a,V.ref b=↥a/\(∃ u,jX X.K C a u)/\R _ C:=λ{b J} L U k5=>by
    exact#[b,rfl,#[J,(L.same (ak i C)).sq],o _ C x1 aZ λP B sub tup mv pa sf=>Bh (sf _ _ L k5) (bg.move mv (show ∀ y∈u,P y from pa _ w _ È) U)]
   cases t with
   |d x =>
    cases A;let(b,J,rfl,L,U):=Hd.jF (show Hd X.K _ _ v from F);exact Y L U (.inr rfl)
   |fr x =>
    cases A;let(b,J,rfl,k0,L,U,k3):=F;exact Y (dA.of (bx U L)) (k3.same (cL b _)) (.inl #[k0,U])
   |_=>cases A
  |_=>cases h2
 .exact oU g.pe f s h H R I #[i,j,z,_,k,n,p,(Pe o) c z1 r]
theorem tY{l:⇑S}{it:It}{a:⇑D}(h:(kN l).bind (AX it)=↑a):∃ ds,kN l=↑ds/\AX it ds=↑a:=Õ.mp h
theorem Er(x:XI lm X G E N sc){d a:Þ}{as:Ex}{n:Str}{p pos:Pos}(e:n="range")(f:glob sc n)(h:cH as)(g:Good X G E as [a]):PI X d (.Call (.Name n p) [a] [] pos) (KP X.K G E .rng1 as):=by
 subst e;let(i,k2,k3):=bM f;let(k,hs):=g.args h;rw[V4,Á] at hs;intro m s o H R I q;apply xi (x.glb _ i) (x.blt _ (-0)) k (bS hs.1 [] X.env) m s o H R I
 let(r,u,z,w,y,A,C,F):=q;refine#[r,u,z,w,y,A,C,?_];cases w with
 |er c J=>exact F
 |ok l J =>
  let(xs,hx,F):=F;intro vs H1 x1 aZ L;let(ds,h1,U):=tY hx;have hd:=kR L h1
  match ds,U with
  |[~~~j],U =>
   let(Y,U):=cm U;have Y:=kP.mp Y;cases U;let(v,rfl,h3):=hd.one;cases h3.cS;refine#[j,rfl,by omega,by omega,F _ H1 x1 aZ λP B sub tup mv pa sf=>?_]
   simpa using (En (K:=X.K) (B:=B) 0 j.toNat)
theorem Es(x:XI lm X G E N sc){d a b:Þ}{as:Ex}{n:Str}{p pos:Pos}(e:n="range")(f:glob sc n)(h:cH as)(g:Good X G E as [a,b]):PI X d (.Call (.Name n p) [a,b] [] pos) (KP X.K G E .rng2 as):=by
 subst e;let(k,k2,k3):=bM f;let(m,hs):=g.args h;rw[V4,V4,Á,Á] at hs;intro o s r H R I q;apply FA (x.glb _ k) (x.blt _ (-0)) m (by rw[bS hs.1,bS hs.2.1];rfl) (bS hs.2.1 [] X.env) o s r H R I
 let(u,y,z,A,C,F,ee,J):=q;refine#[u,y,z,A,C,F,ee,?_];cases A with
 |er c z1=>exact J
 |ok l z1 =>
  let(xs,hx,J):=J;intro vs H1 x1 aZ L;let(ds,h1,U):=tY hx;have hd:=kR L h1
  match ds,U with
  |[~~~i,~~~j],U =>
   let(Y,U):=cm U;have hi:=kP.mp Y.1;have Y:=kP.mp Y.2;cases U;let(v,w,rfl,h3,h4):=hd.two;cases h3.cS;cases h4.cS;exact#[i,j,rfl,by omega,J _ H1 x1 aZ λP B sub tup mv pa sf=>En i _]
theorem CP{s:S}{r:⇑S}{ds:⇑D}(h:kN (s::r)=↑ds):∃ x q,ds=x::q/\Lv s=↑x/\kN r=↑q:=by
 cases s with
 |d y =>
  let(q,e,rfl):=Ö.mp h;exact#[y,q,rfl,rfl,e]
 |fr y =>
  let(q,e,rfl):=Ö.mp h;exact#[_,q,rfl,rfl,e]
 |_=>cases h
theorem LW(h:kN l=↑[x,y]):∃ s t,l=[s,t]/\Lv s=↑x/\Lv t=↑y:=by
 cases l with
 |nil=>cases h
 |cons s r =>
  let(_,_,e,a,c):=CP h;cases e;cases r with
  |nil=>cases c
  |cons t r =>
   let(_,_,e,d,f):=CP c;cases e;cases r with
   |nil=>exact#[s,t,rfl,a,d]
   |cons u r =>
    let(_,_,e,_):=CP f;cases e
theorem Ju{s t:S}(h:qY [s]):qY [s,t]:=by
 match s,h with
 |.d (.lst _),_=>rfl
theorem Jv{s t:S}(h:qY [t]):qY [s,t]:=by
 match s with
 |.d (.lst _)=>rfl|.d .cq | .d (.bl _) | .d (~~~_) | .d (.str _) | .d (.tup _) | .d .dct | .fr _ | .z=>exact h|.ks _=>exact h
theorem Et{K:Å}{c:Zk}{H e:Hp}{t:S}{v:V}{a:⇑D}(f:nV K c H e t v)(h:Lv t=↑(.lst a)):∃ b g,v=↥b/\dA K (hz c e) b g/\bg K (hz c e) a g/\((H b=none/\e b=↑(.lst g))\/qY [t]):=by
 cases t with
 |d x =>
  cases h;let(b,g,rfl,i,j):=Hd.jF (show Hd K _ _ _ from f);exact#[b,g,rfl,i,j,.inr rfl]
 |fr x =>
  cases h;let(b,g,rfl,k,i,j,l):=f;exact#[b,g,rfl,dA.of (bx j i),l.same (cL b _),.inl #[k,j]]
 |_=>cases h
theorem Eu(x:XI lm X G E N sc){tg a b:Þ}{as:Ex}{n:Str}{p pos:Pos}(ht:gj tg=true)(hn:n="zip")(hg:glob sc n=true)(hL:cH as=true)(g:Good X G E as [a,b]):PI X tg (.Call (.Name n p) [a,b] [] pos) (KP X.K G E .zip as):=by
 subst hn;let(k1,k2,k3):=bM hg;let(ha,hs):=g.args hL;rw[V4,V4,Á,Á] at hs;cases tg with
 |Tuple es ek ep =>
  intro aa s σ H R I q;apply N4 (x.glb _ k1) (x.blt _ (-0)) ha (by rw[bS hs.1,bS hs.2.1];rfl) (bS hs.2.1 [] X.env) aa s σ H R I
  let(zA,ρ,z,rr,rel,st,ee,po):=q;refine#[zA,ρ,z,rr,rel,st,ee,?_];cases rr with
  |er c z1=>exact po
  |ok l z1 =>
   let(xs,hx,po):=po;intro vs H1 x1 aZ rvs;let(ds,h1,h2):=tY hx;have hd:=kR rvs h1
   match ds,h2 with
   |[.tup a,.tup b],h2 =>
    cases h2;let(v,w,rfl,h3,h4):=hd.two;let(p1,us,rfl,m1,m2):=h3.eH;let(p2,ws,rfl,m3,m4):=h4.eH;exact#[false,p1,p2,rfl,#[us,(ak zA H1).jB m1],#[ws,(ak zA H1).jB m3],po _ H1 x1 aZ λP B sub tup mv pa sf=>Eo (λ_ x=>ag.jB x (tup _ _ m1)) (bg.move mv (show ∀ y∈a,P y from pa _ h1 _ È) m2) (λ_ x=>ag.jB x (tup _ _ m3)) (bg.move mv (show ∀ y∈b,P y from pa _ h1 _ (Î _ È)) m4)]
   |[.lst a,.lst b],h2 =>
    cases h2;let(t1,t2,rfl,e1,e2):=LW h1;cases rvs with
    |cons rv1 rn =>
     cases rn with
     |cons rv2 rn =>
      cases rn;let(p1,us,rfl,m1,m2,m3):=Et rv1 e1;let(p2,ws,rfl,m4,m5,m6):=Et rv2 e2;refine#[true,p1,p2,rfl,#[us,(m1.same (ak zA H1)).sq],#[ws,(m4.same (ak zA H1)).sq],po _ H1 x1 aZ λP B sub tup mv pa sf=>Eo (λ_ x=>((sf _ _ m1 (m3.imp id λq=>?_)).same x).sq) (bg.move mv (show ∀ y∈a,P y from pa _ h1 _ È) m2) (λ_ x=>((sf _ _ m4 (m6.imp id λq=>?_)).same x).sq) (bg.move mv (show ∀ y∈b,P y from pa _ h1 _ (Î _ È)) m5)]
      .exact Ju q
      .exact Jv q
 |_=>cases ht
theorem vx:∀ {a:⇑D}{i n:Nat}{d:D},(iB a n)[i]?=↑d->∃ x,a[i]?=↑x/\d=.tup [~~~((n + i:Nat):Int),x]
 |[],_,_,_,e=>by simp[iB] at e|x::r,0,n,d,e=>by simp[iB] at e;exact#[x,rfl,e.symm]
 |x::r,i + 1,n,d,e=>by
  let(u,c,f):=vx    (by simpa [iB] using e)
  exact#[u,c,by grind]
theorem vz:∀ (a:⇑D) (n:Nat),(iB a n).length=a.length
 |[],_=>rfl|x::r,n=>by simp[iB,ã,vz r]
theorem Bj(h:∀ H,ag B H->Aj b X.K H a us)(r:bg X.K B xs us):LV X.K (SE b X.K a) (iB xs 0) B where
 go:=λi H x hi=>by
  rw[vz] at hi;exact#[us,us[i]'(by rw[r.length];exact hi),h H x,⋯]
 yld:=λi H v H' zA z d x st y e=>by
  let(T,rfl,hT,y):=y;let(d1,e1,rfl):=vx e;let(w1,f1,g1):=r.get e1;have y1:=y us w1 (h H (ag.trans x (ak zA H))) f1;subst y1;have sm:ag H (upd H T (.tup [~~~i,w1])):=ag.new _ hT;exact#[sm,λC c t=>Hd.tup (t _ _ ((st.same sm).A2 (dU.of aB))) (.cons (by rw[X6];exact Hd.int) (.cons (g1.same c) .nil))]
 stop:=λH x=>#[us,h H x,by rw[vz,r.length]]
theorem LX(h:kN l=↑[d]):∃ s,l=[s]:=by
 cases l with
 |nil=>cases h
 |cons s r =>
  cases r with
  |nil=>exact#[s,rfl]|cons t q=>exfalso;cases s <;> cases t <;> first | (subst h) | (simp only[kN,Option.map_map,map_eq_some_iff] at h;simp_all)
theorem Bk(x:XI lm X G E N sc){tg a:Þ}{as:Ex}{n:Str}{p pos:Pos}(ht:gj tg=true)(hn:n="enumerate")(hg:glob sc n=true)(hL:cH as=true)(g:Good X G E as [a]):PI X tg (.Call (.Name n p) [a] [] pos) (KP X.K G E .enum as):=by
 subst hn;let(k1,k2,k3):=bM hg;let(ha,hs):=g.args hL;rw[V4,Á] at hs;cases tg with
 |Tuple es ek ep =>
  intro aa s σ H R I q;apply Li (x.glb _ k1) (x.blt _ (-0)) ha (bS hs.1 [] X.env) aa s σ H R I
  let(zA,ρ,z,rr,rel,st,ee,po):=q;refine#[zA,ρ,z,rr,rel,st,ee,?_];cases rr with
  |er c z1=>exact po
  |ok l z1 =>
   let(xs,hx,po):=po;intro vs H1 x1 aZ rvs;let(ds,h1,h2):=tY hx;have hd:=kR rvs h1
   match ds,h2 with
   |[.tup a],h2 =>
    cases h2;let(v,rfl,h3):=hd.one;let(p1,us,rfl,m1,m2):=h3.eH;exact#[false,p1,rfl,#[us,(ak zA H1).jB m1],po _ H1 x1 aZ λP B sub tup mv pa sf=>Bj (λ_ x=>ag.jB x (tup _ _ m1)) (bg.move mv (show ∀ y∈a,P y from pa _ h1 _ È) m2)]
   |[.lst a],h2 =>
    cases h2;have fin:∀ (b:Ê) (ys:⇑V),dA X.K _ b ys->bg X.K _ a ys->((H b=none/\H1 b=↑_)\/qY l=true)->∃ bb p,[V.ref b]=[↥p]/\(∃ xs,Aj bb X.K H1 p xs)/\R (SE bb X.K p) H1:=λb ys k1 k2 k5 =>
     #[true,b,rfl,#[ys,(k1.same (ak zA H1)).sq],po _ H1 x1 aZ λP B sub tup mv pa sf=>Bj (λ_ x=>((sf _ _ k1 k5).same x).sq) (bg.move mv (show ∀ y∈a,P y from pa _ h1 _ È) k2)]
    let(t,rfl):=LX h1;cases rvs with
    |cons rv rn =>
     cases rn;cases t with
     |d x =>
      cases h1;let(b,ys,rfl,k1,k2):=Hd.jF (show Hd X.K _ _ _ from rv);exact fin _ _ k1 k2 (.inr rfl)
     |fr x =>
      cases h1;let(b,ys,rfl,k0,k1,k2,k3):=rv;exact fin _ _ (dA.of (bx k2 k1)) (k3.same (cL b _)) (.inl #[k0,k2])
     |_=>cases h1
 |_=>cases ht
abbrev EF:XK:=λ_ _ _=>False
def T9(K:Å)(G:Gs):Ex->TT
 |.nil=>Aw|.cons c _=>tT K G EF c|_=>λ_ _ _=>False
theorem CQ(h:turns f (x::r) z=↑(.ok a d)):∃ o e l,f x z=↑(.ok o e)/\turns f r e=↑(.ok l d)/\a=(match o with | ↑y=>y::l | none=>l):=by
 rcases M.bind_some (show Zd _ _ z=_ from h) with ⟨o,e,g,i⟩ | ⟨c,e,g,i⟩
 .rcases M.bind_some i with ⟨l,j,k,m⟩ | ⟨c,j,k,m⟩
  .cases m;exact#[o,e,l,g,k,rfl]
  .cases m
 .cases i
theorem LY{a:Zk}{J:L2.It}{f g:⇑D}{j:Hp}{z1 z2:Z}{p:iU}{k el:Ex}{n:Env}{r:L2.St}{Q:VK}(IT:Pd X.K a J f j)(hm:f.length<=most)(rel0:fE X.K a j n r)(len:n.length=r.length)(aZ:aO a z1 j)
  (hc:k=.nil\/∃ c,k=.cons c .nil) (e:turns (kQ (ev G.F k) (ev G.F el) p n) f z1=↑(.ok g z2))
  (fin:∀ H2 u l,Ext a j H2->aO a z2 H2->bg X.K (hz a H2) g u->H2 l=none->Q ↥l (upd H2 l (.lst u))):xq J r j (gP X.K p) (T9 X.K G k) (tI X.K G EF el) Q:=by
 refine#[λi m u H=>m=f.length - i/\i<=f.length/\u.length<=i/\∃ A z B,Ext a j H/\aO a z H/\bg X.K (hz a H) A u/\turns _ (f.drop i) z=↑(.ok B z2)/\g=A++B,
  #[f.length,rfl,Wg _,Wg _,[],z1,g,Ext.refl,aZ,.nil,e,rfl],?_]
 rintro i m u H ⟨rfl,hi,hv,A,z,B,x,st,hd,et,ey⟩;by_cases C:i < f.length
 .refine .inr #[IT.go i H x C,VA hv (Ñ C (d9 hm)),
   λws I=>ws.length<=i + 1/\∃ A z B,Ext a j I/\aO a z I/\bg X.K _ A ws/\turns _ _ z=↑_/\g=A++B,
   λws I q=>#[_,_u C (Xs _),rfl,C,q.1,q.2],λv I y=>?_]
  let(sm,hx):=IT.yld i H v I z f[i] x st y ⋯
  rw[VI C] at et;let(o,z3,l,f1,f2,f3):=CQ et;let(ρ',b1,f4):=M.ao (show Zd _ _ z=_ from f1);have x' :=x.trans (Ext.of sm);have st':=st.same sm;refine El b1 (rel0.mono x') len hx λσ' L len'=>?_;have yes:∀ {za:Z}{Ha:Hp},Ext a I Ha->aO a za Ha->Zd _ (λy=>Zd (Zf (pl y)) λy=>Ze ↑y) za=↑(.ok o z3)->tI X.K G EF el σ' Ha (λy H4=>(u++[y]).length<=i + 1/\∃ A z B,Ext a j H4/\aO a z H4/\bg X.K (hz a H4) A (u++[y])/\turns _ _ z=↑(.ok B z2)/\g=A++B):=λ{za Ha} P U ea=>by
   refine cK (L.mono P) U ea (λc z1 h=>by cases h) λm z4 e4=>?_
   let(d,p1,e5):=M.ao e4;let(s1,rfl,q1):=bZ p1;cases e5;refine#[s1,rfl,λw H4 x4 G4 rv=>#[by simp;exact hv,A++[d],z3,l,(x'.trans P).trans x4,G4,?_,f2,by rw[ey,f3,Ø];rfl]]
   exact(hd.same (ag.trans (gx sm) (ag.trans P.same x4.same))).append (.cons (rv.pl.d_ q1) .nil)
  rcases hc with rfl | ⟨c,rfl⟩
  .have ty:T9 X.K G .nil=Aw:=rfl;rw[ty];exact yes Ext.refl st' f4
  .rcases M.bind_some (show Zd _ _ z=_ from f4) with ⟨m,za,e1,Y⟩ | ⟨q,za,e1,Y⟩
   .rcases M.bind_some (show Zd _ _ z=_ from e1) with ⟨m',zb,e3,e4⟩ | ⟨q,zb,e3,e4⟩
    .let(s,hs,e5):=M.ao e4;cases e5;have hm':=lU hs;subst hm';show tT X.K G EF c σ' I _;have tb:∃ b,s=.d (.bl b):=by
      cases s with
      |d y=>cases y with
       |bl b=>exact#[b,rfl]|_=>cases Y
      |_=>cases Y
     let(b,rfl):=tb;refine#[a,ρ',z,_,L,st',e3,b,rfl,λHa P U=>?_];cases b with
     |true =>
      rw[Zu rfl];exact yes P U Y
     |false =>
      rw[Zv ï];cases Y;exact#[Í hv (le_succ _),A,z3,l,x'.trans P,U,hd.same (ag.trans (gx sm) P),f2,by rw[ey,f3]]
    .cases e4
   .cases Y
 .have hi':i=f.length:=_m hi (Y9 C)
  subst hi';rw[drop_length] at et;cases et;refine .inl #[IT.stop H x,λl hl=>fin H u l x st (by rw[ey,ó];exact hd) hl]
end
section
variable {K:Å}{zA:Zk}{z:Z}{H H2:Hp}{P:Ê}{q:Str}
theorem Bl(a:iT P H H2)(t:Tab H P q)(c:Tab H2 P q):Ext zA H H2:=by
 refine#[λb o h=>?_,λb d h=>?_]
 .let(f,g):=cT h;have i:=dI h;let(d,j,_):=t;exact bx (a.same b o (λz=>by grind) f) g i
 .by_cases k:b=P
  .subst k;let(l,e,_):=c;exact#[l,e]
  .exact#[d,a.same b _ k h]
theorem Ew(d:iT P H H2)(t:Tab H P q)(f:Tab H2 P q)(g:∀ p∈TB.tb,p.1=P->p.2=q)(i:aO zA z H):aO zA z H2:=by
 let(j,m,_):=t;have ne:∀ {b:Ê}{o:HO},H b=↑o->(∀ l,o≠.dk l)->b≠P:=λ{b o} n r z=>by grind
 refine#[?_,λp s=>?_]
 .have h:=i.zat;cases zA with
  |none=>cases z with
   |none=>trivial|some _=>exact h.elim
  |some a=>cases z with
   |none=>exact h.elim
   |some pr =>
    have u :=h;exact d.same _ _ (ne u λ_ z=>nomatch z) u
 .by_cases v:p.1=P
  .rw[g p s v,v];exact f
  .let(w,e,x,k):=i.tab p s;refine#[w,d.same _ _ v e,x,λpos c y=>?_];let(A,n,r):=k pos c y;exact#[A,n,d.same _ _ (ne r λ_ z=>nomatch z) r]
theorem zf:∀ l:Zh,(aF N l).length<=l.length
 |[]=>Ò _
 |j::q=>by
  have a:=zf (N:=N) q;unfold aF;split
  .simp_all
  grind
theorem nq(rel:fE K zA H ρ σ):∀ {au:Zh}{ss:⇑S},wZ ρ au=↑ss->(aF N au).length=au.length ->
  ∃ vs,wF K zA H ss vs/\vs.length=(aF N au).length/\∀ (i:Nat) (x:Str) (v:V),((aF N au).map (·.1))[i]?=↑x->vs[i]?=↑v->∃ j:Nat,N[j]?=↑x/\σ[j]?=↑↑v
 |[],ss,h,_=>by
  cases h;exact#[[],.nil,rfl,λi x v h=>by simp[aF] at h]
 |i::au,ss,h,hl=>by
  have h:(match ρ[i]? with | ↑↑s=>(wZ ρ au).map _ | _=>none)=↑ss:=h
  have le:=zf (N:=N) au;obtain⟨s,r,e2,h3,rfl⟩:∃ s r,ρ[i]?=↑_/\wZ ρ au=↑r/\ss=s::r:=by
   split at h
   .rename_i s e;let(r,h3,h4):=Ö.mp h;exact#[s,r,e,h3,h4.symm]
   .cases h
  let(v,k1,k2):=rel i s e2;cases hN:N[i]? with
  |none =>
   unfold aF at hl;rw[hN] at hl;simp[ã] at hl;omega
  |some y =>
   unfold aF at hl ⊢;rw[hN] at hl ⊢;let(vs,a1,a2,a3):=nq rel   h3 (_y hl)
   refine#[_,.cons k2 a1,by simp[a2],λj x u b1 b2=>?_]
   cases j with
   |zero =>
    simp only[Xc,YT,XZ] at b1 b2;subst b1;subst b2;exact#[i,hN,k1]
   |succ j=>exact a3 j x u (b1) (b2)
theorem pY:∀ {ss:⇑S}{vs:⇑V},wF K zA H ss vs->fE K zA H (ss.map some) (vs.map some)
 |[],_,h,i,s,e=>by simp at e
 |a::ss,_,h,i,s,e=>by
  cases h with
  |cons h1 h2 =>
   cases i with
   |zero =>
    simp only[Xc,YT,XZ] at e;subst e;exact#[_,rfl,h1]
   |succ i =>
    let(v,k1,k2):=pY h2 i s (e);exact#[v,k1,k2]
end
section
variable {lm:Bool}{X:Cx}{G:Gs}{E:XK}{N:Zj}{sc:ý}
end
theorem gk{env:Xw}{a:Yh}(c:a≠.free):∀ {d:⇑(Str × Yh)}{x:Str},d.lookup x=↑a ->
  (d.map λ(n,k)=>if (k == Vj&&env.scope.kind == .function&&env.kindOf n == ↑.cell) then(n,WG) else(n,k)).lookup x=↑a
 |[],_,h=>by simp at h
 |(n,k)::r,x,h=>by
  have e:=@gk env a c r x;show X1 x ((if (k == Vj&&env.scope.kind == .function&&env.kindOf n == ↑_)=true then(n,WG) else(n,k))::_)=_;cases f:x == n with
  |true =>
   simp_all
  |false =>
   simp[Wf,f] at h;by_cases g:(k == Vj&&env.scope.kind == .function&&env.kindOf n == ↑.cell)=true
   .rw[Zu g];simp only[Wf,f];exact e h
   .rw[Zv g];simp only[Wf,f];exact e h
section
variable {lm:Bool}{X:Cx}{G:Gs}{E:XK}{N:Zj}{sc cw:ý}{on:Zj}{cs:⇑(Str × Nat)}
structure sX(cw sc:Scope)(N on:⇑Str)(cs:⇑(Str × Nat)):Prop where
 kind:cw.kind=.function
 nocell:∀ y∈cw.names,y.2≠.cell
 locs:∀ y∈cw.names,y.2=.local->cw.names.lookup y.1=↑.local
 frees:∀ y∈cw.names,y.2=.free->(sc.names.lookup y.1=↑.cell\/sc.names.lookup y.1=↑.free)
 captd:∀ p∈cs,N[p.2]?=↑p.1/\cw.names.lookup p.1=↑.free
 own:∀ x∈on,cw.names.lookup x=↑.local
 nd:(on++cs.map (·.1)).Nodup
theorem vA(h:kg cw sc N on cs):sX cw sc N on cs:=by
 refine BB.b7 h λa c d e f g i=>?_;rw[VT] at c d e f g;refine#[by simpa using a,λy j=>by simpa using c y j,λy j k=>?_,λy j l=>?_,λp m=>by simpa using f p m,λx n=>by simpa using g x n,ZA i]
 .have:=d y j;simp_all
 .have:=e y j
  simp_all
theorem kh(x:XI lm X G E N sc)(c:sX cw sc N on cs):dP X cw on cs:=#[c.kind,c.nocell,c.locs,λy a d=>x.cel _ (c.frees y a d),λp e=>by rw[x.hN];exact c.captd p e]
theorem nr(x:XI lm X G E N sc)(c:sX cw sc N on cs)(cl:⇑(Str × Ê))(C:Ê)(s:É)(H:Hp)(fp:Zp):XI false (bq X (bt on cs) cw cl C s H fp) G EF (on++cs.map (·.1)) cw where
 gok:=x.gok
 num:=x.num
 blt:=x.blt
 hN:=rfl
 nd:=c.nd
 vis:=λy hy=>by
  rcases Ð.mp hy with h | h
  .exact .inl (gk (-0) (c.own y h))
  .let(p,hp,rfl):=Ç.mp h;rcases ix (env:=X.env) (c.captd p hp).2 with h | h
   .exact .inr (.inl h)
   .exact .inr (.inr h)
 glb:=λy hy=>gk (-0) hy
 cel:=λy hy=>by
  rcases hy with h | h
  .exact .inl (gk (-0) h)
  .exact ix (env:=X.env) h
 calm:=x.calm
 room:=x.room
 pas:=Ol
 lam:=λh=>nomatch h
theorem lV(x:XI lm X G E N sc)(c:sX cw sc N on cs)(cl:⇑(Str × Ê))(C:Ê)(s:É)(H:Hp)(fp:Zp):Ek (bq X (bt on cs) cw cl C s H fp) (on++cs.map (·.1)) (λy=>on.contains y) where
 hN:=rfl
 nd:=c.nd
 lc:=λy hy=>.inl (gk (-0) (c.own y (by simpa using hy)))
 fn:=λy hy=>.inr (gk (-0) (c.own y (by simpa using hy)))
 calm:=x.calm
theorem vB:∀ {a:Zh},(aF N a).length=a.length->(aF N a).map (·.2)=a
 |[],_=>rfl
 |i::r,h=>by
  have le:∀ l ,(aF N l).length<=l.length:=by
   intro l
   induction l with
   |nil=>exact Ò _
   |cons j q c =>
    unfold aF;split
    .grind
    grind
  unfold aF at h ⊢;split at h
  .rw[Xc,vB (_y h)]
  grind
theorem Jw(a:fE X.K c H d σ)(h:cs.map (·.2)=f):fE X.K c H (ÿ on.length none++f.map λi=>(d[i]?).getD none) (fV on cs σ) /\
  (ÿ on.length (none:Option S)++f.map λi=>(d[i]?).getD none).length=(fV on cs σ).length:=by
 subst h;constructor
 .intro j s e
  delta fV
  by_cases g:j < on.length
  .rw[WZ (by simp_all)] at e
   simp_all
  .rw[Vm (by simp_all),XX,å,å] at e
   rw[Vm (by simp_all),Ã,å]
   cases k:cs[j - on.length]? with
   |none=>rw[k] at e;simp at e
   |some p =>
    rw[k] at e;simp[map_some,XZ] at e;let(v,n,q):=a p.2 s (by
     cases m:d[p.2]? with
     |none=>rw[m] at e;cases e
     |some o=>simp_all);exact#[v,by simp[n],q]
 .delta fV
  simp
theorem nu(h:fF e=true)(env:Xw)(x:Ä):Ww e env x=pure x:=by
 cases e with
 |Set _ _ _=>cases h
 |_=>rfl
def lW(X:Cx)(G:Gs)(E:XK)(x:Ex)(elt tg iter:Þ)(ifs:Zm)(cw:ý):Prop:=∃ (own:Zj) (a:⇑(Str × Nat)) (c:TI) (g:TG) (d:TT) (e:TE),dP X cw own a/\PI X tg iter c /\
 (∀ cl C s H f,PG (bq X (bt own a) cw cl C s H f) tg g)/\(∀ cl C s H f,MU (bq X (bt own a) cw cl C s H f) ifs d)/\(∀ cl C s H f,PE (bq X (bt own a) cw cl C s H f) elt e) /\
 (∀ x,Ww iter X.env x=pure x)/\∀ h H Q,tI X.K G E x h H Q->Hz own a c g d e h H Q
theorem RS(x:XI lm X G E N sc){p:iU}{it:It}{a d g:Ex}{i:Zh}{j n o:Þ}{r:Zm}(c:sX cw sc N on cs)(u:cs.map (·.2)=i)(hp:eD (on++cs.map (·.1)) (λy=>on.contains y) p n)
  (hi:PI X n o (KP X.K G E it a)) (v:fF o) (w:(d=.nil/\r=[])\/∃ q f,d=.cons q .nil/\r=[f]/\∀ cl C s H A,PT (bq X (bt on cs) cw cl C s H A) f (tT X.K G EF q))
  (he:∀ cl C s H A,PE (bq X (bt on cs) cw cl C s H A) j (tI X.K G EF g)):lW X G E (.comp on.length i p it a d g) j n o r cw:=by
 refine#[on,cs,_,gP X.K p,_,_,kh x c,hi,λcl C s H A=>Be (lV x c cl C s H A) hp,(by
  rcases w with ⟨rfl,rfl⟩ | ⟨q,f,rfl,rfl,h⟩
  .exact λcl C s H A=>DK
  .exact λcl C s H A=>DL (h cl C s H A):∀ cl C s H A,MU _ r (T9 X.K G d)),he,nu v X.env,λσ H Q q=>?_];let(B,ρ,z,rr,F,st,e,po):=q;rcases M.bind_some e with ⟨m,z1,I,L⟩ | ⟨k,z1,I,L⟩
 .let(xs,hx,P):=M.ao L;refine#[B,ρ,z,_,F,st,I,xs,hx,λJ H1 x1 aZ U=>?_];split at P
  .rename_i hm;rcases M.bind_some P with ⟨ys,z2,Y,e5⟩ | ⟨k,z2,Y,e5⟩
   .cases e5;let(r1,r2):=Jw  (F.mono x1) u;refine LY (U.ok) hm r1 r2 aZ (by rcases w with ⟨h,_⟩ | ⟨q,_,h,_⟩;exact .inl h;exact .inr #[q,h]) (by
     delta M.calm at Y
     split at Y
     .rename_i h;cases Y;exact h
     .cases Y) λH2 vs l x2 eF hd hl=>?_
    exact bQ po (x1.trans x2) eF _ _ (ag.new _ hl) (dB eF hd hl)
   .delta M.calm at Y
    split at Y <;> cases Y
  .cases P
 .exact#[B,ρ,z,_,F,st,I,(b9 po) k z1 L]
theorem lW.good{pos:Pos}(a:X.calm)(h:lW X G E x elt tg iter ifs cw):ay X G E x (.ListComp elt [#[tg,iter,ifs,0]] cw pos):=by
 let(own,c,d,g,e,f,i,j,k,l,m,n,o):=h;exact aK (PE.imp (DN a i j k l m n) o) rfl
theorem aM(h:(!cH x)):cH x=false:=by simpa using h
theorem Ey(c:cH x)(g:Good X G E x [e]):∃ a,x=.cons a .nil/\ay X G E a e:=by
 cases x with
 |nil=>cases (show [e]=[] from g)
 |cons a r =>
  let(d,f,h,i,j,k,l):=g;cases h;cases r with
  |nil=>exact#[a,rfl,j]|cons b q=>let(e,f,h,_):=l;cases h
  |_=>cases k
 |_=>cases c
theorem rh{lm:Bool}{G:Gs}{own:Nat}{d:Zh}{p:iU}{it:It}{e g i:Ex}(j:(∀ {X:Cx}{E:XK}{N:Zj}{sc:ý},XI lm X G E N sc->∀ {k:Zm},mt lm G.fns G.nums e sc N k->Good X G E e k))(l:(∀ {X:Cx}{E:XK}{N:Zj}{sc:ý},XI false X G E N sc->∀ {k:Zm},mt false G.fns G.nums g sc N k->Good X G E g k))(m:(∀ {X:Cx}{E:XK}{N:Zj}{sc:ý},XI false X G E N sc->∀ {k:Zm},mt false G.fns G.nums i sc N k->Good X G E i k))
  {X:Cx}{E:XK}{N:Zj}{sc:ý} (x:XI lm X G E N sc) {o u v:Þ}{w:Zm}{cw:ý} (h:(dg u).length == own&&(aF N d).length == d.length&&kg cw sc N (dg u) (aF N d)&&eD (dg u++(aF N d).map (·.1)) (λx=>(dg u).contains x) p u&&cH e&&!cH i&&cH g&&w.length<=1&&noStar o&&fF v&&w.all (λc=>!LR c) &&
    (match it with
    |.seq=>mt lm G.fns G.nums e sc N [v]|.rng1=>opt (Gi v) λr=>r.1.1 == ("range":Str)&&glob sc r.1.1&&mt lm G.fns G.nums e sc N [r.1.2.2.1]|.rng2=>opt (Gj v) λr=>r.1.1 == ("range":Str)&&glob sc r.1.1&&mt lm G.fns G.nums e sc N [r.1.2.2.1,r.1.2.2.2.1]|.zip=>opt (Gj v) λr=>r.1.1 == ("zip":Str)&&glob sc r.1.1&&gj u&&mt lm G.fns G.nums e sc N [r.1.2.2.1,r.1.2.2.2.1]|.enum=>opt (Gi v) λr=>r.1.1 == ("enumerate":Str)&&glob sc r.1.1&&gj u&&mt lm G.fns G.nums e sc N [r.1.2.2.1]
    )&&mt false G.fns G.nums g cw (dg u++(aF N d).map (·.1)) w&&mt false G.fns G.nums i cw (dg u++(aF N d).map (·.1)) [o]):lW X G E (.comp own d p it e g i) o u v w cw:=by
 simp only[Á,Zx,Zw] at h;obtain⟨⟨⟨⟨⟨⟨⟨⟨⟨⟨⟨⟨⟨y,h2⟩,h3⟩,h4⟩,z⟩,h6⟩,A⟩,h8⟩,h9⟩,B⟩,F⟩,I⟩,J⟩,L⟩:=h;subst y;have c:=vA h3;refine RS x c (vB h2) h4 (by
  cases it with
  |seq =>
   let(a,rfl,P):=Ey z (j x I);exact Jt P
  |rng1 =>
   obtain⟨⟨⟨n,_,a,_⟩,rfl⟩,-,I⟩:=ax I;simp[Á,Zx] at I;exact Er x I.1.1 I.1.2 z (j x I.2)
  |rng2 =>
   obtain⟨⟨⟨n,_,a,b,_⟩,rfl⟩,-,I⟩:=ax I;simp[Á,Zx] at I;exact Es x I.1.1 I.1.2 z (j x I.2)
  |zip =>
   obtain⟨⟨⟨n,_,a,b,_⟩,rfl⟩,-,I⟩:=ax I;simp[Á,Zx] at I;exact Eu x I.1.2 I.1.1.1 I.1.1.2 z (j x I.2)
  |enum =>
   obtain⟨⟨⟨n,_,a,_⟩,rfl⟩,-,I⟩:=ax I;simp[Á,Zx] at I;exact Bk x I.1.2 I.1.1.1 I.1.1.2 z (j x I.2)) B (by
  match w,h8,F,J with
  |[],_,_,J =>
   cases g with
   |nil=>exact .inl #[rfl,rfl]|cons a r=>cases J
   |_=>cases A
  |[f],_,F,J =>
   cases g with
   |nil=>cases J
   |cons a r =>
    have Y:(noStar f&&!cH a&&cH r&&mt false G.fns G.nums a cw _ [f]&&mt false G.fns G.nums r cw _ [])=true:=J;simp only[Á] at Y;have rn:r=.nil:=by
     cases r with
     |nil=>rfl|cons b q=>cases Y.2
     |_=>cases Y.1.1.2
    subst rn;simp only[V4,all_nil,Bool.and_true] at F;refine .inr #[a,f,rfl,rfl,λcl C s H U=>?_];let(e',k,he,ns,P,lr,gr):=l (nr x c cl C s H U) J;cases he;exact P.pt (CN F)
   |_=>cases A) λcl C s H U=>?_;exact(aA (aM h6) (m (nr x c cl C s H U) L)).pe
theorem vC{n:Str}(h:aG n):(n == ("__debug__":Str))=false:=by
 delta aG at h
 simp only[Á,ò] at h;exact h.1
theorem rW{K:Å}{H a:Hp}(c:ag H a):∀ {l:⇑D}{f:⇑V}{g:⇑⇑D},bg K H l f->l.mapM wY=↑g->∃ rows:⇑⇑V,VX (λy i=>∃ b,y=V.ref b/\dU K a b i) f rows/\bg K H g.flatten rows.flatten
 |[],_,_,h,e=>by
  rw[h.cC];simp at e;subst e;exact#[[],.nil,.nil]
 |d::l,_,_,h,e=>by
  let(v,r,rfl,j,k):=h.bj;simp[mapM_cons,bind,Õ] at e;let(m,n,g,o,q):=e;cases q;let(rows,p,s):=rW c k o;cases d with
  |tup t =>
   cases n;let(b,u,rfl,w,x):=j.eH;exact#[_,.cons #[b,rfl,c.jB w] p,x.append s]
  |_=>cases n
theorem zg(x:XI lm X G E N sc)(c:ay X G E a iter){Q:VK}(q:tI X.K G E (.flat a) σ H Q):IB X.K (tI X.K G E a) σ H Q:=by
 let(f,ρ,z,rr,g,h,e,i):=q;refine cK g h e (b9 i) λm z1 j=>?_;let(xs,k,n):=M.ao j;let(d,o,r):=Õ.mp k;let(s1,rfl,s):=bZ o;cases n;refine#[s1,rfl,λv u w aZ y=>?_];cases d with
 |tup l =>
  let(rs,A,B):=Õ.mp (show(l.mapM wY).bind _=_ from r);let(C,F):=cm B;cases F;let(b,I,rfl,J,L):=(y.pl.d_ s).eH;let(rows,p,P):=rW (ak f u) L A;refine#[b,I,rows,rfl,(ak f u).jB J,p,?_,λD Y=>?_]
  .rw[P.length];exact Í C (-0)
  .exact bQ i w aZ _ _ (ag.new _ Y) (dB aZ P Y)
 |_=>cases r
theorem Pf(x:XI lm X G E N sc)(c:sX cw sc N [n,m] [])(d:aG n)(e:aG m)(f:fF iter)(g:ay X G E a iter):ay X G E (.flat a) (eC n m h i py j iter cw k) :=
 aK (PE.imp (Ln x.calm (kh x c) (c.own n È) (c.own m ⋯) (vC d) (vC e) g.pe (nu f X.env)) λl H Q q=>zg x g q) rfl
theorem rX{K:Å}{H a:Hp}(c:ag H a):∀ {l:⇑D}{f:⇑V}{g:⇑Zl},bg K H l f->D5 l=↑g->VX (λy ks=>∃ b,y=V.ref b/\dU K a b (ks.map V.int)) f g
 |[],_,_,h,e=>by rw[h.cC];cases e;exact .nil
 |d::l,_,_,h,e=>by
  let(v,r,rfl,i,j):=h.bj;let(k,m,n):=Õ.mp (show(F7 d).bind _=_ from e);let(q,o,rfl):=Ö.mp n;refine .cons ?_ (rX c j o);cases d with
  |tup t =>
   let(b,p,rfl,s,u):=i.eH;let(rfl,_):=g6 (show iV t=↑k from m) u;exact#[b,rfl,c.jB s]
  |_=>cases m
theorem RT{K:Å}{a:Zk}{z:Z}{H:Hp}{d:Ê}{c:⇑Zl}(e:aO a z H)(f:a≠↑d)(h:pG K H d c):pG K (hz a H) d c:=by
 let(g,i,j,k,l):=h;exact#[g,bx i f,j,λx m=>e.A2 (k x m),l]
theorem LZ(x:XI lm X G E N sc){f p2 g h:Pos}(c:sX cw sc N [n] [])(i:aG n)(j:fF iter)(o:ay X G E a iter):ay X G E (.dkeys a) (.DictComp (.Name n f) (.Constant (.bool true) k p2) [#[.Name n g,iter,[],0]] cw h):=by
 refine aK (PE.imp (IA x.calm (Nat.lt_of_succ_lt (Av x.room)) (kh x c) (c.own n È) (vC i) o.pe (nu j X.env)) λσ H Q q=>?_) rfl;let(p,ρ,z,rr,r,s,e,u):=q;refine cK r s e (b9 u) λm z1 w=>?_;let(y,A,B):=M.ao w;let(d,C,F):=Õ.mp A;let(s1,rfl,I):=bZ C;cases B;refine#[s1,rfl,λv J K aZ L=>?_];cases d with
 |lst l =>
  let(b,P,rfl,U,k2):=(L.pl.d_ I).jF;exact#[b,P,y,rfl,(U.same (ak p J)).sq,rX (ak p J) k2 F,λd H2 Y hn ok=>bQ u K aZ _ _ Y #[d,rfl,RT (aZ.same Y) (aZ.vf hn) ok]]
 |_=>cases F
theorem Pg(o:Bool)(x:XI lm X G E N sc){p pos:Pos}(f:N[i]?=↑n)(g:aG n)(j:ay X G E a e):ay X G E (.memk o a i) (.Compare e [Iy o] [.Name n p] pos):=by
 have l:=g;unfold aG at l;simp only[Á,ò] at l;have pv:=eE   (pos:=p) (by rw[x.hN];exact f) (x.vis n (ë f)) l.1 l.2
 suffices key:∀ r H Q,tI X.K G E _ r H Q->MQ _ _ _ r H Q by
  refine#[PE.imp (yw (tL o (Av x.room)) j.pe pv rfl) key,λ_=>PT.imp (oV (tL o (Av x.room)) j.pe pv rfl) λr H Q q=>?_,λop vs p h=>by cases h]
  let(s,u,z,y,A,B,e,C):=q;exact key r H _ #[s,u,z,y,A,B,e,y8 C]
 intro r H Q q;let(s,u,z,y,A,B,e,C):=q;refine cK A B e (b9 C) λm z1 F=>?_;let(k,g1,e2):=M.ao F;let(d,h3,I):=Õ.mp g1;let(s1,rfl,q1):=bZ h3;let(J,L,e3):=M.ao e2;cases e3;refine#[s1,rfl,λv P U aZ rv=>?_];let(w,w1,w2):=(A.mono U) i _ (by
  delta Ly at L
  split at L
  .cases L;assumption
  .cases L);let(b,rfl,ok):=w2;cases d with
 |tup t =>
  let(c,xs,rfl,k1,k2):=(rv.pl.d_ q1).eH;let(rfl,_):=g6 (show iV t=↑k from I) k2;refine#[_,w1,c,k,b,J,rfl,rfl,(ak s P).jB k1,ok.same (ak s P),?_];have:=bQ C U aZ _ _ (ag.refl P) (cY )
  simp_all
 |_=>cases I
theorem Ph:∀ (t:Ex) {lm:Bool}{G:Gs}{X:Cx}{E:XK}{N:Zj}{sc:ý},XI lm X G E N sc->∀ {u:Zm},mt lm G.fns G.nums t sc N u->Good X G E t u:=by
 intro t
 induction t with
 |nil =>
  intro lm G X E N sc x u h;exact List.isEmpty_iff.mp h
 |cons a r w y =>
  intro lm G X E N sc x u h;cases u with
  |nil=>cases h
  |cons e u =>
   have h:(noStar e&&!cH a&&cH r&&mt lm G.fns G.nums a sc N [e]&&mt lm G.fns G.nums r sc N u)=true:=h;simp only[Á] at h;obtain⟨⟨⟨⟨z,A⟩,B⟩,C⟩,F⟩:=h;exact#[e,u,rfl,z,aA (aM A) (w x C),B,y x F]
 |var i =>
  intro lm G X E N sc x u h;obtain⟨⟨q,rfl⟩,-,h⟩:=ax h;simp[Á,Zx] at h;exact bh rfl (Rz x h.1 h.2)
 |con d =>
  intro lm G X E N sc x u h;rcases (Wk _ _).mp h with h | h
  .obtain⟨⟨q,rfl⟩,-,h⟩:=ax h;exact bh rfl (RA h)
  .obtain⟨⟨p,rfl⟩,-,h⟩:=ax h;cases d with
   |dct=>exact bh rfl RB|_=>cases h
 |gint g i =>
  intro lm G X E N sc x u h;obtain⟨⟨⟨n,p⟩,rfl⟩,-,h⟩:=ax h;simp only[Á,Zx,VR] at h;obtain⟨⟨rfl,A⟩,B⟩:=h;exact bh rfl (OX x A B)
 |tup as H =>
  intro lm G X E N sc x u h;obtain⟨⟨q,rfl⟩,-,h⟩:=ax h;simp[Á] at h;exact bh rfl (RC h.1 (H x h.2))
 |lst as H =>
  intro lm G X E N sc x u h;obtain⟨⟨q,rfl⟩,-,h⟩:=ax h;simp[Á] at h;exact bh rfl (RD h.1 (H x h.2))
 |bin o a b w I =>
  intro lm G X E N sc x u h;obtain⟨⟨⟨l,op,r,p⟩,rfl⟩,-,h⟩:=ax h;simp only[Á,Zx] at h;obtain⟨⟨⟨⟨rfl,A⟩,B⟩,C⟩,F⟩:=h;exact bh rfl (RE (aA (aM A) (w x C)) (aA (aM B) (I x F)))
 |cmp o a b w I =>
  intro lm G X E N sc x u h;obtain⟨⟨⟨l,op,r,p⟩,rfl⟩,-,h⟩:=ax h;simp only[Á,Zx] at h;obtain⟨⟨⟨⟨⟨rfl,z⟩,A⟩,B⟩,C⟩,F⟩:=h;exact bh rfl (RF x z (aA (aM A) (w x C)) (aA (aM B) (I x F)))
 |neg a H =>
  intro lm G X E N sc x u h;obtain⟨⟨q,rfl⟩,-,h⟩:=ax h;simp only[Á] at h;exact bh rfl (RG (aA (aM h.1) (H x h.2)))
 |not a H =>
  intro lm G X E N sc x u h;obtain⟨⟨q,rfl⟩,-,h⟩:=ax h;simp only[Á] at h;obtain⟨⟨z,A⟩,B⟩:=h;exact bh rfl (RH (aA (aM z) (H x B)) (CN A))
 |and a b w I =>
  intro lm G X E N sc x u h;obtain⟨⟨⟨l,r,J,p⟩,rfl⟩,-,h⟩:=ax h;simp only[Á] at h;obtain⟨⟨⟨⟨z,A⟩,B⟩,C⟩,F⟩:=h;refine bh rfl (RI (aA (aM z) (w x C)) (CN B) ?_);cases J with
  |nil =>
   rw[Zu (show([]:Zm).isEmpty=true from rfl),Á] at F;exact M6 (aA (aM A) (I x F.2)) (CN F.1)
  |cons v J =>
   rw[Zv (by exact ï)] at F
   exact aA (aM A) (I x F)
 |or a b w I =>
  intro lm G X E N sc x u h;obtain⟨⟨⟨l,r,J,p⟩,rfl⟩,-,h⟩:=ax h;simp only[Á] at h;obtain⟨⟨⟨⟨z,A⟩,B⟩,C⟩,F⟩:=h;refine bh rfl (T4 (aA (aM z) (w x C)) (CN B) ?_);cases J with
  |nil =>
   rw[Zu (show([]:Zm).isEmpty=true from rfl),Á] at F;exact M6 (aA (aM A) (I x F.2)) (CN F.1)
  |cons v J =>
   rw[Zv (by exact ï)] at F
   exact aA (aM A) (I x F)
 |orT a b w I =>
  intro lm G X E N sc x u h;obtain⟨⟨⟨l,r,J,p⟩,rfl⟩,-,h⟩:=ax h;simp only[Á] at h;obtain⟨⟨⟨⟨z,A⟩,B⟩,C⟩,F⟩:=h;cases J with
  |nil=>exact bh rfl (RJ (aA (aM z) (w x C)) (aA (aM A) (I x F)))|cons v J=>cases B
 |ite c a b K w I =>
  intro lm G X E N sc x u h;obtain⟨⟨q,rfl⟩,-,h⟩:=ax h;simp only[Á] at h;obtain⟨⟨⟨⟨⟨⟨z,A⟩,B⟩,C⟩,F⟩,L⟩,P⟩:=h;exact bh rfl (RK (aA (aM z) (K x F)) (CN C) (aA (aM A) (w x L)) (aA (aM B) (I x P)))
 |ch o o' a b c w I K =>
  intro lm G X E N sc x u h;obtain⟨⟨⟨l,op,op',r,s,p⟩,rfl⟩,-,h⟩:=ax h;simp only[Á,Zx] at h;obtain⟨⟨⟨⟨⟨⟨⟨⟨rfl,rfl⟩,z⟩,A⟩,B⟩,C⟩,F⟩,L⟩,P⟩:=h;exact bh rfl (T5 x z (aA (aM A) (w x F)) (aA (aM B) (I x L)) (aA (aM C) (K x P)))
 |bf f as H =>
  intro lm G X E N sc x u h;rcases (Wk _ _).mp h with h | h
  rotate_left
  .rw[Á] at h;let(U,h):=h;obtain⟨⟨⟨n,p1,m,p2,e,p3,p4⟩,rfl⟩,-,h⟩:=ax h;simp only[Á,Zx] at h;obtain⟨⟨⟨⟨⟨z,A⟩,B⟩,C⟩,F⟩,L⟩:=h;have z:n="sorted":=z;have A:m="set":=A;subst z;subst A;cases f with
   |sset=>exact bh rfl (O9 x B C F (H x L))|_=>cases U
  obtain⟨⟨q,rfl⟩,-,h⟩:=ax h;simp only[Á,Zx] at h;obtain⟨⟨⟨⟨z,A⟩,B⟩,C⟩,F⟩:=h;exact bh rfl (T6 x z A B C (H x F))
 |isi t a H =>
  intro lm G X E N sc x u h;obtain⟨⟨⟨n,q,e,ty,p⟩,rfl⟩,-,h⟩:=ax h;simp only[Á,Zx] at h;obtain⟨⟨⟨⟨⟨z,A⟩,B⟩,C⟩,F⟩,L⟩:=h;have g:=aA (aM C) (H x F);refine bh rfl ?_;have one:∀ t:Ty,t≠.seq->(opt (UI ty) λq=>q.1.1 == XB (I0 t)&&glob sc (XB (I0 t)))=true->ay X G E (.isi t a) (.Call (.Name n q) [e,ty] [] p):=λt hs L=>by
   obtain⟨⟨⟨a,_⟩,rfl⟩,-,L⟩:=ax L;simp only[Á,Zx] at L;let(rfl,k1):=L;exact O4 x hs k1 z A B g
  cases t with
  |seq =>
   obtain⟨⟨⟨a,_,b,_,_,_⟩,rfl⟩,-,L⟩:=ax L;simp only[Á,Zx] at L;obtain⟨⟨⟨rfl,rfl⟩,k1⟩,k2⟩:=L;exact O5 x k1 k2 z A B g
  |_=>exact one _ (λh=>by cases h) L
 |idx a i w ihi =>
  intro lm G X E N sc x u h;obtain⟨⟨q,rfl⟩,-,h⟩:=ax h;simp only[Á] at h;obtain⟨⟨⟨⟨z,A⟩,B⟩,C⟩,F⟩:=h;exact bh rfl (RM z (aA (aM A) (w x C)) (aA (aM B) (ihi x F)))
 |sl a lo hi w ihl ihh =>
  intro lm G X E N sc x u h;obtain⟨⟨q,rfl⟩,-,h⟩:=ax h;simp only[Á] at h;obtain⟨⟨⟨⟨⟨z,A⟩,B⟩,C⟩,F⟩,L⟩:=h;exact bh rfl (T8 (aA (aM z) (w x C)) A B (ihl x F) (ihh x L))
 |rev a H =>
  intro lm G X E N sc x u h;obtain⟨⟨q,rfl⟩,-,h⟩:=ax h;simp only[Á] at h;exact bh rfl (RP (aA (aM h.1) (H x h.2)))
 |call f as H =>
  intro lm G X E N sc x u h;obtain⟨⟨⟨n,q,e,l,p⟩,rfl⟩,-,h⟩:=ax h;simp only[Á] at h;obtain⟨⟨⟨z,A⟩,B⟩,C⟩:=h;let(pr,U,Y):=ax z;simp only[Á,Zx] at Y;let(rfl,P):=Y;exact bh rfl (s_call x U P A B (H x C))
 |comp own au p it src cond el ihs K ihe =>
  intro lm G X E N sc x u h;obtain⟨⟨q,rfl⟩,-,h⟩:=ax h;exact bh rfl ((rh ihs K ihe x h).good x.calm)
 |lrng b as H =>
  intro lm G X E N sc x u h;obtain⟨⟨⟨n,p,m,q,a,r,t⟩,rfl⟩,-,h⟩:=ax h;simp only[Á,Zx] at h;obtain⟨⟨⟨⟨⟨⟨z,A⟩,B⟩,C⟩,F⟩,P⟩,L⟩:=h;subst z;subst A;cases a with
  |nil=>simp at P|cons a l=>exact bh rfl (O8 x B C F (H x L))
 |flat a H =>
  intro lm G X E N sc x u h;obtain⟨⟨q,rfl⟩,-,h⟩:=ax h;simp only[Á] at h;obtain⟨⟨⟨⟨⟨z,A⟩,h2'⟩,B⟩,C⟩,F⟩:=h;exact bh rfl (Pf x (vA z) A h2' B (aA (aM C) (H x F)))
 |oY as H =>
  intro lm G X E N sc x u h;obtain⟨⟨⟨n,p1,m,p2,e,p3,p4⟩,rfl⟩,-,h⟩:=ax h;simp only[Á,Zx] at h;obtain⟨⟨⟨⟨⟨z,A⟩,B⟩,C⟩,F⟩,L⟩:=h;have z:n="len":=z;have A:m="set":=A;subst z;subst A;exact bh rfl (Pb x B C F (H x L))
 |dkeys a H =>
  intro lm G X E N sc x u h;obtain⟨⟨q,rfl⟩,-,h⟩:=ax h;simp only[Á] at h;obtain⟨⟨⟨⟨z,A⟩,B⟩,C⟩,F⟩:=h;exact bh rfl (LZ x (vA z) A B (aA (aM C) (H x F)))
 |memk o a i H =>
  intro lm G X E N sc x u h;obtain⟨⟨q,rfl⟩,-,h⟩:=ax h;simp only[Á,Zx] at h;obtain⟨⟨⟨z,A⟩,B⟩,C⟩:=h;exact bh rfl (Pg o x z A (aA (aM B) (H x C)))
 |zget i k =>
  intro lm G X E N sc x u h;obtain⟨⟨⟨n,p,j,c,q,r⟩,rfl⟩,-,h⟩:=ax h;simp only[Á,Zx] at h;obtain⟨⟨z,A⟩,B⟩:=h;have B:j=(k:Int):=B;subst B;exact bh rfl (O6 x z A)
theorem sound(G:Gs)(t:Ex)(x:XI lm X G E N sc)(h:mt lm G.fns G.nums t sc N a):Good X G E t a:=Ph t x h
end
section
variable {lm:Bool}{X:Cx}{G:Gs}{E:XK}{N:Zj}{sc:ý}
structure Jx(G:Gs)(N:⇑Str)(sc:Scope)(au:⇑Nat)(a:Ex)(bJ:Scope)(body:Expr):Prop where
 hc:(aF N au).length=au.length
 hs:nZ bJ sc (aF N au)=true
 hL:cH a=false
 ih:∀ (k:Nat) {X:Cx}{E:XK},XI false X (lowG G k) E ((aF N au).map (·.1)) bJ->Good X (lowG G k) E a [body]
def xP(X:Cx)(G:Gs)(N:Zj)(sc:ý)(q:Str)(H:Hp)(t:LT)(p:Zh × Ex):Prop:=sU X q H t/\t.N=(aF N p.1).map (·.1)/\Jx G N sc p.1 p.2 t.bJ t.body
set_option tactic.hygienic true in
theorem xQ(h:dQ F d ((e,a)::r) z=↑(cs,f)):∃ g c i j,wZ d e=↑g/\ev (dH F) a (g.map some) z=↑(.er c i)/\c < 12/\dQ F d r i=↑(j,f)/\cs=c::j:=by
 unfold dQ at h;split at h
 .cases h
 .rename_i g k;split at h
  .rename_i c i l;split at h
   .rename_i m;obtain⟨⟨j,n⟩,o,p⟩:=Ö.mp h;cases p;exact#[g,c,i,j,k,l,m,o,rfl]
   .cases h
  .cases h
theorem M9{c:Type}{l:⇑c}{a:c}:(l++[a]).length=l.length + 1:=⋯
theorem VX.get{a c:Type}{R:a->c->Prop}:∀ {d:⇑a}{e:⇑c},VX R d e->∀ {i:Nat}{x:a}{y:c},d[i]?=↑x->e[i]?=↑y->R x y:=by
 intro d e h;induction h with
 |nil=>intro i x y h;simp at h
 |cons r _ k =>
  intro i x y f g;cases i with
  |zero=>simp_all|succ i=>exact k (by simpa using f) (by simpa using g)
inductive SK (X:Cx) (G:Gs) (N:⇑Str) (sc:Scope) (q:Str) (i:Nat) (ls:⇑(⇑Nat × Ex)) (σ:L2.St) (H:Hp) (Q:VK):Prop where
 |mk (zA ρ z cs z1 L ts) (h0_:fE X.K zA H ρ σ) (h1_:aO zA z H) (h2_:dQ G.F ρ ls z=↑(cs,z1)) (h3_:σ[i]?=↑↑↥L) (h4_:H L=↑(.lst (ts.map λt=>↥t.f))) (h5_:zA≠↑L) (h6_:Paired (xP X G N sc q H) ts ls) (h7_:∀ v H',Ext zA H H'->aO zA z1 H'->nV X.K zA H H' (.fr (cs.map w4)) v->Q v H'):SK X G N sc q i ls σ H Q
theorem Ez(x:XI lm X G E N sc)(L:gR X G sc c P q k fR fdR){p p2 p3 p4 pos ps:Pos}(hi:N[i]?=↑y)(ny:aG y)(nn:aG n)(cc:sX cw sc N [n] [])(hg:glob cw "_law_refused")(hls:ls.length<=1000) :
  PE X (.ListComp (.Call (.Name "_law_refused" p) [.Name n p2] [] pos) [#[.Name n p3,.Name y p4,[],0]] cw ps) (SK X G N sc q i ls):=by
 unfold aG at ny nn;simp only[Á,ò] at ny nn;let(k1,k2,k3):=bM hg;refine PE.imp (uW  (qual:=q) (k:=k) x.calm (kh x cc) (oU (eE  (by rw[x.hN];exact hi) (x.vis y (ë hi)) ny.1 ny.2)) L.fn (L.rm x.room) (λcl C s H fp=>(nr x cc cl C s H fp).glb _ k1) L.m L.kp L.bd (λcl C s H fp=>tm  (by simp[bt]) rfl ((lV x cc cl C s H fp).lc n ⋯) ((lV x cc cl C s H fp).fn n ⋯)) (λcl C s H fp=>(nr x cc cl C s H fp).vis n ⋯) nn.1 nn.2 k2 (λ_=>rfl)) λσ H Q qq=>?_
 let(d,ρ,z,cs,z1,Ld,ts,rel,st,run,eL,hL,zL,pr,po):=qq;refine#[_,eL,Ld,rfl,#[_,.of hL],trivial,?_];have nz:∀ {a:Ê}{p:þ->Prop},H a=↑(.ext p)->d≠↑a:=λ{a p} h e=>by
  subst e;have:=st.zat;cases z with
  |none=>exact this.elim
  |some pr =>
   have h':H a=↑_:=this;rw[h] at h';cases h'
 have len:=pr.length;refine#[λj m ys g=>∃ o ds u,m=(ls.drop j).length/\Ext d H g/\aO d o g/\dQ G.F ρ (ls.drop j) o=↑(u,z1)/\cs=ds++u/\bg X.K (hz d g) (ds.map w4) ys/\ds.length=j,#[_,z,[],cs,rfl,.refl,st,run,rfl,.nil,rfl],?_];rintro j m ys g ⟨o,ds,u,rfl,xx,stj,rj,rfl,hd,rfl⟩;have hL':=xx.at hL zL;cases B:ls.drop ds.length with
 |nil =>
  rw[B] at rj;cases rj;refine .inl #[#[_,.of hL',by simp_all],λp hp=>?_]
  rw[ó] at po;exact po _ _ (xx.trans (Ext.of (ag.new _ hp))) (stj.same (ag.new _ hp)) ((dB stj hd hp).from xx)
 |cons pa r =>
  let(au,a):=pa;rw[B] at rj;let(ss,I,zm,cs2,hss,he,hc12,rj2,rfl):=xQ rj;have hlt:ds.length < ls.length:=by
   rcases lt_or_ge ds.length ls.length with h | h
   .exact h
   .rw[List.drop_eq_nil_of_le h] at B;cases B
  have hls' :=by
   have:=V6 (xs:=ls) (i:=ds.length) (j:=0);rw[B] at this;exact this.symm
  have J:ls.drop (ds.length + 1)=r:=by
   have:=VI hlt;rw[B] at this;exact(List.cons.inj this).2.symm
  have U:ds.length < ts.length:=by rw[len];exact hlt
  let(lt,tN,lf):=VX.get pr (ß U) hls';generalize et:ts[ds.length]=t at lt tN lf;have ht:(ts.map λt=>V.ref t.f)[ds.length]?=↑↥t.f:=by rw[å,ß U,et];rfl
  refine .inr #[#[_,_,.of hL',ht],?_,λzs Y=>∃ m',m' < ((au,a)::r).length/\∃ o ds2 u,m'=(ls.drop (ds.length + 1)).length/\Ext d H Y/\aO d o Y/\dQ G.F ρ (ls.drop (ds.length + 1)) o=↑(u,z1)/\ds++I::cs2=ds2++u/\bg X.K (hz d Y) (ds2.map w4) zs/\ds2.length=ds.length + 1,λ_ _ h=>h,λy Y hy=>?_]
  .have:=hd.length;rw[Ã] at this;exact Ñ (show ys.length < 1000 by exact Ñ (VA (WA this) hlt) hls) (-0)
  let(rfl,hy):=hy;cases (ù ((hy _ (.of hL')).symm.trans ht));let(vs,ra,hvl,hvs):=nq rel hss lf.hc;have la:Io Y q t:=#[xx.at lt.fn (nz lt.fn),xx.at lt.rc (nz lt.rc)];have hsc:=lf.hs;unfold nZ at hsc;refine BB.b7 hsc λs1 s2 s3 s4 s5 s6 s7=>?_;simp only[ò,Zx,VT,Zw] at s1 s2 s3 s4 s5 s6 s7;have hfree:∀ y∈(aF N au).map (·.1),t.bJ.names.lookup y=↑.free:=λy hy=>by
   let(pr,h1,rfl):=Ç.mp hy;exact s6 pr h1
  show Tz X q k _ σ H [↑↥t.f] Y _;refine#[t,vs,↥(G.cls I),λH3=>Ext d Y H3/\aO d zm H3,lt,#[by rw[tN,Ã];exact hvl,λi y v h1 h2=>by rw[tN] at h1;rw[x.hN];exact hvs i y v h1 h2],rfl,la,λA outer s H3 hr sm=>?_,λs2 th=>?_]
  .have XL:XI false (kK X.prog X.w X.K X.mg X.base t.N q t.bJ t.f ↥t.c' t.cl A outer s H3 λc _ g=>c=↥(G.cls I)/\Ext d Y g/\aO d zm g) (lowG G k) (λc _ g=>c=↥(G.cls I)/\Ext d Y g/\aO d zm g) ((aF N au).map (·.1)) t.bJ :=
    { gok:=L.low,num:=x.num,blt:=x.blt,hN:=tN,nd:=s7,vis:=λy hy=>.inr (.inr (hfree y hy)),glb:=λy h=>h,cel:=λy h=>h,calm:=rfl,room:=hr,pas:=yK,lam:=λh=>nomatch h }
   refine#[_,(aA lf.hL (lf.ih k XL)).pe,?_];exact#[d,ss.map some,o,_,pY (wF.mono ra (xx.trans (Ext.of sm))),stj.same sm,he,λea g x3 stt hn=>#[rfl,(Ext.of sm).trans x3,stt]]
  .refine#[t.f,G.cls I,I,_,rfl,th,L.cls I hc12,λl H3 H4 hRR sm hl=>?_];let(x3,B9):=hRR;have x4:Ext d Y (upd H4 l (.lst [~~~I])):=(x3.trans (Ext.of sm)).trans (Ext.of (ag.new _ hl));have G4:=B9.same sm;refine#[r.length,Xs _,zm,ds++[I],cs2,by rw[J],xx.trans x4,G4.same (ag.new _ hl),by rw[J];exact rj2,by rw[Ø];rfl,?_,M9]
   rw[gV];exact(hd.same x4.same).append (.cons (dB G4 (bg.cons Hd.int bg.nil) hl).pl .nil)
end
open Classical in
def hw(ow:Nat->Zk)(H:Hp):Hp:=λb=>if ∃ i,ow i=↑b then none else H b
section
variable {K:Å}{ow:Nat->Zk}{H H':Hp}
theorem eh:ag (hw ow H) H:=λb o e=>by
 delta hw at e
 simp_all
theorem cu(h:H b=↑o)(n:∀ i,ow i≠↑b):hw ow H b=↑o:=by
 delta hw
 simp_all
theorem fW(h:hw ow H b=↑o):H b=↑o/\∀ i,ow i≠↑b:=by
 refine#[eh b o h,λi e=>?_]
 delta hw at h
 simp_all
theorem bF(e:ag H H'):ag (hw ow H) (hw ow H'):=λb o h=>by
 let(a,c):=fW h;exact cu (e b o a) c
theorem eT:hw (λ_=>none) H=H:=by
 delta hw
 grind
theorem zh(h:dU K H a xs)(c:∀ i b,ow i=↑b->∃ d,H b=↑(.lst d)):dU K (hw ow H) a xs:=by
 rcases h with (h | ⟨o,h⟩) | h
 .refine .inl (.inl (cu h λi e=>?_));let(d,q):=c i a e;rw[h] at q;cases q
 .refine .inl (.inr #[o,cu h λi e=>?_]);let(d,q):=c i a e;rw[h] at q;cases q
 .exact .inr h
mutual
theorem nB(c:∀ i b,ow i=↑b->∃ e,H b=↑(.lst e)):∀ {d:D}{v:V},bare d=true->Hd K H d v->Hd K (hw ow H) d v
 |.cq,_,_,h=>by rw[h.Lz];exact Hd.cq|.bl _,_,_,h=>by rw[h.xH];exact Hd.bl|~~~_,_,_,h=>by rw[h.cS];exact Hd.int|.str _,_,_,h=>by rw[h.Oz];exact Hd.str
 |.tup l,_,b,h=>by
  let(a,f,rfl,g,j):=h.eH;exact Hd.tup (zh g c) (jI c (by simpa [bare] using b) j)
 |.lst _,_,b,_=>by cases b
 |.dct,_,b,_=>by cases b
theorem jI(c:∀ i b,ow i=↑b->∃ e,H b=↑(.lst e)):∀ {ds:⇑D}{k:⇑V},de ds=true->bg K H ds k->bg K (hw ow H) ds k
 |[],_,_,h=>by rw[h.cC];exact .nil
 |d::ds,_,b,h=>by
  let(x,r,rfl,g,j):=h.bj;simp only[de,Á] at b;exact .cons (nB c b.1 g) (jI c b.2 j)
end
theorem Na(a:∀ i b,ow i=↑b->∃ c,H b=↑(.lst c)){d:Ê}{f:⇑Zl}(h:pG K H d f):pG K (hw ow H) d f:=by
 let(g,j,k,l,m):=h;refine#[g,cu j λi e=>?_,k,λx n=>zh (l x n) a,m];let(c,q):=a i d e;rw[j] at q;cases q
end
def Jy(K:Å)(c:Zk)(e:Nat->Zk)(H:Hp)(i:Nat):S->V->Prop
 |.d x,v=>e i=none/\Hd K (hw e (hz c H)) x v|.fr xs,v=>∃ a f,e i=↑a/\v=↥a/\H a=↑(.lst f)/\bg K (hw e (hz c H)) xs f|.z,v=>e i=none/\∃ a,c=↑a/\v=↥a|.ks l,v=>e i=none/\∃ d,v=↥d/\pG K (hw e (hz c H)) d l
structure RW(K:PySem.W.Frag)(H0:Hp)(zE zA:Option Addr)(ow:Nat->Option Addr)(H:Hp)(ρ:Env)(σ:L2.St):Prop where
 len:ρ.length=σ.length
 inj:∀ i j a,ow i=↑a->ow j=↑a->i=j
 zne:∀ i a,ow i=↑a->zA≠↑a
 own:∀ i a,ow i=↑a->∃ xs,ρ[i]?=↑↑(.fr xs)
 wor:∀ i s,ρ[i]?=↑↑s->∃ v,σ[i]?=↑↑v/\Jy K zA ow H i s v
 ext:Ext zE H0 H
 zok:zA=zE\/(zE=none/\∀ a,zA=↑a->H0 a=none)
 new:∀ i a,ow i=↑a->H0 a=none
section
variable {K:Å}{H0 H H':Hp}{zE zA:Zk}{ow:Nat->Zk}{ρ:Env}{σ:L2.St}
theorem RW.lst(r:RW K H0 zE zA ow H ρ σ):∀ i a,ow i=↑a->∃ c,H a=↑(.lst c):=λi a e=>by
 let(d,h):=r.own i a e;let(v,f,g,c,j,k,l,m):=r.wor i _ h;rw[e] at j;cases j;exact#[c,l]
theorem RW.rk(r:RW K H0 zE zA ow H ρ σ):∀ i a,ow i=↑a->∃ c,hz zA H a=↑(.lst c):=λi a e=>by
 let(c,h):=r.lst i a e;exact#[c,bx h (r.zne i a e)]
theorem Jy.pl{i:Nat}{s:S}{v:V}(h:Jy K zA ow H i s v)(c:∀ a,ow i=↑a->zA≠↑a):Al K zA H s v:=by
 cases s with
 |d x=>exact h.2.same eh|z=>exact h.2|ks l=>let(_,d,q,k):=h;exact#[d,q,k.same eh]
 |fr e =>
  let(a,f,g,rfl,j,m):=h;exact Hd.lst (bx j (c a g)) (m.same eh)
theorem RW.g7(r:RW K H0 zE zA ow H ρ σ):fE K zA H ρ σ:=λi s e=>by
 let(v,c,d):=r.wor i s e;exact#[v,c,d.pl λa q=>r.zne i a q]
theorem Jy.mono{i:Nat}{s:S}{v:V}(h:Jy K zA ow H i s v)(c:∀ a,ow i=↑a->zA≠↑a)(x:Ext zA H H'):Jy K zA ow H' i s v:=by
 cases s with
 |d y=>exact#[h.1,h.2.same (bF x)]|z=>exact h|ks l=>let(n,d,q,k):=h;exact#[n,d,q,k.same (bF x)]
 |fr e =>
  let(a,f,g,rfl,j,m):=h;exact#[a,f,g,rfl,x.at j (c a g),m.same (bF x)]
theorem Jz(zA:Zk)(H:Hp):ag (hz zA H) (hz none H):=λ_ _ h=>bx (cT h).1 (λq=>nomatch q) (dI h)
theorem CS(e:Ext zE H0 H)(c:zA=zE\/(zE=none/\∀ a,zA=↑a->H0 a=none))(x:Ext zA H H'):Ext zE H0 H':=by
 rcases c with rfl | ⟨rfl,d⟩
 .exact e.trans x
 .refine#[λb o h=>?_,λb f h=>let #[g,q]:=e.dk b f h;x.dk b g q];have i:=e.same b o h;refine bx (x.at (cT i).1 (λq=>?_) (dI i)) (λq=>nomatch q) (dI i);have j:=(cT h).1
  simp_all
theorem RW.mono(r:RW K H0 zE zA ow H ρ σ)(x:Ext zA H H'):RW K H0 zE zA ow H' ρ σ :=
 #[r.len,r.inj,r.zne,r.own,λi s e=>let #[v,c,d]:=r.wor i s e;#[v,c,d.mono (λa q=>r.zne i a q) x],CS r.ext r.zok x,r.zok,r.new]
theorem RW.young(r:RW K H0 zE zA ow H ρ σ)(h:H a=none)(n:zA≠↑a):H0 a=none/\zE≠↑a:=by
 have c:zE≠↑a:=λq=>by
  rcases r.zok with rfl | ⟨rfl,_⟩
  .exact n q
  .cases q
 exact#[r.ext.free h c,c]
theorem RW.out(r:RW K H0 zE zA ow H ρ σ){s:S}{v:V}(hs:s≠.z)(x:Ext zA H H')(h:nV K zA H H' s v):nV K zE H0 H' s v:=by
 have c:ag (hz zA H') (hz zE H'):=by
  rcases r.zok with rfl | ⟨rfl,_⟩
  .exact ag.refl _
  .exact Jz _ _
 cases s with
 |d y=>exact Hd.same c h|z=>exact absurd rfl hs|ks l=>let(d,q,k):=h;exact#[d,q,k.same c]
 |fr e =>
  let(a,f,rfl,g,i,j,m):=h;let(n,p):=r.young g i;exact#[a,f,rfl,n,p,j,m.same (qS λb o _ q=>c b o q)]
theorem RW.Ua(r:RW K H0 zE zA ow H ρ σ){i:Nat}{s:S}(hs:s≠.z)(e:ρ[i]?=↑↑s):∃ v,σ[i]?=↑↑v/\nV K zE H0 H s v:=by
 let(v,c,f):=r.wor i s e;have g:ag (hz zA H) (hz zE H):=by
  rcases r.zok with rfl | ⟨rfl,_⟩
  .exact ag.refl _
  .exact Jz _ _
 refine#[v,c,?_];cases s with
 |d y=>exact Hd.same (ag.trans eh g) f.2|z=>exact absurd rfl hs|ks l=>let(_,d,q,k):=f;exact#[d,q,k.same (ag.trans eh g)]
 |fr h =>
  let(a,j,m,rfl,p,u):=f;have w:zE≠↑a:=λq=>by
   rcases r.zok with rfl | ⟨rfl,_⟩
   .exact (r.zne i a m) q
   .cases q
  refine#[a,j,rfl,r.new i a m,w,p,u.same λb o q=>?_];let(x,A):=fW q;exact pB (g b o x) λz=>A i (by rw[z];exact m)
theorem RW.pO(r:RW K H0 zE zA ow H ρ σ):RW K H0 zE zA (λ_=>none) H (pO ρ) σ:=by
 refine#[by delta Q.pO;rw[Ã];exact r.len,λi j a h=>(by cases h),λi a h=>(by cases h),λi a h=>(by cases h),λi s e=>?_,r.ext,r.zok,λi a h=>(by cases h)]
 unfold Q.pO at e;rw[å] at e;let(o,c,f):=Ö.mp e;cases o with
 |none=>cases f
 |some g =>
  cases f;let(v,k,m):=r.g7 i g c;refine#[v,k,?_];cases g with
  |d y=>exact#[rfl,by rw[eT];exact m]|fr n=>exact#[rfl,by rw[eT];exact m]|z=>exact#[rfl,m]|ks l=>exact#[rfl,by rw[eT];exact m]
def jf(ow:Nat->Zk)(i:Nat):Nat->Option Addr:=λj=>if j=i then none else ow j
def w6(ow:Nat->Zk)(i:Nat)(a:Ê):Nat->Option Addr:=λj=>if j=i then ↑a else ow j
theorem Jy.move{c:Nat->Zk}{j:Nat}{s:S}{v:V}(h:Jy K zA ow H j s v)(e:c j=ow j)(f:ag (hw ow (hz zA H)) (hw c (hz zA H')))(g:∀ a,ow j=↑a->H' a=H a):Jy K zA c H' j s v:=by
 cases s with
 |d y=>exact#[by rw[e];exact h.1,h.2.same f]|z=>exact#[by rw[e];exact h.1,h.2]|ks l=>let(n,d,q,k):=h;exact#[by rw[e];exact n,d,q,k.same f]
 |fr i =>
  let(a,m,o,rfl,p,r):=h;exact#[a,m,by rw[e];exact o,rfl,by rw[g a o];exact p,r.same f]
theorem getElem?_set'{a:Type}{l:⇑a}{i j:Nat}{x y:a}(h:(l.set i x)[j]?=↑y):(j=i/\y=x/\i < l.length)\/(j≠i/\l[j]?=↑y):=by
 by_cases c:j=i
 .subst c;have d :=by
   simpa using ((ç.mp h).1)
  simp_all
 .rw[Ý (ü c)] at h;exact .inr #[c,h]
theorem RW.Pj(r:RW K H0 zE zA ow H ρ σ){i:Nat}(h:Hd K (hw ow (hz zA H)) x v):RW K H0 zE zA (jf ow i) H (ρ.set i ↑(.d x)) (σ.set i ↑v):=by
 have sub:∀ j a,jf ow i j=↑a->j≠i/\ow j=↑a:=λj a e=>by
  delta jf at e
  simp_all
 have c:ag _ (hw _ (hz zA H)):=λb o e=>by
  let(f,g):=fW e;exact cu f λj q=>g j (sub j b q).2
 refine#[by rw[Vs,Vs];exact r.len,λj k a l m=>r.inj j k a (sub j a l).2 (sub k a m).2,λj a l=>r.zne j a (sub j a l).2,λj a l=>?_,λj s e=>?_,r.ext,r.zok,λj a l=>r.new j a (sub j a l).2]
 .let(n,m):=sub j a l;let(p,u):=r.own j a m;exact#[p,by rw[Ý (ü n)];exact u]
 .rcases getElem?_set' e with ⟨rfl,f,y⟩ | ⟨n,f⟩
  .cases f;exact#[v,í (by rw[<-r.len];exact y),by exact Zu rfl,h.same c]
  .let(w,l,m):=r.wor j s f;exact#[w,by rw[Ý (ü n)];exact l,m.move (by exact Zv n) c λ_ _=>rfl]
theorem RW.L4(r:RW K H0 zE zA ow H ρ σ){i:Nat}{t:S}{v:V}(h:Jy K zA (jf ow i) H i t v):RW K H0 zE zA (jf ow i) H (ρ.set i ↑t) (σ.set i ↑v):=by
 have sub:∀ j a,jf ow i j=↑a->j≠i/\ow j=↑a:=λj a e=>by
  delta jf at e
  simp_all
 refine#[by rw[Vs,Vs];exact r.len,λj k a g l=>r.inj j k a (sub j a g).2 (sub k a l).2,λj a g=>r.zne j a (sub j a g).2,λj a g=>?_,λj s e=>?_,r.ext,r.zok,λj a g=>r.new j a (sub j a g).2]
 .let(n,l):=sub j a g;let(m,p):=r.own j a l;exact#[m,by rw[Ý (ü n)];exact p]
 .rcases getElem?_set' e with ⟨rfl,d,u⟩ | ⟨n,d⟩
  .cases d;exact#[v,í (by rw[<-r.len];exact u),h]
  .let(w,g,l):=r.wor j s d;exact#[w,by rw[Ý (ü n)];exact g,l.move (by exact Zv n) (λb o e=>by
  let(d,f):=fW e;exact cu d λj q=>f j (sub j b q).2) λ_ _=>rfl]
theorem RW.RU(r:RW K H0 zE zA ow H ρ σ){i:Nat}(x:Ext zA H H')(c:H a=none)(d:zA≠↑a)(f:H' a=↑(.lst g))(h:bg K (hw (w6 ow i a) (hz zA H')) xs g)(l:i < ρ.length) :
  RW K H0 zE zA (w6 ow i a) H' (ρ.set i ↑(.fr xs)) (σ.set i ↑↥a):=by
 have m:=r.mono x;have p:∀ j b,ow j=↑b->b≠a:=λj b e q=>by
  let(u,v):=r.lst j b e
  simp_all
 have sub:∀ j b,w6 ow i a j=↑b->(j=i/\b=a)\/(j≠i/\ow j=↑b):=λj b e=>by
  delta w6 at e
  split at e
  .simp_all
  .rename_i n;exact .inr #[n,e]
 refine#[by rw[Vs,Vs];exact r.len,λj k b v E=>?_,λj b v=>?_,λj b v=>?_,λj s e=>?_,m.ext,r.zok,λj b v=>?_]
 .rcases sub j b v with ⟨F,G⟩ | ⟨F,G⟩
  .rcases sub k b E with ⟨I,p2⟩ | ⟨I,p2⟩
   .rw[F,I]
   .exact absurd G (p k b p2)
  .rcases sub k b E with ⟨I,p2⟩ | ⟨I,p2⟩
   .exact absurd p2 (p j b G)
   .exact r.inj j k b G p2
 .rcases sub j b v with ⟨_,G⟩ | ⟨_,G⟩
  .rw[G];exact d
  .exact r.zne j b G
 .rcases sub j b v with ⟨F,G⟩ | ⟨F,G⟩
  .rw[F];exact#[xs,í l]
  .let(u,J):=r.own j b G;exact#[u,by rw[Ý (ü F)];exact J]
 .rcases getElem?_set' e with ⟨rfl,z,L⟩ | ⟨n,z⟩
  .cases z;exact#[_,í (by rw[<-r.len];exact L),a,g,by exact Zu rfl,rfl,f,h]
  .let(w,v,E):=r.wor j s z;refine#[w,by rw[Ý (ü n)];exact v,E.move (by delta w6;exact Zv n) (λb o e=>by
  let(z,A):=fW e;have B:=(cT z).1;have C:b≠a:=λq=>by simp_all
  refine cu (x b o z) λj q=>?_;rcases sub j b q with ⟨_,q⟩ | ⟨_,q⟩
  .exact C q
  .exact A j q) λb q=>?_]
   let(u,k):=r.lst j b q;rw[k];exact x.at k (r.zne j b q)
 .rcases sub j b v with ⟨_,G⟩ | ⟨_,G⟩
  .rw[G];exact(r.young c d).1
  .exact r.new j b G
theorem RW.upd(r:RW K H0 zE zA ow H ρ σ){i:Nat}(e:ow i=↑a)(h:bg K (hw ow (hz zA H)) xs c):RW K H0 zE zA ow (upd H a (.lst c)) (ρ.set i ↑(.fr xs)) σ:=by
 have d:ag (hw ow _) (hw ow (hz zA (L2.upd H a (.lst c)))):=λb o q=>by
  let(f,g):=fW q;let(k,l):=cT f;exact cu (bx (by rw[ah (λz=>g i (by rw[z];exact e))];exact k) l (dI f)) g
 let(p,u):=r.own i a e;let(v0,x,y,A,B,C,E,F):=r.wor i _ u;rw[e] at B;cases B;refine#[by rw[Vs];exact r.len,r.inj,r.zne,λj b G=>?_,λj s q=>?_,#[λb o q=>?_,λb I q=>?_],r.zok,r.new]
 .by_cases J:j=i
  .subst J;exact#[xs,í ((ç.mp u).1)]
  .let(L,N):=r.own j b G;exact#[L,by rw[Ý (ü J)];exact N]
 .rcases getElem?_set' q with ⟨rfl,f,P⟩ | ⟨n,f⟩
  .cases f;exact#[v0,x,a,c,e,C,aB,h.same d]
  .let(w,G,U):=r.wor j s f;refine#[w,G,U.move rfl d λb q=>?_];exact ah (λz=>n (r.inj j i b q (by rw[z];exact e)))
 .let(f,g):=cT (r.ext b o q);exact bx (by rw[ah (λz=>by
   have:=(cT q).1;rw[z,r.new i a e] at this;cases this)];exact f) g (dI q)
 .let(X,f):=r.ext.dk b I q;exact#[X,by rw[ah (λz=>by simp_all)];exact f]
end
end Q
namespace Q
open PySem L2 PySem.Spec PyProof.Rows
variable [TB:Tb]
def L5:Zk->Z->Z
 |none,_=>none|↑_,z=>z
def fX(K:Å)(G:Gs)(E:XK)(a:Hp)(d:Zk)(B:Hp)(D:Ends):R O->Prop
 |.ok (.nx f) z=>∀ g h i H,RW K a d g h H f i->aO g z H->ag B (hw h (hz g H))->D.nx i H|.ok (.rt s) z=>∀ v H,s≠.z->Ext d a H->aO d (L5 d z) H->nV K d a H s v->D.rt v H|.er c z=>∀ e H,Ext d a H->aO d (L5 d z) H->H e=none->E ↥(G.cls c) ↑e H
inductive tX (K:PySem.W.Frag) (G:Gs) (E:XK) (H0:Hp) (zE:Option Addr) (x:Sm) (D:Ends) (σ:L2.St) (H:Hp):Prop where
 |mk (zA ow ρ z r) (h0_:RW K H0 zE zA ow H ρ σ) (h1_:aO zA z H) (h2_:ex G.F zE.isNone x ρ z=↑r) (h3_:fX K G E H0 zE (hw ow (hz zA H)) D r):tX K G E H0 zE x D σ H
section
variable {K:Å}{G:Gs}{E:XK}{H0 H H':Hp}{zE zA:Zk}{ow:Nat->Zk}{ρ:Env}{σ:L2.St}{Dn:Ends}{z:Z}
theorem Gu(c:zA=zE\/(zE=none/\∀ a,zA=↑a->H0 a=none))(d:aO zA z H):aO zE (L5 zE z) H:=by
 cases zE with
 |none=>exact#[trivial,d.tab]
 |some a =>
  rcases c with rfl | ⟨h,_⟩
  .exact d
  .cases h
theorem fX.Qg(a:fX K G E H0 zE B Dn (.er c z))(r:RW K H0 zE zA ow H ρ σ):EPost G zA E c z H:=λe H' x d n=>a e H' (CS r.ext r.zok x) (Gu r.zok d) n
theorem fX.Gv(a:fX K G E H0 zE B Dn d)(r:RW K H0 zE zA ow H ρ σ):∀ c f,d=.er c f->EPost G zA E c f H:=λc f e=>by subst e;exact a.Qg r
theorem fX.mono(a:fX K G E H0 zE B Dn c)(h:ag B d):fX K G E H0 zE d Dn c:=by
 match c,a with
 |.ok (.nx _) _,a=>exact λzA ow σ H r e f=>a zA ow σ H r e (ag.trans h f)|.ok (.rt _) _,a=>exact a|.er _ _,a=>exact a
theorem cU(ow:Nat->Zk)(i:Nat):ag (hw ow H) (hw (jf ow i) H):=λb o e=>by
 let(a,c):=fW e;refine cu a λj q=>?_;unfold jf at q
 simp_all
theorem rp(ow:Nat->Zk):ag (hw ow H) (hw (λ_=>none) H):=λb o e=>cu (fW e).1 λj q=>nomatch q
theorem Bm(x:Ext zA H H')(c:H a=none)(i:Nat):ag (hw ow (hz zA H)) (hw (w6 ow i a) (hz zA H')):=λb o e=>by
 let(d,f):=fW e;have g:=(cT d).1;refine cu (x b o d) λj q=>?_;unfold w6 at q
 grind
theorem EA(e:ow i=↑a):ag (hw ow (hz zA H)) (hw ow (hz zA (upd H a o))):=λb u q=>by
 let(c,d):=fW q;let(f,g):=cT c;exact cu (bx (by rw[ah (λw=>d i (by rw[w];exact e))];exact f) g (dI c)) d
mutual
theorem Bn:∀ {p:iU}{d:D}{ρ c:Env},cJ p d ρ=↑c->∀ {ow:Nat->Zk}{σ:L2.St}{v:V}{R:L2.St->Hp->Prop},RW K H0 zE zA ow H ρ σ->Hd K (hw ow (hz zA H)) d v ->
  (∀ f g,RW K H0 zE zA f H c g->ag (hw ow (hz zA H)) (hw f (hz zA H))->R g H)->gP K p v σ H R
 |.v i,d,ρ,c,e,ow,σ,v,R,r,h,k=>by
  unfold cJ at e;cases e;unfold gP;exact k _ _ (r.Pj h) (cU ow i)
 |.tup j,d,ρ,c,e,ow,σ,v,R,r,h,k=>by
  unfold cJ at e;cases d with
  |tup l =>
   let(a,m,rfl,n,o):=h.eH;unfold gP;exact#[a,m,rfl,(ak zA H).jB (ag.jB eh n),by rw[o.length];exact rg e,zi e r o k]
  |_=>cases e
 |.nil,_,_,_,e,_,_,_,_,_,_,_=>by unfold cJ at e;cases e
 |.cons _ _,_,_,_,e,_,_,_,_,_,_,_=>by unfold cJ at e;cases e
theorem zi:∀ {r:iU}{l:⇑D}{ρ c:Env},bindL r l ρ=↑c->∀ {ow:Nat->Zk}{σ:L2.St}{s:⇑V}{R:L2.St->Hp->Prop},RW K H0 zE zA ow H ρ σ->bg K (hw ow (hz zA H)) l s ->
  (∀ f g,RW K H0 zE zA f H c g->ag (hw ow (hz zA H)) (hw f (hz zA H))->R g H)->gL K r s σ H R
 |.nil,l,ρ,c,e,ow,σ,s,R,r,h,k=>by
  unfold bindL at e;cases l with
  |nil =>
   cases e;unfold gL;exact#[h.cC,k ow σ r (ag.refl _)]
  |cons x l=>cases e
 |.cons p q,l,ρ,c,e,ow,σ,s,R,r,h,k=>by
  unfold bindL at e;cases l with
  |nil=>cases e
  |cons x l =>
   let(u,w,y):=Õ.mp e;let(v,A,rfl,n,o):=h.bj;unfold gL;exact#[v,A,rfl,Bn w r n λf g B C=>zi y B (o.same C) λF I J L=>k F I J (ag.trans C L)]
 |.v _,_,_,_,e,_,_,_,_,_,_,_=>by unfold bindL at e;cases e
 |.tup _,_,_,_,e,_,_,_,_,_,_,_=>by unfold bindL at e;cases e
end
theorem tZ(r:RW K H0 zE zA ow H ρ σ)(s:S):∃ a,RW K H0 zE zA a H (eW s ρ) σ/\ag (hw ow (hz zA H)) (hw a (hz zA H))/\(lQ s=true\/∀ i,a i=none):=by
 unfold eW;rw[vb];cases c:lQ s with
 |true=>exact#[ow,r,ag.refl _,.inl rfl]|false=>exact#[_,r.pO,rp ow,.inr λ_=>rfl]
theorem JA{p:iU}{s:S}{v:V}{c:Env}{R:L2.St->Hp->Prop}(r:RW K H0 zE zA ow H ρ σ)(x:Ext zA H H')(f:nV K zA H H' s v)(e:iX p s (eW s ρ)=↑c)
  (k:∀ g h,RW K H0 zE zA g H' c h->ag (hw ow (hz zA H)) (hw g (hz zA H'))->R h H'):gP K p v σ H' R:=by
 let(m,n,s1,u):=tZ r s;have A:=n.mono x;have B:ag _ (hw m (hz zA H')):=ag.trans s1 (bF x);cases s with
 |d y =>
  refine Bn (by cases p <;> exact e) A ?_ λg h F I=>k g h F (ag.trans B I);rcases u with u | u
  .exact nB A.rk u f
  .have :=funext u;subst this;rw[eT];exact f
 |z =>
  cases p with
  |v i =>
   simp only[iX] at e;split at e
   .cases e;exact k _ _ (A.L4  #[Zu rfl,f]) (ag.trans B (cU m i))
   .cases e
  |_=>cases e
 |ks l =>
  cases p with
  |v i =>
   simp only[iX] at e;split at e
   .cases e;let(d,rfl,J):=f;exact k _ _ (A.L4  #[Zu rfl,d,rfl,(Na A.rk J).same (cU m i)]) (ag.trans B (cU m i))
   .cases e
  |_=>cases e
 |fr L =>
  cases p with
  |v i =>
   simp only[iX] at e;split at e
   .rename_i N;cases e;let(a,P,rfl,J,U,X,Y):=f;refine k _ _ (n.RU x J U X ?_ N) (ag.trans s1 (Bm x J i));rcases u with u | u
    .refine jI (λj b q=>?_) u (Y.same (cL a _));unfold w6 at q;split at q
     .cases q;exact#[P,bx X U]
     .exact A.rk j b q
    .refine Y.same λb o q=>?_;have hb:b≠a:=λw=>by subst w;unfold hide at q;simp_all
     refine cu (cL a _ b o q) λj w=>?_;unfold w6 at w
     grind
   .cases e
  |_=>cases e
end
end Q
namespace Q
open PySem L2 PySem.Spec PyProof.Rows
variable [TB:Tb]
theorem L6(h:gj v=false):Wq [a] v env=pure none:=by
 cases a <;> first | rfl | (cases v <;> first | (cases h;done) | rfl)
theorem ifN{c:Prop}[Decidable c]{α:Type}{a b d:α}(h:a=d)(k:¬c->b=d):(if c then a else b)=d:=by
 by_cases e:c
 .rw[if_pos e,h]
 .rw[if_neg e,k e]
theorem L7(h:a.all (foldedForSure 8)):Wq [.Tuple c k p] (.Tuple a d e) env=pure none:=by
 exact ifN rfl λ_=>ifN rfl λ_=>ifN rfl λ_=>(if_pos h).trans rfl
def CT(a:Str->Option Yh):Þ->Bool
 |.Name c _=>a c != ↑.local|_=>true
theorem L8(h:ts.any (CT env.kindOf)=true):Wq [.Tuple ts k p] (.Tuple vs k' p') env=pure none:=by
 have hl:∀ (l) (ts:Zm),ts.any (CT env.kindOf)=true->(ts.filterMap fun
   |.Name id pos=>if env.kindOf id == ↑.local&&pos.line == l then ↑id else none
   |_=>none).length < ts.length:=by
  intro l ts
  induction ts with
  |nil=>intro h;cases h
  |cons e r ih =>
   intro h;rw[List.any_cons,Wk] at h;rw[VM];split
   .rw[ã];exact _b (List.length_filterMap_le (fun
    |.Name id pos=>if env.kindOf id == ↑.local&&pos.line == l then ↑id else none
    |_=>none) r)
   .rename_i b hb;rcases h with h | h
    .exfalso;cases e with
     |Name id pos =>
      have h':(env.kindOf id != ↑_)=true:=h;simp only[bne_iff_ne,ne_eq] at h';simp[h'] at hb
     |_=>cases hb
    .have:=ih h;rw[ã,ã];exact _b this
 have:=hl ((ts.head?.map (·.pos.line)).getD 0) ts h
 exact ifN rfl λ_=>ifN rfl λ_=>(if_pos (by simp only[Wk,bne_iff_ne,ne_eq];exact .inl (Û this))).trans rfl
theorem Pk{x y:Str}{a b:Þ}{c d pt e:Pos}{k f:Nat}{g:Xw}(i:g.blockKind=.function)(j:g.kindOf x=↑.local)(l:g.kindOf y=↑.local)(m:(x == y)=false)(n:(d.line == c.line))
  (o:noStar a) (p:noStar b) (q:[a,b].all (foldedForSure 8)=false) (r:[a,b].all (constantsAlone 8)=false) :
  Wq [.Tuple [.Name x c,.Name y d] k pt] (.Tuple [a,b] f e) g=pure ↑[x,y]:=by
 have v:(Expr.Name x c).pos.line=c.line:=rfl;delta Wq
 simp[List.filterMap,head?,Option.map,Option.getD,j,l,q,r,(by rw[i];rfl:(g.blockKind != .function)=false),v,by simpa using n];simp[List.eraseDups,List.eraseDupsBy,List.eraseDupsBy.loop,(by grind:(y == x)=false),m];intro h;rcases h with h | h
 .cases a <;> first | (cases h;done) | (cases o)
 .cases b <;> first | (cases h;done) | (cases p)
def rq:Þ->Bool
 |.ListComp ..=>false|.SetComp ..=>false|.DictComp ..=>false|_=>true
theorem gE(h:rq v)(t:Zt):Yi v t n env=pure false:=by
 cases v <;> first | rfl | (cases h)
theorem xR(h:(match a with | .Name ..=>true | _=>false)=false):Yi v ↑a n env=pure false:=by
 cases v <;> first | rfl | (cases a <;> first | rfl | (cases h))
theorem JB{a b:Þ}{c:⇑Comprehension}{d:ý}{f g:Pos}{t:Str}{n:Nat}{i:Xw}(h:i.kindOf t=↑.cell\/i.kindOf t=↑.free):Yi (.DictComp a b c d f) ↑(.Name t g) n i=pure false:=by
 show(pure _:Sem Bool)=_;rw[(by rcases h with h | h <;> rw[h] <;> rfl:(i.kindOf t == ↑.local)=false),Bool.and_false,Bool.false_and,Bool.false_and]
theorem JC{a:Þ}{c:⇑Comprehension}{d:ý}{p e:Pos}{t:Str}{n:Nat}{f:Xw}:∃ b,Yi (.ListComp a c d p) ↑(.Name t e) n f=pure b:=#[_,rfl]
structure XS(lm:Bool)(X:Cx)(G:Gs)(E:XK)(N:⇑Str)(sc:Scope)(cn:⇑Str):Prop extends XI lm X G E N sc where
 sco:X.env.scope=sc
 fnk:sc.kind=.function
 own:PassesOwn (model X.prog X.w) X.A X.env X.xe
 can:uU X E
 fnx:∀ x,X.fn x=true
 cls:∀ c x,cn[c]?=↑x->X.mg x=↑↥(G.cls c)/\PySem.W.excIn X.K (G.cls c) [.type "ValueError",.type "Exception",.type "BaseException",.type "object"] "ValueError.__new__"=true
def iE(a:ý)(x:Str):Bool:=a.names.lookup x == ↑.local || a.names.lookup x == ↑.cell
section
variable {lm:Bool}{X:Cx}{G:Gs}{E:XK}{N:Zj}{sc:ý}{cn:Zj}{H0:Hp}{zE:Zk}
theorem XS.loc(x:XS lm X G E N sc cn):Ek X N (iE sc):=by
 refine#[x.hN,x.nd,λy h=>?_,λy _=>.inl (x.fnx y),x.calm];unfold iE at h;rw[Wk,Zx,Zx] at h;rw[x.sco];exact h
theorem XS.bk(x:XS lm X G E N sc cn):X.env.blockKind=.function:=by
 delta Env.blockKind
 rw[x.sco,x.fnk];rfl
theorem PS.imp{a:V9}{t c:TS}(h:PS X a t)(i:∀ D d H,c D d H->t D d H):PS X a c:=λe s d H D I q=>h e s d H D I (i _ _ _ q)
theorem eV.imp{a:⇑V9}{t c:TS}(h:eV X a t)(i:∀ D d H,c D d H->t D d H):eV X a c:=λe s d H D I q=>h e s d H D I (i _ _ _ q)
theorem Nb:eV X [] (tX X.K G E H0 zE .nil):=eV.imp td λD a H q=>by
 let(c,d,f,z,r,rw,g,e,h):=q;cases e;exact h c d a H rw g (ag.refl _)
theorem Nc(a:PS X d (tX X.K G E H0 zE s))(f:eV X rest (tX X.K G E H0 zE r)):eV X (d::rest) (tX X.K G E H0 zE (.seq s r)):=eV.imp (cg a f) λD g H q=>by
 let(h,i,j,z,k,rw,d,e,l):=q;rcases M.bind_some e with ⟨o,n,p,u⟩ | ⟨c,n,p,u⟩
 .refine#[h,i,j,z,_,rw,d,p,?_];cases o with
  |nx v=>exact λw x y A B C F=>#[w,x,v,n,k,B,C,u,l.mono F]|rt s=>cases u;exact l
 .subst u;exact#[h,i,j,z,_,rw,d,p,l]
theorem JD{D:Ends}(q:tX X.K G E H0 zE (.set p e) D σ H):Ce (tI X.K G E e) (gP X.K p) D σ H:=by
 let(a,c,d,z,f,rw,g,h,i):=q;refine cK rw.g7 g h (i.Gv rw) λl j k=>?_;let(s,hs,m):=M.ao k;refine#[s,lU hs,λv n o aZ r=>?_];let(u,w,x):=M.ao m;cases x;exact JA rw o r w λy A B C=>i a y A n B aZ C
def L9(X:Cx)(G:Gs)(E:XK)(e:Ex)(v:Þ):Prop:=∀ (i:Nat) (y:Str) (a pos:Pos),X.N.Nodup->X.N[i]?=↑y->L2.Loc X.env.scope y->Yi v ↑(.Name y a) pos.line X.env=pure true->(X.fn y=true\/X.env.scope.names.lookup y=↑.local)->PS X (.Assign [.Name y a] v pos) (Ce (tI X.K G E e) (lB i))
theorem lW.set{elt tg iter:Þ}{ifs:Zm}{cw:ý}{q:Pos}(a:X.calm)(h:lW X G E e elt tg iter ifs cw):L9 X G E e (.ListComp elt [#[tg,iter,ifs,0]] cw q):=λi y c pos d f g j k=>by
 let(own,l,m,n,o,p,r,s,u,v,w,x,z):=h;exact PS.imp (K2 d f g j a r s u v w x k) λD A H q=>z _ _ _ q
theorem RV(x:XS lm X G E N sc cn){h pos:Pos}(j:N[i]?=↑y)(k:iE sc y)(g:ay X G E e v)
  (l:∀ m n o q,v=.ListComp m n o q->L9 X G E e v) (p:∀ a b c d,v≠.SetComp a b c d)
  (r:∀ a b c d f,v=.DictComp a b c d f->sc.names.lookup y=↑.cell) :
  PS X (.Assign [.Name y h] v pos) (tX X.K G E H0 zE (.set (.v i) e)):=by
 have L:=x.loc;refine PS.imp (t:=Ce _ (lB i)) ?_ λD s H q=>by exact JD q
 have u:X.N.Nodup:=by rw[x.hN];exact x.nd
 have w:X.N[i]?=↑y:=by rw[x.hN];exact j
 by_cases z:∃ m n o q,v=.ListComp m n o q
 .let(m,n,o,q,rfl):=z;let(b,A):=JC;cases b with
  |false=>exact fY u w (L.lc y k) g.pe A (L.fn y k)|true=>exact l m n o q rfl _ _ _ _ u w (L.lc y k) A (L.fn y k)
 .by_cases B:∃ a b c d f,v=.DictComp a b c d f
  .let(a,b,c,d,f,rfl):=B;exact fY u w (L.lc y k) g.pe (JB (x.cel y (.inl (r _ _ _ _ _ rfl)))) (L.fn y k)
  .exact fY u w (L.lc y k) g.pe (gE (by cases v <;> first | rfl | exact absurd rfl (p _ _ _ _) | exact absurd #[_,_,_,_,_,rfl] B | exact absurd #[_,_,_,_,rfl] z) _) (L.fn y k)
theorem CU(x:XS lm X G E N sc cn){pos:Pos}(a:eD N (iE sc) p c)(g:ay X G E e v)(d:gj c)(f:Wq [c] v X.env=pure none) :
  PS X (.Assign [c] v pos) (tX X.K G E H0 zE (.set p e)):=by
 refine PS.imp (Hg g.pe (Be x.loc a) ?_ f ?_) λD h H q=>JD q
 .exact xR (by cases c <;> first | rfl | (cases d))
 .cases c <;> first | rfl | (cases d)
theorem RX(x:XS lm X G E N sc cn){i j:Nat}{ea eb:Ex}{a b:Þ}{y w:Str}{px py pt e pos:Pos}{k k2:Nat}(hi:N[i]?=↑y)(hj:N[j]?=↑w)(hyw:(y == w)=false)(hy:sc.names.lookup y=↑.local)(f:sc.names.lookup w=↑.local)
  (g:Good X G E (.cons ea (.cons eb .nil)) [a,b]) (hs:Wq [.Tuple [.Name y px,.Name w py] k pt] (.Tuple [a,b] k2 e) X.env=pure ↑[y,w]) :
  PS X (.Assign [.Tuple [.Name y px,.Name w py] k pt] (.Tuple [a,b] k2 e) pos) (tX X.K G E H0 zE (.set (.tup (.cons (.v i) (.cons (.v j) .nil))) (.tup (.cons ea (.cons eb .nil))))):=by
 refine PS.imp (Hh x.calm (by rw[x.hN];exact x.nd) (by rw[x.hN];exact hi) (by rw[x.hN];exact hj) (λh=>by grind) (by rw[x.sco];exact hy) (by rw[x.sco];exact f) (g.args rfl).1 hs rfl) λD σ H q=>?_
 let(n,ow,ρ,z,rr,rw,st,ee,po):=q;rcases M.bind_some ee with ⟨l0,z0,o,p⟩ | ⟨c,z1,o,p⟩
 .rcases M.bind_some o with ⟨l,z1,r,A⟩ | ⟨c,z1,r,A⟩
  .let(ds,B,C):=M.ao A;split at C
   .cases C;let(s,F,e6):=M.ao p;cases F;let(ρ',hb,e7):=M.ao e6;cases e7;refine#[n,ρ,z,_,rw.g7,st,r,λvs H1 x1 aZ I=>?_];have hd:=kR I B;let(J,r1,s1,L):=tZ rw (.d (.tup ds));have r2:=r1.mono x1;have:=zi (by
     exact hb)  r2 (by
     rcases L with L | L
     .exact jI r2.rk (by simpa [lQ,bare] using L) hd
     .have :=funext L;subst this;rw[eT];exact hd) λY σ' r' sm=>po n Y σ' H1 r' aZ (ag.trans s1 (ag.trans (bF x1) sm));unfold gL at this;let(v,vr,rfl,this):=this;unfold gP gL at this;let(u,ur,rfl,this):=this
    delta gP gL at this
    let(rfl,this):=this;exact#[v,u,rfl,this]
   .cases C
  .cases A
 .subst p;rcases M.bind_some o with ⟨l,z2,r,A⟩ | ⟨c,z2,r,A⟩
  .let(ds,B,C):=M.ao A;split at C <;> cases C
  .cases A;exact#[n,ρ,z,_,rw.g7,st,r,po.Qg rw]
theorem JE{s t:S}(h:M3 s=↑t):s=t/\t≠.z:=by
 cases s with
 |z=>cases h
 |ks _=>cases h
 |d _=>cases h;grind
 |fr _=>cases h;grind
theorem Pl(x:XS lm X G E N sc cn){p pos:Pos}(a:N[i]?=↑n)(c:aG n):PS X (.Return ↑(.Name n p) pos) (tX X.K G E H0 zE (.ret (.var i))):=by
 delta aG at c
 simp only[Á,ò] at c;refine PS.imp (yv (eE  (by rw[x.hN];exact a) (x.vis n (ë a)) c.1 c.2)) λD d H q=>?_
 let(e,f,g,z,h,rw,j,k,l):=q;have m:(match g[i]? with | ↑↑s=>Zd _ _ | _=>Zg) z=↑h:=k
 cases hs:g[i]? with
 |none=>rw[hs] at m;cases m
 |some o =>
  cases o with
  |none=>rw[hs] at m;cases m
  |some s =>
   rw[hs] at m;let(t,r,u):=M.ao m;cases u;let(rfl,w):=JE r;let(v,y,A):=rw.Ua w hs;exact#[v,y,l v H w rw.ext (Gu rw.zok j) A]
theorem RY{pos:Pos}(a:∀ i,e≠.var i)(g:ay X G E e v):PS X (.Return ↑v pos) (tX X.K G E H0 zE (.ret e)):=by
 refine PS.imp (yv g.pe) λD c H q=>?_;let(d,f,h,z,j,rw,k,m,n):=q;refine cK rw.g7 k (by
  cases e <;> first | exact m | exact absurd rfl (a _):Zd _ (λl=>Zd (Zf ((one l).bind M3)) _) z=↑j) (n.Gv rw) λl p r=>?_;let(t,u,w):=M.ao r;cases w;let(s,hs,x):=Õ.mp u;let(rfl,y):=JE x;exact#[s,lU hs,λv A B aZ C=>n v A y (CS rw.ext rw.zok B) (Gu rw.zok aZ) (rw.out y B C)]
theorem RZ{t u:Sm}{a b:⇑V9}{pos:Pos}(g:ay X G E c ce)(d:∀ t a b p,ce≠.IfExp t a b p)(e:eV X a (tX X.K G E H0 zE t))(f:eV X b (tX X.K G E H0 zE u)) :
  PS X (.If ce a b pos) (tX X.K G E H0 zE (.iff c t u)):=by
 refine PS.imp (Dx (g.pt d) e f) λD h H q=>?_;let(i,j,k,z,l,rw,m,n,o):=q;refine pW rw.g7 m n (o.Gv rw) λb r s v w aZ=>?_;have x:=rw.mono w;have y:ag (hw j (hz i H)) (hw j (hz i v)):=bF w;cases b with
 |true=>exact#[i,j,k,r,l,x,aZ,s,o.mono y]|false=>exact#[i,j,k,r,l,x,aZ,s,o.mono y]
theorem Nd{pos:Pos}(g:ay X G E e v)(h:rq v):PS X (.Expr v pos) (tX X.K G E H0 zE (.exp e)):=by
 refine PS.imp (tf g.pe (gE h none)) λD a H q=>?_;let(c,d,f,z,i,rw,j,k,m):=q;refine cK rw.g7 j k (m.Gv rw) λl o p=>?_;let(s,hs,r):=M.ao p;cases r;exact#[s,lU hs,λv u w aZ x=>m c d a u (rw.mono w) aZ (bF w)]
theorem x_raise(x:XS lm X G E N sc cn){a p2 d f:Pos}(g:cn[c]?=↑n)(h:glob sc n):PS X (.Raise ↑(.Call (.Name n a) [.Constant (.str y) k p2] [] d) none f) (tX X.K G E H0 zE (.rais c)):=by
 let(i,j,_):=bM h;let(l,m):=x.cls c n g;refine PS.imp (Ii x.can x.calm (x.glb n i) l m (cG G7 gJ) j rfl rfl) λD o H q=>?_;let(p,r,s,z,u,rw,v,w,A):=q;cases w;exact#[by show 1<=sizeLine;decide,λe B=>A e H rw.ext (Gu rw.zok v) B]
end
section
variable {K:Å}{H0 H H':Hp}{zE zA:Zk}{ow:Nat->Zk}{ρ:Env}{σ:L2.St}
theorem cI(e:jf ow i j=↑a):j≠i/\ow j=↑a:=by
 delta jf at e
 simp_all
theorem jJ:jf ow i i=none:=Zu rfl
theorem oE(h:j≠i):jf ow i j=ow j:=Zv h
theorem Bo{ρ:Env}{j:Nat}{s:S}(h:(lN ρ)[j]?=↑↑s):ρ[j]?=↑↑s/\s≠.z:=by
 delta lN at h
 rw[å] at h;let(o,a,c):=Ö.mp h;cases o with
 |none=>cases c
 |some t =>
  cases t with
  |z=>cases c
  |d x=>cases c;exact#[a,λh=>nomatch h]
  |fr x=>cases c;exact#[a,λh=>nomatch h]
  |ks x=>cases c;exact#[a,λh=>nomatch h]
theorem EB{j:Nat}(h:ρ[j]?=↑↑(.fr xs)):(lN ρ)[j]?=↑↑(.fr xs):=by
 delta lN
 rw[å,h];rfl
theorem RW.R0(r:RW K H0 none zA ow H ρ σ){i:Nat}(x:Ext zA H H')(c:H a=none)(f:zA≠↑a)(g:H' a=↑(.lst h)) :
  RW K H0 none ↑a (jf ow i) H' ((lN ρ).set i ↑.z) (σ.set i ↑↥a)/\ag (hw ow (hz zA H)) (hw (jf ow i) (hz ↑a H')):=by
 have m:=r.mono x;have A:ag (hw ow (hz zA H)) (hw (jf ow i) (hz ↑a H')):=λb o e=>by
  let(B,C):=fW e;have E:b≠a:=λq=>by
   have F :=(cT B).1
   simp_all
  exact cu (bx (cT (x b o B)).1 (λq=>by grind) (dI B)) λj q=>C j (cI q).2
 have G:(lN ρ).length=ρ.length:=by delta lN;rw[Ã]
 refine#[#[by rw[Vs,Vs,G];exact r.len,λj k b v I=>r.inj j k b (cI v).2 (cI I).2,λj b v q=>?_,λj b v=>?_,λj s e=>?_,m.ext,.inr #[rfl,λb q=>?_],λj b v=>r.new j b (cI v).2],A]
 .cases q;exact (λj b e q=>by
  let(u,v):=r.lst j b e
  simp_all:∀ j b,ow j=↑b->b≠a) j _ (cI v).2 rfl
 .let(n,I):=cI v;let(J,L):=r.own j b I;exact#[J,by rw[Ý (ü n)];exact EB L]
 .rcases getElem?_set' e with ⟨rfl,B,N⟩ | ⟨n,B⟩
  .cases B;exact#[_,í (by rw[<-r.len,<-G];exact N),jJ,a,rfl,rfl]
  .let(B,P):=Bo B;let(w,v,I):=r.wor j s B;refine#[w,by rw[Ý (ü n)];exact v,?_]
   cases s with
   |d y=>exact#[by rw[oE n];exact I.1,I.2.same A]|z=>exact absurd rfl P|ks l=>let(n0,d,q,k):=I;exact#[by rw[oE n];exact n0,d,q,k.same A]
   |fr J =>
    let(b,u,U,rfl,X,Y):=I;exact#[b,u,by rw[oE n];exact U,rfl,x.at X (r.zne j b U),Y.same A]
 .cases q;exact(r.young c f).1
theorem RW.plain(r:RW K H0 zE zA ow H ρ σ)(i:Nat):RW K H0 zE zA (jf ow i) H (ρ.set i ((ρ[i]?.getD none).map qJ)) σ:=by
 have a:=cU (H:=hz zA H) ow i;refine#[by rw[Vs];exact r.len,λj k b c f=>r.inj j k b (cI c).2 (cI f).2,λj b c=>r.zne j b (cI c).2,λj b c=>?_,λj s e=>?_,r.ext,r.zok,λj b c=>r.new j b (cI c).2]
 .let(n,f):=cI c;let(g,h):=r.own j b f;exact#[g,by rw[Ý (ü n)];exact h]
 .rcases getElem?_set' e with ⟨rfl,m,p⟩ | ⟨n,m⟩
  .cases hs:ρ[j]? with
   |none=>rw[hs] at m;cases m
   |some o =>
    rw[hs] at m;cases o with
    |none=>cases m
    |some u =>
     cases m;let(w,c,f):=r.wor j u hs;refine#[w,c,?_];cases u with
     |d y=>exact#[jJ,f.2.same a]|z=>exact#[jJ,f.2]|ks l=>let(_,d,q,k):=f;exact#[jJ,d,q,k.same a]
     |fr g =>
      let(b,v,x,rfl,A,B):=f;refine#[jJ,Hd.lst (cu (bx A (r.zne j b x)) λk q=>?_) (B.same a)];let(C,E):=cI q;exact C (r.inj k j b E x)
  .let(w,c,f):=r.wor j s m;exact#[w,c,f.move (oE n) a λ_ _=>rfl]
end
theorem bg.eraseIdx{K:Å}{H:Hp}:∀ {ds:⇑D}{a:⇑V} (n:Nat),bg K H ds a->bg K H (ds.eraseIdx n) (a.eraseIdx n)
 |[],_,n,h=>by rw[h.cC];exact .nil
 |d::ds,_,0,h=>by
  let(x,r,rfl,c,e):=h.bj;exact e
 |d::ds,_,n + 1,h=>by
  let(x,r,rfl,c,e):=h.bj;exact .cons c (bg.eraseIdx n e)
section
variable {lm:Bool}{X:Cx}{G:Gs}{E:XK}{N:Zj}{sc:ý}{cn:Zj}{H0:Hp}{zE:Zk}
theorem EC{c d:Type}{R:c->d->Prop}{a:c}{e:⇑d}(h:VX R [a] e):∃ v,e=[v]/\R a v:=by
 cases h with
 |cons f g=>cases g;exact#[_,rfl,f]
theorem aO.ah(c:aO d z H)(n:d≠↑a)(h:H a=↑(.lst xs)):aO d z (upd H a o):=by
 refine#[?_,λp e=>Tab.upd (c.tab p e) h];have c:=c.zat;cases d with
 |none=>cases z <;> exact c
 |some b =>
  cases z with
  |none=>exact c
  |some p =>
   exact(L2.ah (λq=>n (by rw[q]))).trans c
theorem JF(h:ownAt a i=↑xs):a[i]?=↑↑(.fr xs):=by
 delta ownAt at h
 split at h
 .simp_all
 .cases h
theorem ED{K:Å}{a:Zk}{H0 H:Hp}{s:S}{v:V}{x:D}(h:nV K a H0 H s v)(e:Lv s=↑x):Hd K (hz a H) x v:=h.pl.d_ e
theorem Nf(x:XS lm X G E N sc cn){p d j pos:Pos}(h1:N[i]?=↑n)(k:aG n)(ns:noStar v)(g:ay X G E e v)(hl:(d.endLine == j.line)) :
  PS X (.Expr (.Call (.Attribute (.Name n p) "append" d) [v] [] j) pos) (tX X.K G E H0 zE (.app i e)):=by
 delta aG at k
 simp only[Á,ò] at k;have ga:Good X G E (.cons e .nil) [v]:=#[v,[],rfl,ns,g,rfl,rfl];have hs:=bS ns [] X.env;refine PS.imp (tf (Hx PySem.F.plainAttrs_list PySem.F.slot_list_append PySem.F.type_list_append qO (eE  (by rw[x.hN];exact h1) (x.vis n (ë h1)) k.1 k.2) (ga.args rfl).1 rfl (by rw[hs];rfl) hl hs rfl) (gE rfl none)) λD σ H q=>?_
 let(o,ow,r,z,A,rw,st,ee,B):=q;let(C,hx,e1):=M.ao ee;let(w,k1,a,ys,I,rfl,k3,k4):=rw.wor i _ (JF hx);refine#[_,k1,.inl #[rfl,ys,jX.of k3],?_];have e2:Zd (ev G.F (.cons e .nil) r) (λm=>Zd (Zf (pl m)) λx=>if bare x=true/\C.length < most then Ze (O.nx (r.set i ↑(.fr (C++[x])))) else Zg) z=↑A\/∃ c J,ev G.F e r z=↑(.er c J)/\A=.er c J:=by
  rcases M.bind_some e1 with ⟨l,J,L,e4⟩ | ⟨c,J,L,e4⟩
  .let(y,hy,P):=M.ao e4;let(s,rfl,hs):=bZ hy;refine .inl ?_;show Zd (Zd _ _) _ z=↑A;have b:∀ {α β:Type}{m:M α}{f:α->M β}{z:Z}{a:α}{J:Z},m z=↑(.ok a J)->Zd m f z=f a J:=λh=>by delta Zd;rw[h]
   rw[b   (by rw[b L];rfl)]
   simp_all
  .exact .inr #[c,J,L,e4]
 rcases e2 with e2 | ⟨c,J,L,rfl⟩
 .refine pV rw.g7 st e2 (B.Gv rw) λl J L vs H1 U aZ rvs=>?_;let(y,hy,P):=M.ao L;let(s,rfl,hs):=bZ hy;split at P
  .rename_i hb;cases P;let(u,rfl,ru):=EC rvs;have r1:=rw.mono U;have Y:=U.at k3 (rw.zne i a I);have k4':bg X.K (hw ow (hz o H1)) C ys:=k4.same (bF U);have hd:=nB r1.rk hb.1 (ED ru hs);refine#[a,ys,u,rfl,rfl,Y,Ñ (by rw[k4.length];exact hb.2) (d9 (Ò _)),?_]
   refine B o ow σ _ (r1.upd I (k4'.append (.cons hd .nil))) ?_ (ag.trans (bF U) (EA I));exact aZ.ah (rw.zne i a I) Y
  .cases P
 .refine#[o,r,z,.er c J,rw.g7,st,?_,B.Qg rw];show Zd (ev G.F e r) _ z=_;simp only[Zd,L]
theorem JG(x:XS lm X G E N sc cn){i f:Nat}{as:Ex}{y:Str}{v:Þ}{c pos:Pos}(d:N[i]?=↑y)(e:iE sc y)(g:ay X G E (.call f as) v)(h:rq v) :
  PS X (.Assign [.Name y c] v pos) (tX X.K G E H0 zE (.newz i f as)):=by
 have L:=x.loc;refine PS.imp (fY  (by rw[x.hN];exact x.nd) (by rw[x.hN];exact d) (L.lc y e) g.pe (gE h _) (L.fn y e)) λD j H q=>?_
 let(zA,ow,ρ,z,rr,rw,k,m,n):=q;refine cK rw.g7 k m (n.Gv rw) λl z1 o=>?_;have p :=o;unfold xG at p;split at p
 .split at p
  .cases p;have r:zE=none:=by simp_all
   subst r;refine#[_,rfl,λu s w aZ A=>?_];let(a,ys,rfl,B,C,F,I):=A;let(v1,v2,rfl,J,P):=I.two;cases J.cS;cases P.xH;let(U,Y):=rw.R0  w B C F;exact n _ _ _ s U #[F,aZ.tab] Y
  .cases p
 .cases p
set_option tactic.hygienic true in
theorem JH(x:XS lm X G E N sc cn){i:Nat}{n:Str}{e:Ex}{v:Þ}{c:Nat}{p q d pos:Pos}(f:N[i]?=↑n)(j:aG n)(g:ay X G E e v) :
  PS X (.Assign [.Subscript (.Name n p) (.Constant (~~~0) c q) d] v pos) (tX X.K G E H0 zE (.zset i e)):=by
 delta aG at j
 simp only[Á,ò] at j;refine PS.imp (Hg g.pe (NO (eE  (by rw[x.hN];exact f) (x.vis n (ë f)) j.1 j.2) uy set_list (by intro u;rfl)) (show Yi v ↑(.Subscript (.Name n p) (.Constant (~~~0) c q) d) pos.line X.env=pure false from xR rfl) (rfl)) λD k H q=>?_
 let(zA,m,ρ,z,rr,rw,st,ee,r):=q;refine cK rw.g7 st ee (r.Gv rw) λl z1 e1=>?_;let(y,hy,e2):=M.ao e1;let(dy,A,B):=Õ.mp hy;let(s,rfl,hs):=bZ A;refine#[s,rfl,λu C F aZ rv=>?_];have I :=e2;unfold IL at I;split at I
 .rename_i p' J;cases I;have L:=rw.mono F;let(w,k1,k2,a,rfl,rfl):=L.wor i .z J;have hu:u= ~~~y:=by
   have:=ED rv hs;cases dy <;> first | (cases B;exact this.cS) | (cases B)
  subst hu;have P :=aZ.zat;refine#[_,k1,a,_,0,0,rfl,rfl,P,rfl,?_];have U:Ext ↑a C (upd C a (.lst [~~~y,.bl p'.2])):=by
   refine#[λb o h=>?_,λb ps h=>#[ps,by rw[ah (λz=>by rw[z,P] at h;cases h)];exact h]]
   let(h3,Y):=cT h;exact bx (by rw[ah (λz=>Y (by rw[z]))];exact h3) Y (dI h)
  exact r ↑a m k _ (L.mono U) #[aB,λp hp=>Tab.upd (aZ.tab p hp) P] (ag.trans (bF F.same) (bF U.same))
 .cases I
theorem Ng(x:XS lm X G E N sc cn){c:Ex}{b:Sm}{ce:Þ}{body:⇑V9}{pos:Pos}(g:ay X G E c ce)(hn:∀ t a b p,ce≠.IfExp t a b p)(hb:eV X body (tX X.K G E H0 zE b)):PS X (.While ce body [] pos) (tX X.K G E H0 zE (.whl c b)):=by
 refine PS.imp (Hi x.own (g.pt hn) hb) λD σ H q=>?_;let(zA,ow,ρ,z,rr,rw,st,ee,po):=q;refine#[λm σ H=>∃ zA ow ρ z r,RW X.K H0 zE zA ow H ρ σ/\aO zA z H/\F8 _ _ m ρ z=↑r/\fX X.K G E H0 zE (hw ow (hz zA H)) D r,#[F9,zA,ow,ρ,z,rr,rw,st,ee,po],?_];rintro m σ H ⟨zA,ow,ρ,z,rr,rw,st,ee,po⟩;cases m with
 |zero=>cases ee
 |succ m =>
  refine pW rw.g7 st ee (po.Gv rw) λk z1 e1 H1 x1 aZ=>?_;have r1:=rw.mono x1;have sm:ag (hw ow (hz zA H)) (hw ow (hz zA H1)):=bF x1;cases k with
  |false =>
   cases e1;exact po zA ow σ H1 r1 aZ sm
  |true =>
   refine#[_,λσ' H' h=>#[m,Xs m,h],?_];rcases M.bind_some e1 with ⟨o,z2,e3,e4⟩ | ⟨k,z2,e3,e4⟩
   .refine#[zA,ow,ρ,z1,_,r1,aZ,e3,?_];cases o with
    |nx ρ1=>exact λzA' ow' σ' H' rw' st' sm'=>#[zA',ow',ρ1,z2,rr,rw',st',e4,po.mono (ag.trans sm sm')]|rt s=>cases e4;exact po
   .subst e4;exact#[zA,ow,ρ,z1,_,r1,aZ,e3,po]
end
section
variable {K:Å}{H0 H H':Hp}{zE zA:Zk}{ow:Nat->Zk}{ρ:Env}{σ:L2.St}
theorem RW.Ub(r:RW K H0 zE zA ow H ρ σ):RW K H0 zE zA (jf ow i) H (ρ.set i none) (σ.set i ↑v):=by
 have sub:∀ j a,jf ow i j=↑a->j≠i/\ow j=↑a:=λj a e=>by
  delta jf at e
  simp_all
 refine#[by rw[Vs,Vs];exact r.len,λj k a c d=>r.inj j k a (sub j a c).2 (sub k a d).2,λj a c=>r.zne j a (sub j a c).2,λj a c=>?_,λj s e=>?_,r.ext,r.zok,λj a c=>r.new j a (sub j a c).2]
 .let(n,d):=sub j a c;let(f,g):=r.own j a d;exact#[f,by rw[Ý (ü n)];exact g]
 .rcases getElem?_set' e with ⟨rfl,h,l⟩ | ⟨n,h⟩
  .cases h
  .let(w,c,d):=r.wor j s h;exact#[w,by rw[Ý (ü n)];exact c,d.move (by exact Zv n) (cU _ _) λ_ _=>rfl]
end
section
variable {lm:Bool}{X:Cx}{G:Gs}{E:XK}{N:Zj}{sc:ý}{cn:Zj}{H0:Hp}{zE:Zk}{c P:Ê}{q:Str}{k:Nat}{fR:Ê}{fdR:V2}
inductive LB (X:Cx) (G:Gs) (N:⇑Str) (sc:Scope) (H0:Hp) (zE:Option Addr) (q:Str) (i:Nat) (done:⇑(⇑Nat × Ex)) (Rn:Env->Z->Prop) (B:Hp) (σ:L2.St) (H:Hp):Prop where
 |mk (zA ow ρ z Ld ts Hb) (h0_:RW X.K H0 zE zA ow Hb ρ σ) (h1_:Hb Ld=none) (h2_:Ext zA Hb H) (h3_:ag B (hw ow (hz zA Hb))) (h4_:aO zA z H) (h5_:σ[i]?=↑↑↥Ld) (h6_:H Ld=↑(.lst (ts.map λt=>↥t.f))) (h7_:zA≠↑Ld) (h8_:Paired (xP X G N sc q H) ts done) (h9_:Rn ρ z):LB X G N sc H0 zE q i done Rn B σ H
inductive LC (X:Cx) (G:Gs) (N:⇑Str) (sc:Scope) (H0:Hp) (zE:Option Addr) (q:Str) (i:Nat) (all:⇑(⇑Nat × Ex)) (Rn:Env->Z->Prop) (B:Hp) (σ:L2.St) (H:Hp):Prop where
 |mk (zA ow ρ z Ld ts) (h0_:RW X.K H0 zE zA ow H ρ σ) (h1_:ag B (hw ow (hz zA H))) (h2_:aO zA z H) (h3_:σ[i]?=↑↑↥Ld) (h4_:H Ld=↑(.lst (ts.map λt=>↥t.f))) (h5_:zA≠↑Ld) (h6_:Paired (xP X G N sc q H) ts all) (h7_:Rn ρ z):LC X G N sc H0 zE q i all Rn B σ H
theorem LB.lc(h:LB X G N sc H0 zE q i all Rn B σ H):LC X G N sc H0 zE q i all Rn B σ H:=by
 let(a,d,e,z,f,g,j,rw,l,m,sb,n,o,p,r,pr,run):=h;exact#[a,d,e,z,f,g,rw.mono m,ag.trans sb (bF m.same),n,o,p,r,pr,run]
theorem Bp(h:sU X q H t)(a:H d=↑(.lst e)):sU X q (upd H d o) t :=
 #[h.form,by rw[ah (λz=>by have:=h.fn;simp_all)];exact h.fn,by rw[ah (λz=>by have:=h.rc;grind)];exact h.rc,h.cl1,h.cl2]
theorem Ma(x:Ext a d H)(n:d f=none):Ext a d (upd H f o):=by
 refine#[λb u e=>?_,λb g e=>?_]
 .let(i,j):=cT e;refine bx ?_ j (dI e);rw[ah (aD i n)];exact(cT (x.same b u e)).1
 .let(l,h):=x.dk b g e;exact#[l,by rw[ah (aD e n)];exact h]
theorem Pm(L:gR X G sc c P q k fR fdR)(hs:nZ a sc (aF N d)):SF X a ((aF N d).map (·.1)):=by
 refine BB.b7 hs λs1 e f g h i j=>?_;simp only[ò,Zx,VT,Zw] at s1 e f g h i j;refine#[λy l m=>?_,λy l=>by simpa using g y l,λy l=>?_,s1,e,f]
 .have:=h y l;rw[m] at this;unfold Env.kindOf;rw[L.sco];simpa using this
 .let(pr,n,rfl):=Ç.mp l;exact i pr n
theorem EE(h:sU X q H t)(x:Ext d H e)(f:∀ {a:Ê}{p:þ->Prop},H a=↑(.ext p)->d≠↑a):sU X q e t:=#[h.form,x.at h.fn (f h.fn),x.at h.rc (f h.rc),h.cl1,h.cl2]
theorem JI(d:aO f z H)(h:H a=↑(.ext p)):f≠↑a:=λe=>by
 subst e;have:=d.zat;cases z with
 |none=>exact this.elim
 |some pr =>
  have g:H a=↑_:=this;rw[h] at g;cases g
theorem Bq(L:gR X G sc c P q k fR fdR)(f:Jx G N sc d a e body):PE X (.Lambda noArgs body e g) (λh H Q=>∃ i z,aO i z H/\∀ t j,t.bJ=e->t.body=body->xP X G N sc q j t (d,a)->Ext i H j->aO i z j->H t.f=none->Q ↥t.f j):=by
 have l:=Pm  L f.hs;refine PE.imp (Oo  L.code L.hd L.qual rfl L.bm l.hfr) λh H Q m=>?_;let(i,z,n,o):=m;have p:=n.tab _ L.tb;refine#[p,λcl r s u v j w x y A B C F=>?_];exact o #[r,s,cl,u,v,e,body,_] j rfl rfl #[#[l,C,F,w,x],rfl,f] (Bl A p y) (Ew A p y L.uq n) B
theorem Br{a d:Type}{R:a->d->Prop}{x:a}{y:d}(r:R x y):∀ {e:⇑a}{f:⇑d},VX R e f->VX R (e++[x]) (f++[y])
 |_,_,.nil=>.cons r .nil|_,_,.cons h t=>.cons h (Br r t)
theorem CV(e:aO f z H)(x:Ext f H g)(h:VX (xP X G N sc q H) i ls):VX (xP X G N sc q g) i ls:=VX.An h λ_ _ #[a,b,d]=>#[EE a x λh=>JI e h,b,d]
theorem JJ(x:XS lm X G E N sc cn)(L:gR X G sc c P q k fR fdR){d e p pos:Pos}(g:N[i]?=↑y)(j:iE sc y)(f:Jx G N sc l a m body){Rn:Env->Z->R O->Prop} :
  PS X (.Assign [.Name y p] (.List [.Lambda noArgs body m d] e) pos) (λD n H=>∃ o r s z u,RW X.K H0 zE o r H s n/\aO o z H/\i < s.length/\Rn (s.set i none) z u/\∀ v w,LB X G N sc H0 zE q i [(l,a)] (λs z=>Rn s z u) (hw r (hz o H)) v w->D.nx v w):=by
 have A:=x.loc;refine PS.imp (fY (by rw[x.hN];exact x.nd) (by rw[x.hN];exact g) (A.lc y j) (Ck (cG (Bq L f) gJ)) rfl (A.fn y j)) λD n H B=>?_
 let(o,r,s,z,u,rw,C,F,run,I):=B;refine#[o,z,C,λt H2 _ _ lt J eF nf=>#[by show 1<=sizeLine;decide,λp U=>?_]]
 exact I _ _ #[o,_,_,z,p,[t],H2,(rw.mono J).Ub ,U,Ext.of (ag.new _ U),ag.trans (bF J) (cU _ _),eF.same (ag.new _ U),í (by rw[<-rw.len];exact F),aB,eF.vf U,.cons #[EE lt.1 (Ext.of (ag.new _ U)) λh=>JI eF h,lt.2] .nil,run]
theorem JK(x:XS lm X G E N sc cn)(L:gR X G sc c P q k fR fdR){d p e g pos:Pos}(h:N[i]?=↑y)(j:aG y)(hl:(e.endLine == g.line))(f:Jx G N sc au a bJ body){done:⇑(Zh × Ex)}{Rn:Env->Z->R O->Prop}(hd:done.length < 1000) :
  PS X (.Expr (.Call (.Attribute (.Name y p) "append" e) [.Lambda noArgs body bJ d] [] g) pos) (λD l H=>∃ B m,LB X G N sc H0 zE q i done (λn z=>Rn n z m) B l H/\∀ o r,LB X G N sc H0 zE q i (done++[(au,a)]) (λn z=>Rn n z m) B o r->D.nx o r):=by
 unfold aG at j;simp only[Á,ò] at j;refine PS.imp (tf (Hx PySem.F.plainAttrs_list PySem.F.slot_list_append PySem.F.type_list_append qO (eE  (by rw[x.hN];exact h) (x.vis y (ë h)) j.1 j.2) (cG (Bq L f) gJ) rfl rfl hl rfl rfl) (gE rfl none)) λD l H qq=>?_
 obtain⟨B,m,⟨s,ow,n,z,w,ts,Hb,rw,A,xb,sb,C,I,J,K,pr,run⟩,po⟩:=qq;refine#[_,I,.inl #[rfl,_,jX.of J],s,z,C,λt H2 _ _ lt U eF nf=>?_];have Y:=U.at J K;refine#[w,_,_,rfl,rfl,Y,?_,?_]
 .rw[Ã,pr.length];exact Ñ hd (-0)
 .refine po _ _ #[s,ow,n,z,w,_,Hb,rw,A,Ma (xb.trans U) A,sb,eF.ah K Y,I,?_,K,Br #[Bp lt.1 Y,lt.2] (VX.An (CV C U pr) λ_ _ #[u,v]=>#[Bp u Y,v]),run];rw[gV];exact aB
inductive Nh (X:Cx) (G:Gs) (E:XK) (N:⇑Str) (sc:Scope) (H0:Hp) (zE:Option Addr) (q:Str) (i:Nat) (all:⇑(⇑Nat × Ex)) (Rn:Env->Z->R O->Prop) (D:Ends) (σ:L2.St) (H:Hp):Prop where
 |mk (B rr) (h0_:LC X G N sc H0 zE q i all (λρ z=>Rn ρ z rr) B σ H) (h1_:fX X.K G E H0 zE B D rr):Nh X G E N sc H0 zE q i all Rn D σ H
abbrev Pn(F:FT)(a:Bool)(all:⇑(Zh × Ex))(e:Ex)(t r:Sm)(d:Env)(z:Z)(f:R O):Prop:=lO F all e (ex F a t) (ex F a r) d z=↑f
set_option tactic.hygienic true in
theorem JL(L:gR X G sc c P q k fR fdR){i:Nat}{all:⇑(Zh × Ex)}{e:Ex}{t r:Sm}{f:L2.St}{H:Hp}{D:Ends}{B:Hp}{g:R O}{Q:Bool->Hp->Prop}(lb:LC X G N sc H0 zE q i all (λh z=>Pn G.F zE.isNone all e t r h z g) B f H)(j:fX X.K G E H0 zE B D g)
  (hQ:∀ b m n h z p,RW X.K H0 zE m n p h f->aO m z p->Zd (if b=true then ex G.F zE.isNone t h else Ze (.nx h)) (λo=>match o with
   |.nx h=>ex G.F zE.isNone r h
   |.rt s=>Ze (.rt s)) z=↑g->fX X.K G E H0 zE (hw n (hz m p)) D g->Q b p) :
  Ho (MQ (tM X.K λa b=>(fB .ne a b).map λc=>.d (.bl c)) (SK X G N sc q i all) (tI X.K G E e)) f H Q:=by
 let(m,n,h,z,Ld,ts,rw,sb,st,eL,hL,zL,pr,run):=lb
 delta Pn lO at run
 split at run
 .cases run
 .rename_i cs z1 u;refine#[m,h,z,cs,z1,Ld,ts,rw.g7,st,u,eL,hL,zL,pr,λv H1 x aZ rv=>?_];have y:=rw.mono x;refine cK y.g7 aZ run ((j.mono (ag.trans sb (bF x.same))).Gv y) λl A e1=>?_;let(d,hd,e2):=M.ao e1;let(s,rfl,C):=bZ hd;refine#[s,rfl,λw H2 I eF J=>?_];let(b,hb,e3):=M.ao e2;refine#[m,A,_,d,.d (.bl b),eF,(show Al X.K m H1 _ v from rv.pl).mono I,ED J C,by rw[hb];rfl,λv' p U Y=>#[b,Hd.xH (show Hd X.K (hz m p) _ v' from Y),?_]]
  have x3:=x.trans (I.trans (Ext.of U));exact hQ b m n h A p (rw.mono x3) (eF.same U) e3 (j.mono (ag.trans sb (bF x3.same)))
theorem EG{D:Ends}{t r:Sm}{b:Bool}(rw:RW X.K H0 zE a d H f σ)(g:aO a z H)(e:Zd (if b=true then ex G.F zE.isNone t f else Ze (.nx f)) (λo=>match o with
   |.nx f=>ex G.F zE.isNone r f
   |.rt s=>Ze (.rt s)) z=↑h) (i:fX X.K G E H0 zE (hw d (hz a H)) D h):if b=true then tX X.K G E H0 zE t { D with nx:=tX X.K G E H0 zE r D } σ H else tX X.K G E H0 zE r D σ H:=by
 cases b with
 |true =>
  rcases M.bind_some e with ⟨o,j,l,m⟩ | ⟨c,j,l,m⟩
  .refine#[a,d,f,z,_,rw,g,l,?_];cases o with
   |nx n=>exact λp u v w x y A=>#[p,u,n,j,h,x,y,m,i.mono A]|rt s=>cases m;exact i
  .subst m;exact#[a,d,f,z,_,rw,g,l,i]
 |false=>exact#[a,d,f,z,h,rw,g,e,i]
theorem R1(x:XS lm X G E N sc cn)(L:gR X G sc c P q k fR fdR){p p2 a d pos f g ip:Pos}{all:⇑(Zh × Ex)}{t r:Sm}(h:N[i]?=↑y)(j:aG y)(nn:aG n)(l:sX m sc N [n] [])(o:glob m "_law_refused")(s:all.length<=1000)(hs:fF rhs)(ge:ay X G E e rhs)(u:eV X body (tX X.K G E H0 zE t))(v:eV X rest (tX X.K G E H0 zE r)) :
  eV X (.If (.Compare (.ListComp (.Call (.Name "_law_refused" p) [.Name n p2] [] pos) [#[.Name n a,.Name y d,[],0]] m f) [.NotEq] [rhs] g) body [] ip::rest) (Nh X G E N sc H0 zE q i all (Pn G.F zE.isNone all e t r)):=by
 refine eV.imp (cg (Dx (oV (A3 x.room.units .ne) (Ez x.toXI L h j nn l o s) ge.pe (vn hs _)) u td) v) λD w H A=>?_;let(B,C,I,J):=A;exact JL L I J λb U ow ρ z H3 rw Y e J=>EG rw Y e J
def Po(F:FT)(a:Bool)(all:⇑(Zh × Ex))(j:Nat)(e:Ex)(t r:Sm)(f:Env)(z:Z)(g:R O):Prop:=∃ b,f[j]?=↑↑(.d (.bl b))/\(if b=true then lO F all e (ex F a t) (ex F a r) f else ex F a r f) z=↑g
theorem Pp(x:XS lm X G E N sc cn)(L:gR X G sc c P q k fR fdR){p p2 a d pos f g ip h l:Pos}{all:⇑(Zh × Ex)}{t r:Sm}(m:N[i]?=↑y)(o:N[j]?=↑w)(s:aG w)(ny:aG y)(nn:aG n)(cc:sX u sc N [n] [])(hg:glob u "_law_refused")(A:all.length<=1000)(hs:fF rhs)(ge:ay X G E e rhs)(ht:eV X body (tX X.K G E H0 zE t))(hr:eV X rest (tX X.K G E H0 zE r)) :
  eV X (.If (.BoolOp .And [.Name w h,.Compare (.ListComp (.Call (.Name "_law_refused" p) [.Name n p2] [] pos) [#[.Name n a,.Name y d,[],0]] u f) [.NotEq] [rhs] g] l) body [] ip::rest) (Nh X G E N sc H0 zE q i all (Po G.F zE.isNone all j e t r)):=by
 delta aG at s
 simp only[Á,ò] at s;refine eV.imp (cg (Dx (G8 (yu (eE  (by rw[x.hN];exact o) (x.vis w (ë o)) s.1 s.2)) (Dt (oV (A3 x.room.units .ne) (Ez x.toXI L m ny nn cc hg A) ge.pe (vn hs _)))).pt ht td) hr) λD σ H qq=>?_
 obtain⟨B,rr,⟨C,I,J,z,Ld,ts,rw,sb,U,eL,hL,zL,pr,b,eb,run⟩,Y⟩:=qq;let(v,e1,e2):=rw.g7 j _ eb;refine#[v,e1,b,Hd.xH (show Hd X.K (hz C H) _ v from e2),?_];cases b with
 |true =>
  exact JL L #[C,I,J,z,Ld,ts,rw,sb,U,eL,hL,zL,pr,run] Y λb C I J z H3 rw U e Y=>EG rw U e Y
 |false =>
  exact#[C,I,J,z,rr,rw,U,run,Y.mono sb]
theorem Pq(x:XS lm X G E N sc cn){f pos:Pos}{all:⇑(Zh × Ex)}{t r:Sm}(g:N[j]?=↑w)(h:i≠j)(m:iE sc w)(n:ay X G E a v)(p:∀ o,Yi v o pos.line X.env=pure false)(hr:eV X rest (Nh X G E N sc H0 zE q i all (Po G.F zE.isNone all j e t r))) :
  eV X (.Assign [.Name w f] v pos::rest) (Nh X G E N sc H0 zE q i all λs z y=>rS G.F all ↑(j,a) e (ex G.F zE.isNone t) (ex G.F zE.isNone r) s z=↑y):=by
 have A:=x.loc;refine eV.imp (cg (fY (by rw[x.hN];exact x.nd) (by rw[x.hN];exact g) (A.lc w m) n.pe (p _) (A.fn w m)) hr) λD σ H qq=>?_
 obtain⟨B,y,⟨zA,ow,s,z,Ld,ts,rw,sb,C,eL,hL,I,pr,run⟩,J⟩:=qq;have run:(if j < s.length then Zd _ _ else Zg) z=↑y:=run;by_cases K:j < s.length
 rotate_left
 .rw[Zv K] at run;cases run
 rw[Zu K] at run;refine cK rw.g7 C run ((J.mono sb).Gv rw) λl z1 e1=>?_;let(b,p1,e2):=M.ao e1;let(d,p2,L):=Õ.mp p1;let(s1,rfl,q1):=bZ p2;refine#[s1,rfl,λu H1 U aZ rv=>?_];have hd:=rv.pl.d_ q1;cases d with
 |bl c' =>
  cases L;have hu:=hd.xH;subst hu;refine#[B,y,#[zA,_,_,z1,Ld,ts,(rw.mono U).Pj  (x:=.bl b)  (rfl),ag.trans sb (ag.trans (bF U.same) (cU _ _)),aZ,by rw[Ý (ü h)];exact eL,U.at hL I,I,CV C U pr,b,?_,?_],J]
  .exact í K
  .cases b <;> exact e2
 |_=>cases L
def Pu:(a:⇑V9)->Option {u:Str × Pos × Þ × ý × Pos × Pos × Pos × ⇑V9 // a=.Assign [.Name u.1 u.2.1] (.List [.Lambda #[[],[],none,[],[],none,[]] u.2.2.1 u.2.2.2.1 u.2.2.2.2.1] u.2.2.2.2.2.1) u.2.2.2.2.2.2.1::u.2.2.2.2.2.2.2}
 |.Assign [.Name y p] (.List [.Lambda #[[],[],none,[],[],none,[]] b l d] q) pos::e=>↑#[(y,p,b,l,d,q,pos,e),rfl]|_=>none
def Pw:(a:⇑V9)->Option {u:Str × Pos × Str × Pos × Þ × ý × Pos × Pos × Pos × ⇑V9 // a=.Expr (.Call (.Attribute (.Name u.1 u.2.1) u.2.2.1 u.2.2.2.1) [.Lambda #[[],[],none,[],[],none,[]] u.2.2.2.2.1 u.2.2.2.2.2.1 u.2.2.2.2.2.2.1] [] u.2.2.2.2.2.2.2.1) u.2.2.2.2.2.2.2.2.1::u.2.2.2.2.2.2.2.2.2}
 |.Expr (.Call (.Attribute (.Name y p) d e) [.Lambda #[[],[],none,[],[],none,[]] b l f] [] g) pos::h=>↑#[(y,p,d,e,b,l,f,g,pos,h),rfl]|_=>none
structure Ni where
 g:Str
 p:Pos
 n:Str
 p2:Pos
 pos:Pos
 n3:Str
 p3:Pos
 y:Str
 p4:Pos
 cw:Scope
 ps:Pos
 rhs:Expr
 cp:Pos
 body:⇑Stmt
 ip:Pos
 rest:⇑Stmt
def R3:(a:⇑V9)->Option {u:Ni // a=.If (.Compare (.ListComp (.Call (.Name u.g u.p) [.Name u.n u.p2] [] u.pos) [#[.Name u.n3 u.p3,.Name u.y u.p4,[],0]] u.cw u.ps) [.NotEq] [u.rhs] u.cp) u.body [] u.ip::u.rest}
 |.If (.Compare (.ListComp (.Call (.Name g p) [.Name n p2] [] pos) [#[.Name d e,.Name y f,[],0]] h i) [.NotEq] [rhs] j) l [] ip::m=>↑#[#[g,p,n,p2,pos,d,e,y,f,h,i,rhs,j,l,ip,m],rfl]|_=>none
def Px:(a:⇑V9)->Option {u:(Str × Pos × Pos) × Ni // a=.If (.BoolOp .And [.Name u.1.1 u.1.2.1,.Compare (.ListComp (.Call (.Name u.2.g u.2.p) [.Name u.2.n u.2.p2] [] u.2.pos) [#[.Name u.2.n3 u.2.p3,.Name u.2.y u.2.p4,[],0]] u.2.cw u.2.ps) [.NotEq] [u.2.rhs] u.2.cp] u.1.2.2) u.2.body [] u.2.ip::u.2.rest}
 |.If (.BoolOp .And [.Name w d,.Compare (.ListComp (.Call (.Name g p) [.Name n p2] [] pos) [#[.Name e f,.Name y h,[],0]] i j) [.NotEq] [rhs] l] m) o [] ip::r=>↑#[((w,d,m),#[g,p,n,p2,pos,e,f,y,h,i,j,rhs,l,o,ip,r]),rfl]|_=>none
def Py:(a:⇑V9)->Option {u:Str × Pos × Þ × Pos × ⇑V9 // a=.Assign [.Name u.1 u.2.1] u.2.2.1 u.2.2.2.1::u.2.2.2.2}
 |.Assign [.Name w p] v pos::d=>↑#[(w,p,v,pos,d),rfl]|_=>none
def Mb(a:⇑(Str × Zj))(nums:⇑(Str × Int))(sc:ý)(N:Zj)(u:Zh × Ex)(d:ý)(e:Þ):Bool:=(aF N u.1).length == u.1.length&&nZ d sc (aF N u.1)&&!cH u.2&&mt false a nums u.2 d ((aF N u.1).map (·.1)) [e]
theorem t9(h:Mb G.fns G.nums sc N u a body):Jx G N sc u.1 u.2 a body:=by
 unfold Mb at h;simp only[Á,Zx] at h;obtain⟨⟨⟨d,e⟩,f⟩,g⟩:=h;exact#[d,e,aM f,λk {X E} i=>sound _ u.2 i g]
def xS(a:⇑(Str × Zj))(nums:⇑(Str × Int))(sc:ý)(N:Zj)(i:Nat):⇑(Zh × Ex)->⇑V9->Option ⇑V9
 |[],d=>↑d
 |u::r,d=>match Pw d with
  |none=>none|↑v=>if v.1.2.2.1 == ("append":Str)&&N[i]? == ↑v.1.1&&aG v.1.1&&v.1.2.2.2.1.endLine == v.1.2.2.2.2.2.2.2.1.line&&Mb a nums sc N u v.1.2.2.2.2.2.1 v.1.2.2.2.2.1 then xS a nums sc N i r v.1.2.2.2.2.2.2.2.2.2 else none
inductive R4 (X:Cx) (G:Gs) (E:XK) (N:⇑Str) (sc:Scope) (H0:Hp) (zE:Option Addr) (q:Str) (i:Nat) (done:⇑(⇑Nat × Ex)) (Rn:Env->Z->R O->Prop) (D:Ends) (σ:L2.St) (H:Hp):Prop where
 |mk (B rr) (h0_:LB X G N sc H0 zE q i done (λρ z=>Rn ρ z rr) B σ H) (h1_:fX X.K G E H0 zE B D rr):R4 X G E N sc H0 zE q i done Rn D σ H
set_option tactic.hygienic true in
theorem EH(x:XS lm X G E N sc cn)(L:gR X G sc c P q k fR fdR){i:Nat}{Rn:Env->Z->R O->Prop}{a:⇑V9}:∀ (d done:⇑(Zh × Ex)) (f:⇑V9),xS G.fns G.nums sc N i d f=↑a->done.length + d.length<=1000->eV X a (R4 X G E N sc H0 zE q i (done++d) Rn)->eV X f (R4 X G E N sc H0 zE q i done Rn)
 |[],done,f,h,_,g=>by
  cases h
  simp_all
 |u::d,done,f,h,j,g=>by
  unfold xS at h;split at h
  .cases h
  .rename_i v l;split at h
   .rename_i m;simp[Á,Zx] at m;obtain⟨⟨⟨⟨n,b2⟩,b3⟩,b4⟩,b5⟩:=m;let(v,e):=v;rw[e,n];refine eV.imp (cg (JK  (H0:=H0) (zE:=zE) (Rn:=Rn) x L b2 b3 (by rw[Zx];exact b4) (t9 b5) (Ñ (_b (VO _ _)) j)) (EH x L d (done++[u]) _ h (by rw[Ó];exact Í (WA (_B _ _ _)) j) (by rw[Ø];exact g))) λD p H r=>?_
    let(B,s,w,y):=r;exact#[B,s,w,λz A C=>#[B,s,C,y]]
   .cases h
def Mc(lm:Bool)(a:⇑(Str × Zj))(nums:⇑(Str × Int))(sc:ý)(N:Zj)(i:Nat)(e:Ex)(w:Ni):Bool:=w.g == ("_law_refused":Str)&&N[i]? == ↑w.y&&aG w.n&&w.n == w.n3&&kg w.cw sc N [w.n] []&&glob w.cw "_law_refused"&&fF w.rhs&&!cH e&&mt lm a nums e sc N [w.rhs]
def R5:Þ->Bool
 |.ListComp ..=>false|.SetComp ..=>false|.DictComp ..=>false|_=>true
def JM(lm:Bool)(d:⇑(Str × Zj))(nums:⇑(Str × Int))(sc:ý)(N:Zj)(i:Nat)(g:Option (Nat × Ex))(e:Ex)(f:⇑V9):Option Ni:=match g with
 |none=>match R3 f with
  |none=>none|↑w=>if Mc lm d nums sc N i e w.1 then ↑w.1 else none
 |↑(j,a)=>match Py f with
  |none=>none
  |↑v=>match Px v.1.2.2.2.2 with
   |none=>none|↑w=>if Mc lm d nums sc N i e w.1.2&&i != j&&N[j]? == ↑v.1.1&&v.1.1 == w.1.1.1&&iE sc v.1.1&&aG v.1.1&&R5 v.1.2.2.1&&!cH a&&mt lm d nums a sc N [v.1.2.2.1] then ↑w.1.2 else none
set_option tactic.hygienic true in
theorem EI(x:XS lm X G E N sc cn)(L:gR X G sc c P q k fR fdR){i:Nat}{y:Str}(d:N[i]?=↑y)(f:aG y){all:⇑(Zh × Ex)}{g:Option (Nat × Ex)}{e:Ex}{t r:Sm}{l:⇑V9}{w:Ni}(m:all.length<=1000)(h:JM lm G.fns G.nums sc N i g e l=↑w)(ht:eV X w.body (tX X.K G E H0 zE t))(hr:eV X w.rest (tX X.K G E H0 zE r)):eV X l (Nh X G E N sc H0 zE q i all λρ z rr=>rS G.F all g e (ex G.F zE.isNone t) (ex G.F zE.isNone r) ρ z=↑rr):=by
 delta JM at h
 split at h
 .split at h
  .cases h
  .rename_i p s;split at h
   .rename_i u;cases h
    delta Mc at u
    simp only[Á,Zx] at u;obtain⟨⟨⟨⟨⟨⟨⟨⟨c1,c2⟩,c3⟩,c4⟩,c5⟩,A⟩,B⟩,C⟩,H⟩:=u;let(w,I):=p
    replace c4 :=Eq.symm c4
    replace c2 :=by rw[d] at c2;exact(ù c2).symm
    rw[I,c1,c2,c4];exact R1    x L d f c3 (vA c5) A m B (aA (aM C) (sound G e x.toXI H)) ht hr
   .cases h
 .rename_i j a;split at h
  .cases h
  .rename_i v hv;split at h
   .cases h
   .rename_i p s;split at h
    .rename_i u;cases h;simp only[Á,Zx,bne_iff_ne] at u;obtain⟨⟨⟨⟨⟨⟨⟨⟨u,d1⟩,d2⟩,J⟩,d4⟩,d5⟩,U⟩,d7⟩,d8⟩:=u
     delta Mc at u
     simp only[Á,Zx] at u;obtain⟨⟨⟨⟨⟨⟨⟨⟨c1,c2⟩,c3⟩,c4⟩,c5⟩,A⟩,B⟩,C⟩,H⟩:=u;let(v,Y):=v;let(w,I):=p
     replace c1:w.2.g="_law_refused":=c1
     replace c4:w.2.n3=w.2.n:=Eq.symm c4
     replace c2:w.2.y=y:=by rw[d] at c2;exact(ù c2).symm
     replace J:w.1.1=v.1:=Eq.symm J
     replace I:v.2.2.2.2=_:=I
     rw[Y,I,c1,c2,c4,J];refine Pq (H0:=H0) (zE:=zE) x d2 d1 d4 (aA (aM d7) (sound G a x.toXI d8)) (λo=>gE (by
      replace U:R5 v.2.2.1=true:=U
      generalize v.2.2.1=vv at U ⊢;cases vv <;> first | rfl | cases U) o) ?_
     exact Pp (H0:=H0) (zE:=zE) (all:=all) x L d d2 d5 f c3 (vA c5) A m B (aA (aM C) (sound G e x.toXI H)) ht hr
    .cases h
def pZ(lm:Bool)(a:⇑(Str × Zj))(nums:⇑(Str × Int))(sc:ý)(N:Zj)(i:Nat)(d:⇑(Zh × Ex))(g:Option (Nat × Ex))(e:Ex)(f:⇑V9):Option Ni:=match d with
 |[]=>none
 |u::h=>match Pu f with
  |none=>none
  |↑v=>if lm&&N[i]? == ↑v.1.1&&iE sc v.1.1&&aG v.1.1&&decide (h.length < 900)&&Mb a nums sc N u v.1.2.2.2.1 v.1.2.2.1 then match xS a nums sc N i h v.1.2.2.2.2.2.2.2 with
   |none=>none|↑rest=>JM lm a nums sc N i g e rest
   else none
set_option tactic.hygienic true in
theorem JN(x:XS lm X G E N sc cn){i:Nat}{a:⇑(Zh × Ex)}{g:Option (Nat × Ex)}{e:Ex}{t r:Sm}{d:⇑V9}{w:Ni}(h:pZ lm G.fns G.nums sc N i a g e d=↑w)(f:eV X w.body (tX X.K G E H0 zE t))(j:eV X w.rest (tX X.K G E H0 zE r)):eV X d (tX X.K G E H0 zE (.lams i a g e t r)):=by
 unfold pZ at h;split at h
 .cases h
 .rename_i u l;split at h
  .cases h
  .rename_i v hv;split at h
   .rename_i m;refine BB.b6 m λn b2 b3 b4 b5 b6=>?_;simp[Zx,Zw] at n b2 b3 b4 b5 b6;split at h
    .cases h
    .rename_i o p;let(c,P,q,k,fR,fdR,L):=x.lam n;let(v,s):=v;rw[s];refine eV.imp (cg (JJ (H0:=H0) (zE:=zE) (Rn:=λU z C=>rS G.F (u::l) g e (ex G.F zE.isNone t) (ex G.F zE.isNone r) U z=↑C) x L b2 b3 (t9 b6)) (EH   x L l [u] _ p (by exact so (Ñ (_O _ (_t b5 _)) (Ò _))) (eV.imp (EI   (all:=u::l) x L b2 b4 (by grind) h f j) λD σ H #[B,C,I,J]=>#[B,C,I.lc,J]))) λD σ H qq=>?_;let(zA,ow,U,z,C,rw,st,ee,J):=qq;have Y:(if i < U.length then rS G.F _ g e _ _ _ else Zg) z=↑C:=ee;split at Y
     .rename_i il;exact#[zA,ow,U,z,C,rw,st,il,Y,λσ' H' I=>#[_,C,I,J]]
     .cases Y
   .cases h
end
section
variable {lm:Bool}{X:Cx}{G:Gs}{E:XK}{N:Zj}{sc:ý}{cn:Zj}{H0:Hp}{zE:Zk}
def R6(K:Å)(i:Nat):TI:=λc H R=>∃ a,c[i]?=↑↑↥a/\((∃ d,dU K H a d)/\R (SD K a) H\/(∃ d,jX K H a d)/\R (SA K a) H)
theorem Pz(x:XI lm X G E N sc){pos:Pos}(c:N[i]?=↑n)(d:aG n):PI X e (.Name n pos) (R6 X.K i):=by
 delta aG at d
 simp only[Á,ò] at d;have f:PE X (.Name n pos) _:=eE  (by rw[x.hN];exact c) (x.vis n (ë c)) d.1 d.2
 intro g s h H R I q;obtain⟨a,k,q | q⟩:=q
 .exact Hk f g s h H R I #[_,k,a,rfl,q.1,q.2]
 .exact oU f g s h H R I #[_,k,a,rfl,q.1,q.2]
def fBody(F:FT)(a:Bool)(p:iU)(b:Sm):D->Env->M O:=λx c=>Zd (Zf (cJ p x c)) λc=>ex F a b c
theorem rz:∀ {l:⇑D}{d:D},de l->d∈l->bare d
 |x::r,d,h,a=>by
  simp[de,Á] at h;rcases ì.mp a with rfl | a
  .exact h.1
  .exact rz h.2 a
theorem zk{b:Sm}{D:Ends}(IT:LV X.K J xs B)
  (rw:RW X.K H0 zE a d H f g) (st:aO a z H) (j:ag B (hw d (hz a H))) (k:sW (fBody G.F zE.isNone p b) xs f z=↑rr) (l:fX X.K G E H0 zE (hw d (hz a H)) D rr) :
  ∃ W:Nat->Nat->L2.St->Hp->Prop,(∃ m,W 0 m g H)/\∀ i m g H,W i m g H ->
   (J.stop i H/\D.nx g H)\/(J.go i H/\∃ Nn:L2.St->Hp->Prop,(∀ n u,Nn n u->∃ m',m' < m/\W (i + 1) m' n u)/\∀ x u,J.yld i H x u->gP X.K p x g u λv H2=>tX X.K G E H0 zE b { D with nx:=Nn,ct:=Nn,bk:=D.nx } v H2):=by
 refine#[λi m g H=>m=xs.length - i/\i<=xs.length/\∃ a d f z r,RW X.K H0 zE a d H f g/\aO a z H/\ag B (hw d (hz a H))/\sW _ (xs.drop i) f z=↑r/\fX X.K G E H0 zE (hw d (hz a H)) D r,
  #[xs.length,⋯,Wg _,a,d,f,z,rr,rw,st,j,k,l],?_]
 rintro i m g H ⟨rfl,hi,a,d,f,z,rr,rw,st,j,k,l⟩;have sH :=ag.trans j (ag.trans eh (ak a H));by_cases w:i < xs.length
 .refine .inr #[IT.go i H sH w,_,
   λn u h=>#[_,_u w (Xs _),rfl,w,h],λx u y=>?_]
  let(s1,hd):=IT.yld i H x u a z _ (ag.trans j eh) st y (ß w);rw[VI w] at k;have r1:=rw.mono (Ext.of s1);have aZ:=st.same s1;have A:ag _ (hw d (hz a u)):=bF (gx s1);have hd1:=hd _ (ag.trans j A) λ_ _ q=>zh q r1.rk;have fin:∀ {C:Env}{o:O}{I:Z},cJ p _ f=↑C->ex G.F zE.isNone b C z=↑(.ok o I)->(match o with | .nx f=>sW (fBody G.F zE.isNone p b) (xs.drop (i + 1)) f | .rt s=>Ze (.rt s)) I=↑rr->gP X.K p x g u λv H2=>tX X.K G E H0 zE b { D with nx:=λn u=>∃ a d f z r,RW X.K H0 zE a d u f n/\aO a z u/\ag B (hw d (hz a u))/\sW _ _ f z=↑r/\fX X.K G E H0 zE (hw d (hz a u)) D r,ct:=λn u=>∃ a d f z r,RW X.K H0 zE a d u f n/\aO a z u/\ag B (hw d (hz a u))/\sW (fBody G.F zE.isNone p b) (xs.drop (i + 1)) f z=↑r/\fX X.K G E H0 zE (hw d (hz a u)) D r,bk:=D.nx } v H2:=λ{C o I} L e1 P=>by
   refine Bn L r1 hd1 λU n r2 Y=>#[a,U,C,z,_,r2,aZ,e1,?_];cases o with
   |nx ρ2=>exact λzA3 ow3 σ3 H3 r3 B9 sm3=>#[zA3,ow3,ρ2,I,rr,r3,B9,ag.trans j (ag.trans A (ag.trans Y sm3)),P,l.mono (ag.trans A (ag.trans Y sm3))]|rt s=>cases P;exact l
  rcases M.bind_some k with ⟨o,I,e1,P⟩ | ⟨c,I,e1,P⟩
  .let(C,L,e3):=M.ao e1;exact fin L e3 P
  .subst P;let(C,L,e3):=M.ao e1;exact Bn L r1 hd1 λU n r2 Y=>#[a,U,C,z,_,r2,aZ,e3,l]
 .have e:=_m hi (Y9 w)
  subst e;rw[drop_length] at k;cases k;exact .inl #[IT.stop H sH,l a d g H rw st (ag.refl _)]
theorem PB(x:XS lm X G E N sc cn){b:Sm}{c pos:Pos}(hp:eD N (iE sc) p tg)(h1:N[i]?=↑n)(h2:aG n)(hb:eV X body (tX X.K G E H0 zE b)) :
  PS X (.For tg (.Name n c) body [] pos) (tX X.K G E H0 zE (.fr p .seq (.cons (.var i) .nil) b)):=by
 refine PS.imp (Hl x.own x.calm (Pz x.toXI h1 h2) (Be x.loc hp) hb (λ_=>rfl)) λD σ H q=>?_;let(e,ow,f,z,rr,rw,g,ee,h):=q;have j:Zd (Zd (match f[i]? with | ↑↑s=>Ze _ | _=>Zg) _) _ z=↑rr:=ee
 cases hs:f[i]? with
 |none=>rw[hs] at j;cases j
 |some o =>
  cases o with
  |none=>rw[hs] at j;cases j
  |some s =>
   rw[hs] at j;let(xs,hx,k):=M.ao j;have m:=rw.plain i;have r:=cU (H:=hz e H) ow i;let(w,v,A):=m.wor i _ (by rw[í ((ç.mp hs).1),hs];rfl);let(ds,h3,B):=Õ.mp hx;let(d,rfl,C):=Ep h3;have F :=by
    cases s with
    |d y=>cases C;exact A.2
    |fr I=>cases C;exact A.2
    |_=>cases C
   obtain⟨J,L,P⟩:∃ J,RW X.K H0 zE e J H ((f.set i ((f[i]?.getD none).map qJ)).map (xE (xF [qJ s]))) σ/\ag _ (hw J (hz e H)):=by
    rw[vb];cases xF _ with
    |true=>exact#[_,m,ag.refl _]|false=>exact#[_,m.pO,rp _]
   cases d with
   |tup l =>
    cases B;let(a,I,rfl,U,Y):=F.eH;exact#[a,v,.inl #[#[I,(ak e H).jB (ag.jB eh U)],zk (Em U Y) L g P k (h.mono (ag.trans r P))]]
   |lst l =>
    cases B;let(a,I,rfl,U,Y):=F.jF;exact#[a,v,.inr #[#[I,((U.same eh).same (ak e H)).sq],zk (Bh U Y) L g P k (h.mono (ag.trans r P))]]
   |_=>cases B
theorem R7(x:XS lm X G E N sc cn){it:It}{b:Sm}{pos:Pos}(hp:eD N (iE sc) p tg)(hi:PI X tg iter (KP X.K G E it src))(e:fF iter)(hv:IK it src=none)(hb:eV X body (tX X.K G E H0 zE b)) :
  PS X (.For tg iter body [] pos) (tX X.K G E H0 zE (.fr p it src b)):=by
 refine PS.imp (Hl x.own x.calm hi (Be x.loc hp) hb (nu e X.env)) λD σ H q=>?_;let(zA,ow,f,z,rr,rw,g,ee,i):=q;have e0:Zd _ (λl=>Zd _ λn=>sW (fBody G.F zE.isNone p b) n ((vc it src l f).map _)) z=↑rr:=ee;rcases M.bind_some e0 with ⟨l,z1,r,s⟩ | ⟨c,z1,r,s⟩
 .let(n,hx,u):=M.ao s;refine#[zA,f,z,_,rw.g7,g,r,n,hx,λJ H1 A aZ IT=>?_];have B:=rw.mono A;have frz:sW (fBody G.F zE.isNone p b) n _ z1=↑rr->_:=λu=>zk    (IT _ _ (ag.refl _) (λ_ _ q=>q) (λ_ _ _ q=>q) (λds C d I=>by cases d <;> first | trivial | exact λ_ _=>trivial) λ_ _ q _=>q) B.pO aZ (by rw[eT];exact ag.refl _) u (i.mono (ag.trans (bF A) (rp ow)))
  rw[vb] at u;have he:vc it src l f=match qY l with | true=>pO f | false=>f:=by
   delta vc;rw[hv] <;> cases qY l <;> rfl
  have tt:pO (pO f)=pO f:=by
   delta pO
   rw[à];refine Vx λo _=>?_
   match o with
   |none=>rfl|↑(.d _)=>rfl|↑(.fr _)=>rfl|↑.z=>rfl|↑(.ks _)=>rfl
  cases hl:qY l with
  |true =>
   simp_all
  |false =>
   rw[hl] at he;rw[he] at u;split at u
   .rename_i L;refine zk (IT _ _ eh (λa ys q=>zh q B.rk) (λd v I q=>nB B.rk I q) (λds C d I=>?_) λa ys q P=>?_) B aZ (ag.refl _) u (i.mono (bF A))
    .have h:=L;unfold xF at h;rw[C] at h;have:=Ù.mp h d I;cases d with
     |tup m=>exact λy U=>rz this U|lst m=>exact λy U=>rz this U|_=>trivial
    .rcases P with ⟨hn,Y⟩ | hm
     .refine dA.of (cu (bx Y (g.vf hn)) λj w=>?_);let(zs,k):=rw.lst j a w;rw[hn] at k;cases k
     simp_all
   .exact frz u
 .subst s;exact#[zA,f,z,_,rw.g7,g,r,i.Qg rw]
end
def isQ:Sm->Bool
 |.nil=>true|.seq _ _=>true|.lams ..=>true|_=>false
def JO:Þ->Bool
 |.IfExp ..=>false|_=>true
def Uc:Þ->Bool
 |.SetComp ..=>false|.DictComp ..=>false|_=>true
def Ud(a:Bool)(c:⇑(Str × Zj))(nums:⇑(Str × Int))(it:It)(d:Ex)(e:ý)(N:Zj)(f g:Þ):Bool:=match it with
 |.seq=>mt a c nums d e N [g]|.rng1=>opt (Gi g) λr=>r.1.1 == ("range":Str)&&glob e r.1.1&&mt a c nums d e N [r.1.2.2.1]|.rng2=>opt (Gj g) λr=>r.1.1 == ("range":Str)&&glob e r.1.1&&mt a c nums d e N [r.1.2.2.1,r.1.2.2.2.1]|.zip=>opt (Gj g) λr=>r.1.1 == ("zip":Str)&&glob e r.1.1&&gj f&&mt a c nums d e N [r.1.2.2.1,r.1.2.2.2.1]|.enum=>opt (Gi g) λr=>r.1.1 == ("enumerate":Str)&&glob e r.1.1&&gj f&&mt a c nums d e N [r.1.2.2.1]
def Ue:(p:iU)->Option {q:Nat × Nat // p=.tup (.cons (.v q.1) (.cons (.v q.2) .nil))}
 |.tup (.cons (.v i) (.cons (.v j) .nil))=>↑#[(i,j),rfl]|_=>none
def Ug:(e:Ex)->Option {q:Ex × Ex // e=.tup (.cons q.1 (.cons q.2 .nil))}
 |.tup (.cons a (.cons b .nil))=>↑#[(a,b),rfl]|_=>none
def Uh:(e:Þ)->Option {q:Þ × Þ × Nat × Pos // e=.Tuple [q.1,q.2.1] q.2.2.1 q.2.2.2}
 |.Tuple [a,b] k p=>↑#[(a,b,k,p),rfl]|_=>none
def Ui(a:ý)(p:iU)(e:Ex)(c v:Þ):Bool:=opt (Ue p) λ_=>opt (Ug e) λ_=>opt (Ry c) λt=>opt (Uh v) λu =>
  !(t.1.1 == t.1.2.2.1)&&a.names.lookup t.1.1 == ↑.local&&a.names.lookup t.1.2.2.1 == ↑.local&&t.1.2.2.2.1.line == t.1.2.1.line&&noStar u.1.1&&noStar u.1.2.1&&!([u.1.1,u.1.2.1].all (foldedForSure 8))&&!([u.1.1,u.1.2.1].all (constantsAlone 8))
def isNm:Þ->Bool
 |.Name ..=>true|_=>false
def Vb(a:ý):Þ->Þ->Bool
 |.Name y _,.DictComp ..=>a.names.lookup y == ↑.cell|_,_=>false
def setB(a:ý)(p:iU)(e:Ex)(c v:Þ):Bool :=
 if isNm c then(Uc v || Vb a c v) else if gj c then(if gj v then(match v with | .Tuple d _ _=>d.all (foldedForSure 8) | _=>false) || (match c with | .Tuple f _ _=>f.any (CT λy=>a.names.lookup y) | _=>false) || Ui a p e c v else true) else false
def JP:(e:⇑V9)->Option {q:Þ × Þ × Pos // e=[.Assign [q.1] q.2.1 q.2.2]}
 |[.Assign [a] v p]=>↑#[(a,v,p),rfl]|_=>none
def R8:(e:⇑V9)->Option {q:Zt × Pos // e=[.Return q.1 q.2]}
 |[.Return v p]=>↑#[(v,p),rfl]|_=>none
def Uj:(e:⇑V9)->Option {q:Þ × ⇑V9 × ⇑V9 × Pos // e=[.If q.1 q.2.1 q.2.2.1 q.2.2.2]}
 |[.If c a b p]=>↑#[(c,a,b,p),rfl]|_=>none
def R9:(e:⇑V9)->Option {q:Þ × Þ × ⇑V9 × Pos // e=[.For q.1 q.2.1 q.2.2.1 [] q.2.2.2]}
 |[.For a c d [] p]=>↑#[(a,c,d,p),rfl]|_=>none
def Sa:(e:⇑V9)->Option {q:Þ × ⇑V9 × Pos // e=[.While q.1 q.2.1 [] q.2.2]}
 |[.While c a [] p]=>↑#[(c,a,p),rfl]|_=>none
def PC:(e:⇑V9)->Option {q:Þ × Pos // e=[.Raise ↑q.1 none q.2]}
 |[.Raise ↑x none p]=>↑#[(x,p),rfl]|_=>none
def Nj:(e:⇑V9)->Option {q:Þ × Pos // e=[.Expr q.1 q.2]}
 |[.Expr v p]=>↑#[(v,p),rfl]|_=>none
def Sb:(e:Þ)->Option {q:Str × Pos × Str × Nat × Pos × Pos // e=.Call (.Name q.1 q.2.1) [.Constant (.str q.2.2.1) q.2.2.2.1 q.2.2.2.2.1] [] q.2.2.2.2.2}
 |.Call (.Name n a) [.Constant (.str y) k p2] [] c=>↑#[(n,a,y,k,p2,c),rfl]|_=>none
def Sd:(e:Þ)->Option {q:Str × Pos × Str × Pos × Þ × Pos // e=.Call (.Attribute (.Name q.1 q.2.1) q.2.2.1 q.2.2.2.1) [q.2.2.2.2.1] [] q.2.2.2.2.2}
 |.Call (.Attribute (.Name n p) a c) [v] [] d=>↑#[(n,p,a,c,v,d),rfl]|_=>none
def Uk:(e:Þ)->Option {q:Str × Pos × Nat × Pos × Pos // e=.Subscript (.Name q.1 q.2.1) (.Constant (~~~0) q.2.2.1 q.2.2.2.1) q.2.2.2.2}
 |.Subscript (.Name n p) (.Constant (~~~0) c a) d=>↑#[(n,p,c,a,d),rfl]|_=>none
def Ul:(e:Þ)->Option {q:Str × Pos // e=.Name q.1 q.2}
 |.Name n p=>↑#[(n,p),rfl]|_=>none
def EJ:Ex->Bool
 |.con .cq=>true|_=>false
def zo(a:Bool)(d:⇑(Str × Zj))(nums:⇑(Str × Int))(cn:Zj)(h:ý)(N:Zj):Sm->⇑V9->Bool
 |.nil,j=>j.isEmpty|.seq s r,j=>opt j.head? λk=>!isQ s&&isQ r&&zo a d nums cn h N s [k]&&zo a d nums cn h N r j.tail
 |.lams i l g e t r,j=>match pZ a d nums h N i l g e j with
  |↑w=>isQ t&&isQ r&&zo a d nums cn h N t w.body&&zo a d nums cn h N r w.rest|none=>false
 |.set p e,j=>opt (JP j) λq=>!cH e&&eD N (iE h) p q.1.1&&mt a d nums e h N [q.1.2.1]&&setB h p e q.1.1 q.1.2.1
 |.ret e,j=>opt (R8 j) λq=>match q.1.1 with
  |↑v=>!cH e&&mt a d nums e h N [v]|none=>EJ e
 |.iff c t u,j=>opt (Uj j) λq=>!cH c&&JO q.1.1&&isQ t&&isQ u&&mt a d nums c h N [q.1.1]&&zo a d nums cn h N t q.1.2.1&&zo a d nums cn h N u q.1.2.2.1|.fr p it src b,j=>opt (R9 j) λq=>eD N (iE h) p q.1.1&&cH src&&fF q.1.2.1&&isQ b&&Ud a d nums it src h N q.1.1 q.1.2.1&&zo a d nums cn h N b q.1.2.2.1|.whl c b,j=>opt (Sa j) λq=>!cH c&&JO q.1.1&&isQ b&&mt a d nums c h N [q.1.1]&&zo a d nums cn h N b q.1.2.1|.rais c,j=>opt (PC j) λq=>opt (Sb q.1.1) λr=>cn[c]? == ↑r.1.1&&glob h r.1.1|.exp e,j=>opt (Nj j) λq=>rq q.1.1&&!cH e&&mt a d nums e h N [q.1.1]|.app i e,j=>opt (Nj j) λq=>opt (Sd q.1.1) λr=>r.1.2.2.1 == ("append":Str)&&N[i]? == ↑r.1.1&&aG r.1.1&&noStar r.1.2.2.2.2.1&&!cH e&&r.1.2.2.2.1.endLine == r.1.2.2.2.2.2.line&&mt a d nums e h N [r.1.2.2.2.2.1]|.newz i f as,j=>opt (JP j) λq=>opt (Ul q.1.1) λr=>N[i]? == ↑r.1.1&&iE h r.1.1&&rq q.1.2.1&&mt a d nums (.call f as) h N [q.1.2.1]|.zset i e,j=>opt (JP j) λq=>opt (Uk q.1.1) λr=>N[i]? == ↑r.1.1&&aG r.1.1&&!cH e&&mt a d nums e h N [q.1.2.1]
section
variable {lm:Bool}{X:Cx}{G:Gs}{E:XK}{N:Zj}{sc:ý}{cn:Zj}{H0:Hp}{zE:Zk}
theorem Se(x:XI lm X G E N sc){it:It}(c:cH src)(h:Ud lm G.fns G.nums it src sc N d iter):PI X d iter (KP X.K G E it src):=by
 cases it with
 |seq =>
  let(a,rfl,e):=Ey c (sound G src x h);exact Jt e
 |rng1 =>
  obtain⟨⟨⟨n,_,a,_⟩,rfl⟩,-,h⟩:=ax h;simp[Á,Zx] at h;exact Er x h.1.1 h.1.2 c (sound G src x h.2)
 |rng2 =>
  obtain⟨⟨⟨n,_,a,b,_⟩,rfl⟩,-,h⟩:=ax h;simp[Á,Zx] at h;exact Es x h.1.1 h.1.2 c (sound G src x h.2)
 |zip =>
  obtain⟨⟨⟨n,_,a,b,_⟩,rfl⟩,-,h⟩:=ax h;simp[Á,Zx] at h;exact Eu x h.1.2 h.1.1.1 h.1.1.2 c (sound G src x h.2)
 |enum =>
  obtain⟨⟨⟨n,_,a,_⟩,rfl⟩,-,h⟩:=ax h;simp[Á,Zx] at h;exact Bk x h.1.2 h.1.1.1 h.1.1.2 c (sound G src x h.2)
theorem qa(h:JO e):∀ t a b p,e≠.IfExp t a b p:=by
 intro t a b p c;subst c;cases h
def GS(X:Cx)(G:Gs)(E:XK)(H0:Hp)(zE:Zk)(s:Sm)(a:⇑V9):Prop:=(isQ s=true->eV X a (tX X.K G E H0 zE s))/\(isQ s=false->∃ c,a=[c]/\PS X c (tX X.K G E H0 zE s))
theorem dh{s:Sm}{a:V9}(c:isQ s=false)(h:PS X a (tX X.K G E H0 zE s)):GS X G E H0 zE s [a]:=#[λk=>(by simp_all),λ_=>#[a,rfl,h]]
theorem Md{x:XI lm X G E N sc}{e:Ex}{d:Þ}{g:⇑Comprehension}{i:ý}{q:Pos}(h:mt lm G.fns G.nums e sc N [.ListComp d g i q])(j:cH e=false):L9 X G E e (.ListComp d g i q):=by
 cases e with
 |comp own au p it k l o =>
  match g,h with
  |[#[tg,r,s,0]],h=>exact lW.set       x.calm (rh (λx _=>sound G k x) (λx _=>sound G l x) (λx _=>sound G o x) x h)
 |flat a =>
  obtain⟨⟨⟨n,m,u,v,r,w,y,z,A⟩,e⟩,-,h⟩:=ax (show opt _ _=true from h);obtain⟨rfl,rfl,rfl,rfl⟩:d=.Name m u/\g=[⟨.Name n v,r,[],0⟩,⟨.Name m w,.Name n y,[],0⟩]/\i=z/\q=A:=by
   injection e with e
   simp_all
  refine BB.b6 h λB C F I J K=>?_;have c:=vA B;have L:=aA (aM J) (sound G a x K);exact λ_ _ _ _ P U Y k4 k5=>PS.imp (D1 P U Y k4 x.calm (kh x c) (c.own n È) (c.own m ⋯) (vC C) (vC F) L.pe (nu I X.env) k5) λD σ H q=>zg x L q
 |nil=>cases j
 |cons _ _=>cases j
 |bf f as=>cases f <;> cases h
 |_=>cases h
theorem Me(h:isNm e):∃ y p,e=.Name y p:=by
 cases e <;> first | exact#[_,_,rfl] | cases h
theorem nE(h:gj e):∃ a k p,e=.Tuple a k p:=by
 cases e <;> first | exact#[_,_,_,rfl] | cases h
theorem Nk(x:XS lm X G E N sc cn){pos:Pos}(h:(!cH e))(l:eD N (iE sc) p m)(n:mt lm G.fns G.nums e sc N [v])(o:setB sc p e m v):PS X (.Assign [m] v pos) (tX X.K G E H0 zE (.set p e)):=by
 have g:=aA (aM h) (sound G e x.toXI n);unfold setB at o;split at o
 .rename_i r;let(y,s,rfl):=Me r;cases p with
  |v i =>
   have l:(N[i]? == ↑y&&iE sc y)=true:=l;rw[Á,Zx] at l;refine RV x l.1 l.2 g (λu gs cw q z=>?_) (λa b c d z=>?_) (λa b c d f z=>?_)
   .subst z;exact Md (x:=x.toXI) n (aM h)
   .subst z;cases o
   .subst z;exact ZC o
  |tup _=>cases l
  |nil=>cases l
  |cons _ _=>cases l
 .split at o
  .rename_i A;split at o
   .rename_i z;rw[Wk,Wk] at o;rcases o with (o | o) | o
    .let(ts,k,B,rfl):=nE A;let(vs,k',C,rfl):=nE z;exact CU x l g rfl (L7 o)
    .let(ts,k,B,rfl):=nE A;let(vs,k',C,rfl):=nE z;refine CU x l g rfl (L8 ?_);have e:X.env.kindOf=λy=>sc.names.lookup y:=by funext y;unfold Env.kindOf;rw[x.sco]
     rw[e];exact o
    .clear g h A z;obtain⟨⟨⟨i,j⟩,rfl⟩,-,o⟩:=ax o;obtain⟨⟨⟨F,H⟩,rfl⟩,-,o⟩:=ax o;obtain⟨⟨⟨y,s,w,py,kt,B⟩,rfl⟩,-,o⟩:=ax o;obtain⟨⟨⟨a,b,kv,C⟩,rfl⟩,-,o⟩:=ax o;simp only[Á,ò,Zx] at o;obtain⟨⟨⟨⟨⟨⟨⟨I,J⟩,L⟩,k4⟩,k5⟩,k6⟩,k7⟩,k8⟩:=o;have l:(noStar (.Name y s)&&(N[i]? == ↑y&&iE sc y)&&(noStar (.Name w py)&&(N[j]? == ↑w&&iE sc w)&&([]:Zm).isEmpty))=true:=l;simp only[Á,Zx] at l;obtain⟨⟨_,P,_⟩,⟨_,U,_⟩,_⟩:=l;have Y:(cH (.cons F (.cons H .nil))&&mt lm G.fns G.nums (.cons F (.cons H .nil)) sc N [a,b])=true:=n;rw[Á] at Y;have ga:Good X G E (.cons F (.cons H .nil)) [a,b]:=sound G (.cons F (.cons H .nil)) x.toXI Y.2;refine RX x P U (by simpa using I) J L ga (Pk x.bk ?_ ?_ (by simpa using I) (by rw[k4];exact beq_self_eq_true _) k5 k6 k7 k8)
     .unfold Env.kindOf;rw[x.sco];exact J
     .unfold Env.kindOf;rw[x.sco];exact L
   .rename_i z;exact CU x l g A (L6 (by simpa using z))
  .cases o
theorem Gw(h:EJ e):e=.con .cq:=by
 delta EJ at h
 split at h
 .rfl
 .cases h
theorem Nl(x:XS lm X G E N sc cn){e:Ex}{o:Zt}{pos:Pos}(h:(match o with | ↑v=>!cH e&&mt lm G.fns G.nums e sc N [v] | none=>EJ e)=true):PS X (.Return o pos) (tX X.K G E H0 zE (.ret e)):=by
 cases o with
 |some v =>
  rw[Á] at h;by_cases hv:∃ i,e=.var i
  .let(i,rfl):=hv;have h2:=h.2;cases v with
   |Name n p =>
    have h2:(N[i]? == ↑n&&aG n)=true:=h2;rw[Á,Zx] at h2;exact Pl x h2.1 h2.2
   |_=>cases h2
  .exact RY (λi hi=>hv #[i,hi]) (aA (aM h.1) (sound G e x.toXI h.2))
 |none =>
  have he:=Gw h;subst he;refine PS.imp KR λD σ H q=>?_;let(zA,ow,ρ,z,rr,rw,st,ee,po):=q;cases ee;exact po _ H (λk=>nomatch k) rw.ext (Gu rw.zok st) (show Hd X.K _ _ _ from Hd.cq)
theorem Sf(x:XS lm X G E N sc cn){p:iU}{it:It}{src:Ex}{b:Sm}{tg iter:Þ}{body:⇑V9}{pos:Pos}(h1:eD N (iE sc) p tg=true)(h2:cH src=true)(h3:fF iter=true)(h5:Ud lm G.fns G.nums it src sc N tg iter=true)(hb:eV X body (tX X.K G E H0 zE b)) :
  PS X (.For tg iter body [] pos) (tX X.K G E H0 zE (.fr p it src b)):=by
 cases hv:IK it src with
 |some q =>
  let(i,rfl,rfl):=q;have h5':(noStar iter&&!cH _&&cH _&&mt lm G.fns G.nums _ sc N _&&mt lm G.fns G.nums _ sc N [])=true:=h5;simp only[Á] at h5';have h7:=h5'.1.2;cases iter with
  |Name n np =>
   have h7:(N[i]? == ↑n&&aG n)=true:=h7;rw[Á,Zx] at h7;exact PB x h1 h7.1 h7.2 hb
  |_=>cases h7
 |none=>exact R7 x h1 (Se x.toXI h2 h5) h3 hv hb
theorem PD(x:XS lm X G E N sc cn):∀ (s:Sm) {d:⇑V9},zo lm G.fns G.nums cn sc N s d->GS X G E H0 zE s d:=by
 intro s
 induction s with
 |nil =>
  intro d h;have :=List.isEmpty_iff.mp h;subst this;exact#[λ_=>Nb,λk=>by cases k]
 |seq s r j l =>
  intro d h;let(st,m,h):=ax h;cases d with
  |nil=>cases m
  |cons o z =>
   cases m;simp only[Á,ò,List.tail_cons] at h;obtain⟨⟨⟨A,B⟩,C⟩,F⟩:=h;let(o,he,hs):=(j C).2 A;cases he;exact#[λ_=>Nc hs ((l F).1 B),λk=>by cases k]
 |lams i H g e t r I l =>
  intro d h;have h:(match pZ lm G.fns G.nums sc N i H g e d with
   |↑w=>isQ t&&isQ r&&zo lm G.fns G.nums cn sc N t w.body&&zo lm G.fns G.nums cn sc N r w.rest
   |none=>false)=true:=h
  cases hw:pZ lm G.fns G.nums sc N i H g e d with
  |none=>rw[hw] at h;cases h
  |some w =>
   rw[hw] at h;refine BB.b4 h λA B C F=>?_;exact#[λ_=>JN x hw ((I C).1 A) ((l F).1 B),λk=>by cases k]
 |set p e =>
  intro d h;obtain⟨⟨q,rfl⟩,-,h⟩:=ax h;simp only[Á] at h;exact dh rfl (Nk x h.1.1.1 h.1.1.2 h.1.2 h.2)
 |ret e =>
  intro d h;obtain⟨⟨q,rfl⟩,-,h⟩:=ax h;exact dh rfl (Nl x h)
 |iff c t u I J =>
  intro d h;obtain⟨⟨q,rfl⟩,-,h⟩:=ax h;refine BB.b7 h λA B C F K L P=>?_;exact dh rfl (RZ (aA (aM A) (sound G c x.toXI K)) (qa B) ((I L).1 C) ((J P).1 F))
 |fr p it src b U =>
  intro d h;obtain⟨⟨q,rfl⟩,-,h⟩:=ax h;refine BB.b6 h λA B C F K L=>?_;exact dh rfl (Sf x A B C K ((U L).1 F))
 |whl c b U =>
  intro d h;obtain⟨⟨q,rfl⟩,-,h⟩:=ax h;refine BB.b5 h λA B C F K=>?_;exact dh rfl (Ng x (aA (aM A) (sound G c x.toXI F)) (qa B) ((U K).1 C))
 |rais c =>
  intro d h;obtain⟨⟨⟨e,pos⟩,rfl⟩,-,h⟩:=ax h;dsimp only at h;obtain⟨⟨⟨n,Y,y,k,p2,p3⟩,rfl⟩,-,h⟩:=ax h;simp only[Á,Zx] at h;exact dh rfl (x_raise x h.1 h.2)
 |exp e =>
  intro d h;obtain⟨⟨q,rfl⟩,-,h⟩:=ax h;simp only[Á] at h;exact dh rfl (Nd (aA (aM h.1.2) (sound G e x.toXI h.2)) h.1.1)
 |app i e =>
  intro d h;obtain⟨⟨⟨v0,pos⟩,rfl⟩,-,h⟩:=ax h;dsimp only at h;obtain⟨⟨⟨n,Y,a,apos,v,cpos⟩,rfl⟩,-,h⟩:=ax h;refine BB.b7 h λP h8 B C F K L=>?_;simp only[Zx] at P h8 B C F K L;subst P;exact dh rfl (Nf x h8 B C (aA (aM F) (sound G e x.toXI L)) (by rw[K];exact beq_self_eq_true _))
 |newz i f as =>
  intro d h;obtain⟨⟨⟨tg,v,pos⟩,rfl⟩,-,h⟩:=ax h;dsimp only at h;obtain⟨⟨⟨y,Y⟩,rfl⟩,-,h⟩:=ax h;refine BB.b4 h λA B C F=>?_;simp only[Zx] at A B C F;exact dh rfl (JG x A B (aA rfl (sound G (.call f as) x.toXI F)) C)
 |zset i e =>
  intro d h;obtain⟨⟨⟨tg,v,pos⟩,rfl⟩,-,h⟩:=ax h;dsimp only at h;obtain⟨⟨⟨n,Y,c,p2,p3⟩,rfl⟩,-,h⟩:=ax h;simp only[Á,Zx] at h;exact dh rfl (JH x h.1.1.1 h.1.1.2 (aA (aM h.1.2) (sound G e x.toXI h.2)))
end
structure GX(P:Program)(w:World)(K:PySem.W.Frag)(mg:Str->Option Value)(base:Heap)(G:Gs)(cn:⇑Str):Prop where
 gok:∀ f nm ps,G.fns[f]?=↑(nm,ps)->∃ fa fd,mg nm=↑↥fa/\PySem.W.keepIn K ↥fa=true/\Binds K fd ps []/\jY P w K mg base (rP P w) G.lv fa fd ps (KO K G f ps.length)
 num:∀ p∈G.nums,∃ t,mg p.1=↑(.int p.2 t)
 blt:∀ n∈CM,mg n=none
 cls:∀ c x,cn[c]?=↑x->mg x=↑↥(G.cls c)/\PySem.W.excIn K (G.cls c) [.type "ValueError",.type "Exception",.type "BaseException",.type "object"] "ValueError.__new__"=true
section
variable {P:ð}{w:ú}{K:Å}{mg:Str->Zn}{base:þ}{G:Gs}{cn:Zj}
abbrev Sg(n k:Nat):Prop:=n=k + 2
abbrev SM(k:Nat):Nat:=k
structure Mf(P:Program)(w:World)(K:PySem.W.Frag)(mg:Str->Option Value)(base:Heap)(cls:Nat->Addr)(fR:Addr)(fdR:FuncData):Prop where
 bm:BMain mg base
 cls:∀ j,j < 12->qU K mg (cls j) j
 m:mg "_law_refused"=↑↥fR
 kp:PySem.W.keepIn K ↥fR=true
 bd:Binds K fdR ["_law_call"] []
 fn:∀ k,pD P w K mg base Au (k + 2) fR fdR ["_law_call"] (Iv P w K mg base (k + 1))
def Mg(K:Å)(a:Str)(fd:V2):Prop:=∃ (c P:Ê) (q:Str),fd.code=↥c/\Vy K c P=true/\(∀ d n f e,(envOfC a d n f e).qual++"<lambda>"=q)/\(P,q)∈TB.tb/\∀ p∈TB.tb,p.1=P->p.2=q
def UM(P:ð)(w:ú)(K:Å)(mg:Str->Zn)(base:þ)(G:Gs)(k:Nat):Prop:=∀ f a c,G.fns[f]?=↑(a,c)->∃ d fd,mg a=↑↥d/\Yc K ↥d=true/\Binds K fd c []/\jY P w K mg base (rP P w) k d fd c (KO K (lowG G k) f c.length)
theorem PF(g:GX P w K mg base G cn){lm:Bool}{N ps:Zj}{qual:Str}{sc:ý}{f:Ê}{fd:V2}{cd:Ä}{A:Vl}{outer:⇑Xw}{s:É}{H:Hp}{E:XK}(S:fy N ps sc)(hl:N.all (iE sc)=true)
  (hr:eG G.lv (A.deeper (envOfC qual sc s.heap.objs.size f cd))) (hc:fd.code=cd) (hlam:lm=true->∃ k fR fdR,Sg G.lv k/\Mf P w K mg base G.cls fR fdR/\Mg K qual fd/\UM P w K mg base G k):XS lm (jx (rP P w) P w K mg base N qual sc f cd A outer s H E) G E N sc cn where
 gok:=g.gok
 num:=g.num
 blt:=g.blt
 hN:=rfl
 nd:=S.nd
 vis:=λx hx=>by
  have:=Ù.mp hl x hx;unfold iE at this;rw[Wk,Zx,Zx] at this;rcases this with h | h
  .exact .inl h
  .exact .inr (.inl h)
 glb:=λx h=>h
 cel:=λx h=>h
 calm:=rfl
 room:=hr
 pas:=QY
 lam:=λh=>by
  obtain⟨k,fR,fdR,e1,L,⟨c,P',q,d1,d2,d3,d4,d5⟩,lo⟩:=hlam h;exact#[c,P',q,k,fR,fdR,rfl,hc.symm.trans d1,d2,d3 _ _ _ _,d4,d5,L.bm,e1,L.cls,L.m,L.kp,L.bd,L.fn k,lo]
 sco:=rfl
 fnk:=S.kind
 own:=PassesOwn.leaving
 can:=FU
 fnx:=λ_=>rfl
 cls:=g.cls
theorem Um{x a:Str}{c:V9}{f:Ê}{fd:V2}{N d:Zj}{k:Nat}{e:Sp}(F:Hy K x a c f fd)(S:fy N d (bA c))(len:∀ g H Q E,e g H Q E->g.length=d.length)
  (h:∀ (i:Ä),fd.code=i->∀ (A:Vl) (j:⇑Xw) (s:É) (H:Hp) (g:⇑V) (Q:VK) (E:XK),eG k (A.deeper (envOfC a (bA c) s.heap.objs.size f i))->e g H Q E ->
   ∃ t,eV (jx (rP P w) P w K mg base N a (bA c) f i A j s H E) (fz c) t/\t { nx:=λ_ l=>Q .cq l,rt:=Q } (L2.start N g) H):jY P w K mg base (rP P w) (k + 1) f fd d e:=by
 let(m,n,kV,o,p,q,i,r,u,rfl,lk,v):=F.ex;exact QH lk v S len λA j s H g Q E y z=>h i rfl A j s H g Q E y z
theorem vD:∀ {c:⇑S}{d:⇑V}{i:Nat}{s:S}{n:Nat},wF K f H c d->(c.map some++ÿ n none)[i]?=↑↑s->∃ v,(d.map some++ÿ n none)[i]?=↑↑v/\Al K f H s v
 |[],_,i,s,n,h,e=>by
  simp[map_nil,Yr] at e;rw[List.getElem?_replicate] at e;split at e <;> cases e
 |a::c,_,0,s,n,h,e=>by
  cases h with
  |cons g j =>
   simp_all
 |a::c,_,i + 1,s,n,h,e=>by
  cases h with
  |cons g j =>
   let(v,k,l):=vD    j (e);exact#[v,by simp_all,l]
theorem VX.len{a c:Type}{R:a->c->Prop}:∀ {l:⇑a}{m:⇑c},VX R l m->l.length=m.length
 |[],_,h=>by cases h;rfl
 |_::_,_,h=>by
  cases h with
  |cons d e=>simp[VX.len e]
theorem JQ(h:wF K c H ss f)(g:∀ s∈ss,∀ k,s≠.fr k):RW K H c c (λ_=>none) H (Q.start N.length ss) (L2.start N f):=by
 have m :=VX.len h;refine#[?_,λi j a e=>(nomatch e),λi a e=>(nomatch e),λi a e=>(nomatch e),λi s e=>?_,Ext.refl,.inl rfl,λi a e=>(nomatch e)]
 .delta Q.start L2.start
  simp[m]
 .let(v,n,o):=vD h e;refine#[v,?_,?_]
  .delta L2.start
   rw[<-m];exact n
  .cases s with
   |d x=>exact#[rfl,by rw[eT];exact o]|z=>exact#[rfl,o]|ks l=>exact#[rfl,by rw[eT];exact o]
   |fr k =>
    rcases Ð.mp (ë e) with q | q
    .let(p,r,u):=Ç.mp q
     simp_all
    simp_all
theorem JR(c:aO d z H):L5 d e=nU z e:=by
 have c:=c.zat;cases d with
 |none =>
  cases z with
  |none=>rfl|some p=>exact c.elim
 |some a =>
  cases z with
  |none=>exact c.elim|some p=>rfl
theorem Gx(c:aO d z H):z.isNone=d.isNone:=by
 have c:=c.zat;cases d with
 |none =>
  cases z with
  |none=>rfl|some p=>exact c.elim
 |some a =>
  cases z with
  |none=>exact c.elim|some p=>rfl
set_option tactic.hygienic true in
theorem EK(g:GX P w K mg base G cn){lm:Bool}{N a:Zj}{i:Str}{j:V9}{fa:Ê}{fd:V2}{b:Sm}{f:Nat}{F':FT}(Fn:Hy K i i j fa fd)(Sc:fy N a (bA j))(hl:N.all (iE (bA j)))
  (ch:zo lm G.fns G.nums cn (bA j) N b (fz j)) (hq:isQ b) (m:lm->∃ k fR n,Sg G.lv k/\Mf P w K mg base G.cls fR n/\Mg K i fd/\UM P w K mg base G k)
  (hF:∀ l z,F' false f l z=run G.F (.code a.length N.length b) l z):jY P w K mg base (rP P w) (G.lv + 1) fa fd a (KO K { G with F:=F',lv:=G.lv + 1 } f a.length):=by
 refine Um Fn Sc (λvs H Q E h=>h.1) λcdv o A p s H vs Qv E hr q=>?_;let(hlen,u,z,y,r,rv,B,e,C):=q;refine#[_,(PD (H0:=H) (zE:=u) (PF g Sc hl hr o m) b ch).1 hq,?_];have I:(if y.length=a.length/\a.length<=N.length then(match ex G.F z.isNone b (Q.start N.length (y.map qJ)) z with
  |↑(.ok (.nx _) J)=>↑(R.ok (S.d .cq) (nU z J))|↑(.ok (.rt s) J)=>↑(R.ok s (nU z J))|↑(.er c J)=>↑(R.er c (nU z J))
  |none=>none) else none)=↑r:=by
  have:=hF y z;exact this.symm.trans e
 rw[Gx B] at I;split at I
 .have L:RW K H u u _ H _ (L2.start N vs):=JQ rv.qJ λs hs xs=>by
   let(s',_,rfl):=Ç.mp hs;cases s' <;> exact λh=>nomatch h
  split at I
  .rename_i ρ J U;cases I;refine#[u,_,_,z,_,L,B,U,λzA' ow' σ' X r' aZ _=>?_];refine C _ X r'.ext ?_ (show Hd K _ _ _ from Hd.cq);rw[<-JR B];exact Gu r'.zok aZ
  .rename_i s1 J U;cases I;refine#[u,_,_,z,_,L,B,U,λv X nz x aZ Y=>?_];exact C v X x (by rw[<-JR B];exact aZ) Y
  .rename_i c J U;cases I;refine#[u,_,_,z,_,L,B,U,λe X x aZ hn=>?_];exact C e X x (by rw[<-JR B];exact aZ) hn
  .cases I
 .cases I
def Nm(G:Gs)(T:⇑Df)(k:Nat):Gs:={ G with F:=oA T k,lv:=k }
theorem JS{T:⇑Df}
  (a:∀ p∈G.nums,∃ t,mg p.1=↑(.int p.2 t)) (g:∀ n∈CM,mg n=none)
  (i:∀ c x,cn[c]?=↑x->mg x=↑↥(G.cls c)/\Yy K (G.cls c) [.type "ValueError",.type "Exception",.type "BaseException",.type "object"] "ValueError.__new__")
  (hd:∀ (f:Nat) (j:Str) (m:Zj),G.fns[f]?=↑(j,m)->∃ (o:Ê) (fd:V2),mg j=↑↥o/\Yc K ↥o/\Binds K fd m [] /\
   ((∃ (u:Bool) (N:Zj) (v:V9) (b:Sm),T[f]?=↑(Df.code m.length N.length b)/\Hy K j j v o fd/\fy N m (bA v)/\N.all (iE (bA v))/\isQ b/\zo u G.fns G.nums cn (bA v) N b (fz v)/\(u->∃ y B,Mf P w K mg base G.cls y B/\Mg K j fd)) \/
    T[f]?=none)):∀ k,GX P w K mg base (Nm G T k) cn:=by
 have C:∀ k,k < 3->GX P w K mg base (Nm G T k) cn:=λk hk=>by
  refine#[λf j m h=>?_,a,g,i];let(o,fd,F,I,J,_):=hd f j m h;refine#[o,fd,F,I,J,λU H Q E q=>q.1,λA X s H args us U Q E hr he hb hv hs=>?_];let(_,zA,z,ss,r,_,_,e,_):=hs
  match k,hk with
  |0,_=>cases e
  |1,_=>cases e
  |2,_=>cases e
 intro k
 induction k using Nat.strongRecOn with
 |ind k Y =>
  match k,Y with
  |0,_=>exact C 0 (-0)|1,_=>exact C 1 (-0)|2,_=>exact C 2 (-0)
  |k + 3,Y =>
   refine#[λf j m h=>?_,a,g,i];let(o,fd,F,I,J,h4):=hd f j m h;refine#[o,fd,F,I,J,?_];rcases h4 with ⟨u,N,v,b,k1,k2,k3,k4,k5,k6,k7⟩ | h4
   .refine EK   (Y _ (Xs _)) k2 k3 k4 k6 k5 (λhlm=>?_) λl z=>?_
    .let(y,B,L,D):=k7 hlm;exact#[k,y,B,rfl,L,D,λf j m h=>(Y k (_b (VO _ _))).gok f j m h]
    .show(match T[f]? with | ↑d=>run (oA T (k + 2)) d l | none=>Zg) z=_
     rw[k1];rfl
   .refine#[λU H Q E q=>q.1,λA X s H args us U Q E hr he hb hv hs=>?_];let(_,zA,z,ss,r,_,_,e,_):=hs;have e':(match T[f]? with | ↑d=>run (oA T (k + 2)) d ss | none=>Zg) z=↑r:=e
    rw[h4] at e';cases e'
end
end Q
namespace L2
open PySem PySem.W PySem.Calls PyProof.Rows
def iY(a c:Thread->Bool)(d:SharedT->Thread->Option (SharedT × Thread)):Nat->SharedT->Thread->Option SharedT
 |0,_,_=>none
 |n + 1,s,t=>match a t with
  |true=>↑s
  |false=>match c t with
   |false=>none
   |true=>match d s t with
    |↑(e,f)=>iY a c d n e f|none=>none
theorem rA:∀ {n:Nat}{s a:SharedT}{t:Thread},iY through (stepOk c ann) (stepT (denote d) p w) n s t=↑a->topRun d p w c ann n s.abs t=↑a.abs
 |0,_,_,_,h=>by cases h
 |n + 1,s,a,t,h=>by
  unfold iY at h;unfold topRun;cases e:through t with
  |true=>simp_all
  |false =>
   rw[e] at h;cases f:stepOk c ann t with
   |false=>rw[f] at h;cases h
   |true =>
    rw[f] at h;cases g:stepT _ p w s t with
    |none=>rw[g] at h;cases h
    |some r=>rw[g] at h;rw[stepT_spec g];exact rA h
def grow:⇑Obj->Nat->BT->BT
 |[],_,t=>t|o::r,i,t=>grow r (i + 1) (t.ins i o)
def EL(w:ú)(a:OsState):SharedT:=#[grow (boot_heap w.params).objs.toList 0 .nil,11,(boot_heap w.params).life,Array.mk [],boot_drawn,boot_toks,a]
theorem Gy:∀ (w:ú) (a:OsState),(EL w a).abs=#[boot_heap w.params,Array.mk [],boot_drawn,boot_toks,a]:=λw a=>by kernel_rfl
theorem Gz:∀ w:ú,((boot_heap w.params).isNs ñ&&(Array.mk []:Array GenState).size == 0,(boot_heap w.params).objs.size,(boot_heap w.params).nsMap ñ "__annotations__")=(true,11,↑↥6):=λw=>by kernel_rfl
theorem Mh{loose:Zj}{a:Type}{c:É->a}{g:ú->a}{N:Nat}
  (e:opening p=plainProg p.main.scope.names) (i:ble 600 N) (f:∀ s,fenceModules? p s=↑s)
  (run:∀ (w:ú) (j:OsState),(iY through (stepOk 11 ↑↥6) (stepT (denote treeTable) p w) N (EL w j) (topStub p)).map (λs =>
   (staticsOk (importedModules p.main.body) (boot_heap w.params) s.abs.heap&&namesBound p s.abs.heap&&gensDone s.abs&&laidKept (boot_heap w.params) s.abs.heap,
    openSeen q loose (importedModules p.main.body) l true s.abs,c s.abs))=↑(true,openGood q loose,g w)):LeftO p q loose l c g N:=λw=>by
 obtain⟨⟨h,m,d,k,j⟩,n,o⟩:=Ö.mp (boot_open  e i f w);obtain⟨u,v,x⟩:_/\_/\_:=by simpa only [Prod.mk.injEq] using Gz w
 let(s1,y,z):=Ö.mp (run w j);have r:=rA y;rw[Gy] at r
 delta openEnds
 delta topFrom
 simp_all
def oF(o:Obj):Bool:=match o with
 |#[.none,none,.fields a,sl]=>a.isEmpty&&sl.isEmpty|_=>false
def PH(h:þ)(a:Ê):Option Obj:=match h.get? a with
 |↑o=>if oF o then none else ↑o|none=>none
def fragOf(h:þ):Frag:=(ø h.objs.size).filterMap λa=>(PH h a).map λo=>(a,o)
theorem iq(g:Ê->Option Obj)(a:Ê):∀ l:Zp,(l.filterMap λa=>(g a).map λo=>(a,o)).lookup a=if a∈l then g a else none
 |[]=>rfl
 |b::r=>by
  by_cases c:a=b
  .subst c;rw[Zu È];cases d:g a with
   |none =>
    rw[VM,d];show(r.filterMap _).lookup a=none;rw[iq g a r]
    simp_all
   |some o =>
    simp_all
  .rw[(by simp_all:(if a∈b::r then g a else none)=if a∈r then g a else none),<-(iq g a r)];cases d:g b with
   |none=>simp_all
   |some o =>
    rw[VM,d];show X1 a ((b,o)::_)=_;simp[X1,(by simpa using c:(a == b)=false)]
theorem GA(h:þ):(fragOf h).In h:=λa o e=>by
 delta fragOf at e
 rw[iq] at e;split at e
 .delta PH at e
  cases c:h.get? a with
  |none=>rw[c] at e;cases e
  |some u =>
   simp_all
 .cases e
theorem Mi(h:oF o):o=tabObj [].toArray:=by
 delta oF at h
 split at h
 .simp_all
 .cases h
theorem CW(e:h.get? a=↑o)(t:oF o):(fragOf h).lookup a=none:=by
 delta fragOf
 rw[iq];split
 .delta PH;rw[e];exact Zu t
 .rfl
def vE(K:Frag)(x:Str):Option (Str × Str × Yl × FuncBody × ý × Ê × ⇑(Str × Ê) × Ä × Ê × Bool):=match nsIn K ñ x with
 |↑↑↥a=>(match K.lookup a with
  |↑#[_,_,.func fd,_]=>↑(fd.name,fd.qualname,fd.params,fd.body,fd.scope,fd.globals,fd.closure,fd.defaults,fd.builtins,codeIn K fd.code x)
  |_=>none)
 |_=>none
def Bt(x:Str)(a:V9):Option (Str × Str × Yl × FuncBody × ý × Ê × ⇑(Str × Ê) × Ä × Ê × Bool):=↑(x,x,tx a,.stmts (fz a),bA a,ñ,[],.none,WK,true)
set_option tactic.hygienic true in
theorem Bu{K:Frag}{x:Str}{a:V9}(e:vE K x=Bt x a):∃ f fd,nsIn K ñ x=↑↑↥f/\Hy K x x a f fd/\∃ c d sl,K.lookup f=↑#[c,d,.func fd,sl]:=by
 delta vE Bt at e
 split at e
 .rename_i f g;split at e
  .rename_i c d fd sl h;let(i,j,k,bd,l,m,cl,n,o,p,q,r,s,u,bl):=fd;simp[Prod.mk.injEq,XZ] at e;let(rfl,rfl,rfl,rfl,rfl,rfl,rfl,rfl,rfl,v):=e;exact#[f,_,g,#[#[c,d,o,p,q,r,s,u,sl,rfl,h,v],by simp[keepIn,h]],c,d,sl,h]
  .cases e
 .cases e
def tab0At(h:þ)(T:Ê):Bool:=match h.get? T with
 |↑o=>oF o|none=>false
set_option tactic.hygienic true in
theorem GB{h:þ}{T:Ê}(e:tab0At h T):h.get? T=↑(tabObj [].toArray):=by
 delta tab0At at e
 split at e
 .rename_i o a;rw[a,Mi e]
 .cases e
def CY(h:þ)(K:Frag)(x:Str):Option Addr:=match nsIn K ñ x with
 |↑↑↥a=>(match K.lookup a with
  |↑#[_,_,.func d,_]=>(match d.code with
   |↥c=>(match K.lookup c with
    |↑#[_,_,.fields e,_]=>(match (e[11]?:Zn) with
     |↑↥T=>if codeHdIn K c T&&tab0At h T then ↑T else none
     |_=>none)
    |_=>none)
   |_=>none)
  |_=>none)
 |_=>none
set_option tactic.hygienic true in
theorem CZ{h:þ}{K:Frag}{x:Str}{T:Ê}(e:CY h K x=↑T):h.get? T=↑(tabObj [].toArray)/\∃ f a d fd sl c,nsIn K ñ x=↑↑↥f/\K.lookup f=↑#[a,d,.func fd,sl]/\fd.code=↥c/\codeHdIn K c T:=by
 delta CY at e
 split at e
 .rename_i f g;split at e
  .rename_i a d fd sl i;split at e
   .rename_i c j;split at e
    .split at e
     .split at e
      .rename_i q;cases e;rw[Á] at q;let(k,l):=q;exact#[GB l,f,a,d,fd,sl,c,g,i,j,k]
      .cases e
     .cases e
    .cases e
   .cases e
  .cases e
 .cases e
def eI:Zj:=["NoWeb","NoLot","NoPlaces","NoPlace","NoTie","NoChance","NoChances","NoPaper","TooMany","NoText","NoLine","NoDeed"]
def rY(K:Frag)(x:Str):Option Addr:=match nsIn K ñ x with
 |↑↑↥f=>↑f|_=>none
theorem lZ{K:Frag}{x:Str}{f:Ê}(e:rY K x=↑f):nsIn K ñ x=↑↑↥f:=by
 delta rY at e
 split at e
 .cases e;assumption
 .cases e
abbrev Sh:=Option Zn × Option Zn × Zr × Zr × Option Zn × Bool × Zr × Zr × Bool × ⇑Zr
def uc(K:Frag)(C:Ê):Sh:=(findIn K ↥C "__getattribute__",findIn K ↥C "__getattr__",mroIn K C (.type "BaseException"),mroIn K C (.type "object"),findIn K ↥C "__class__",hasDictIn K C,kitOne K ↥C (.type "ValueError"),
 (rY K "ChanceError").bind λD=>exmOne K ↥C ↥D,excIn K C [.type "ValueError",.type "Exception",.type "BaseException",.type "object"] "ValueError.__new__",eI.map λy=>(rY K y).bind λB=>kitOne K ↥C ↥B)
def zp(x:Str):Sh:=(↑↑(Value.builtin "BaseException.__getattribute__"),↑(none:Zn),↑true,↑true,↑↑(Value.builtin "object.__class__"),true,↑true,↑true,true,eI.map λy=>↑(decide (x=y)))
def qb(K:Frag)(x:Str):Zq:=match nsIn K ñ x with
 |↑↑(.int i _)=>↑i|_=>none
theorem Bv{K:Frag}{x:Str}{i:Int}(e:qb K x=↑i):∃ t,nsIn K ñ x=↑↑(.int i t):=by
 delta qb at e
 split at e
 .simp_all
 .cases e
def zq(K:Frag)(x:Str):Bool:=match nsIn K ñ x with
 |↑none=>true|_=>false
theorem Bw{K:Frag}{x:Str}(e:zq K x):nsIn K ñ x=↑none:=by
 delta zq at e
 split at e
 .assumption
 .cases e
structure iF where
 ds:⇑(Str × Stmt)
 is:⇑(Str × Int)
 ns:⇑Str
 ms:⇑Str
 cs:⇑Str
def iF.obs(q:iF)(s:É) :=
 let K:=fragOf s.heap
 (q.ds.map λd=>vE K d.1,q.is.map λd=>qb K d.1,q.ns.map (zq K),q.ms.map λx=>(CY s.heap K x).isSome,q.cs.map λx=>(rY K x).map (uc K),
  (specialIn K (.builtin "object.__class__") "__get__",takesIn K (.builtin "object.__class__")))
def iF.PJ(q:iF)(_:ú) :=
 (q.ds.map λd=>Bt d.1 d.2,q.is.map λd=>↑d.2,q.ns.map λ_=>true,q.ms.map λ_=>true,q.cs.map λx=>↑(zp x),
  (↑↑(Value.builtin "getset_descriptor.__get__"),↑true))
structure Facts(q:iF)(K:Frag)(h:Heap):Prop where
 fn:∀ d∈q.ds,∃ f fd,nsIn K mainGlobals d.1=↑↑↥f/\Hy K d.1 d.1 d.2 f fd/\∃ oc od sl,K.lookup f=↑⟨oc,od,.func fd,sl⟩
 it:∀ d∈q.is,∃ t,nsIn K mainGlobals d.1=↑↑(.int d.2 t)
 no:∀ x∈q.ns,nsIn K mainGlobals x=↑none
 mt:∀ x∈q.ms,∃ T,h.get? T=↑(tabObj [].toArray)/\K.lookup T=none/\∃ f oc od fd sl c,nsIn K mainGlobals x=↑↑↥f/\K.lookup f=↑⟨oc,od,.func fd,sl⟩/\fd.code=↥c/\codeHdIn K c T=true
 cl:∀ x∈q.cs,∃ C,nsIn K mainGlobals x=↑↑↥C/\uc K C=zp x
 sp:specialIn K (.builtin "object.__class__") "__get__"=↑↑(Value.builtin "getset_descriptor.__get__")
 tk:takesIn K (.builtin "object.__class__")=↑true
theorem oG{c d:Type}{f g:c->d}:∀ {l:⇑c},l.map f=l.map g->∀ a∈l,f a=g a:=λ{l} h a e=>List.map_inj_left.mp h a e
theorem iF.facts(q:iF)(w:ú)(s:É)(e:q.obs s=q.PJ w):Facts q (fragOf s.heap) s.heap:=by
 delta iF.obs iF.PJ at e
 simp only[Prod.mk.injEq] at e;let(a,c,f,g,h,i,j):=e;refine#[λd k=>Bu (oG a d k),λd k=>Bv (oG c d k),λx l=>Bw (oG f x l),λx l=>?_,λx l=>?_,i,j]
 .let(T,m):=Option.isSome_iff_exists.mp (oG g x l);let(n,o):=CZ m;exact#[T,n,CW n rfl,o]
 .let(C,n,o):=Ö.mp (oG h x l);exact#[C,lZ n,o]
def iF.hook(q:iF):Hook where
 α:=_
 obs:=q.obs
 val:=q.PJ
 says:=λ_ h=>∃ K:Frag,K.In h/\Facts q K h
 of:=λw s e=>#[_,GA _,q.facts w s e]
 keeps:=λ_ h c #[K,X,F] k=>#[K,X.keeps k,#[F.fn,F.it,F.no,λx d=>let #[T,a,b]:=F.mt x d;#[T,k _ _ a,b],F.cl,F.sp,F.tk]]
theorem GC{q:iF}{A B:⇑(Str × V9)}(a:A++B=q.ds){g h:Type}{o:Option g}{f:g->É}{b:g->Bool}{c:g->h}{i:h}{w:ú}
  (j:o.map (λs=>(b s,c s,({ q with ds:=A }:iF).obs (f s)))=↑(true,i,({ q with ds:=A }:iF).PJ w))
  (k:o.map (λs=>B.map λd=>vE (fragOf (f s).heap) d.1)=↑(B.map λd=>Bt d.1 d.2)):o.map (λs=>(b s,c s,q.obs (f s)))=↑(true,i,q.PJ w):=by
 let(s,rfl,l):=Ö.mp j;let(m,e,n):=Ö.mp k;cases e;simp only[iF.obs,iF.PJ,Prod.mk.injEq,<-a,gV] at l ⊢;grind
end L2
namespace Q
open PySem L2 PySem.Spec PyProof.Rows
structure Row where
 nm:Str
 ps:⇑Str
 st:Stmt
 N:⇑Str
 b:Sm
 lm:Bool
def C0(N a:Zj)(c:ý):Bool:=c.kind == .function&&!c.isCoroutine&&!c.isGenerator&&decide N.Nodup&&N.take a.length == a&&a.all (λx=>c.names.lookup x == ↑.local || c.names.lookup x == ↑.cell)&&c.names.all λy=>y.2 != .free
theorem vF(h:C0 N a sc):fy N a sc:=by
 delta C0 at h
 simp only[Á,ò,Zx,VT,Zw,Wk] at h;obtain⟨⟨⟨⟨⟨⟨c,d⟩,e⟩,f⟩,g⟩,i⟩,j⟩:=h;exact#[c,d,e,f,g,i,λy k=>by simpa using j y k]
def C1(r:Row):Prop:=∀ (kV a c:Ä) (d:Zk) (e f:Ä) (g:Zi),g.length=r.ps.length->bindArgs (fnOf r.nm r.nm (tx r.st) (fz r.st) (bA r.st) .none kV a c d e f) #[g,[]]=pure (r.ps.zip g)
def gy:⇑Row->Prop
 |[]=>True|r::l=>C1 r/\gy l
theorem gy.at:∀ {l:⇑Row}{r:Row},gy l->r∈l->C1 r
 |_::_,_,h,.head _=>h.1|_::_,_,h,.tail _ m=>gy.at h.2 m
theorem UN(h:us.length=1):∃ a,us=[a]:=List.length_eq_one_iff.mp h
theorem Vc(h:us.length=2):∃ a b,us=[a,b]:=by
 match us,h with
 |[a,b],_=>exact#[a,b,rfl]
theorem Vd(h:us.length=3):∃ a b c,us=[a,b,c]:=by
 match us,h with
 |[a,b,c],_=>exact#[a,b,c,rfl]
def zr(a:⇑(Str × Zj))(nums:⇑(Str × Int))(r:Row):Bool:=zo r.lm a nums eI (bA r.st) r.N r.b (fz r.st)&&isQ r.b&&r.N.all (iE (bA r.st))&&C0 r.N r.ps (bA r.st)
def jK(rows:⇑Row):⇑(Str × Zj):=rows.map λr=>(r.nm,r.ps)
def tabOf(rows:⇑Row):⇑Df:=rows.map λr=>Df.code r.ps.length r.N.length r.b
def l9(rows:⇑Row)(nums:⇑(Str × Int))(a:Zj)(ex:⇑(Str × V9)):iF:=#[rows.map (λr=>(r.nm,r.st))++ex,nums,"ValueError"::CM,a,eI]
def clsAt(K:Å)(c:Nat):Addr:=(rY K (eI.getD c "")).getD 0
theorem PK{K:Å}{C:Ê}{c:Nat}{x:Str}(a:eI[c]?=↑x)(h:PySem.W.nsIn K ñ x=↑↑↥C):clsAt K c=C:=by
 delta clsAt
 rw[Ì,a];show(rY K x).getD 0=C
 delta rY
 rw[h];rfl
theorem PL{K:Å}{h:þ}{a:Str->Zn}{q:iF}{x:Str}{j:Nat}(X:K.In h)(G:h.Ns ñ a)(F:Facts q K h)(c:x∈q.cs)(d:names12[j]?=↑x)(f:("ValueError":Str)∈q.ns):∃ C,PySem.W.nsIn K ñ x=↑↑↥C/\qU K a C j/\Yy K C [.type "ValueError",.type "Exception",.type "BaseException",.type "object"] "ValueError.__new__":=by
 let(C,g,e):=F.cl x c
 delta uc zp at e
 simp only[Prod.mk.injEq] at e;let(k,l,m,n,o,p,r,s,ex,u):=e;let(D,v,s):=Õ.mp s;refine#[C,g,#[λi y w=>?_,#[k,l,m,n,o,F.sp,F.tk],p,r,mg_none_of X G (F.no _ f),#[D,mg_of X G (lZ v),s],(ç.mp d).1],ex];let(B,A,E):=Õ.mp (oG u y (ë w));refine#[B,mg_of X G (lZ A),E.trans (congrArg some (decide_eq_decide.mpr #[λq=>?_,λq=>?_]))]
 .subst q;exact(List.getElem?_inj (ç.mp w).1 (by decide +kernel)).mp (w.trans d.symm)
 .subst q
  grind
section
variable {P:ð}{w:ú}{K:Å}{mg:Str->Zn}{base:þ}
theorem UO(F:jY P w K mg base (rP P w) k f fd ps sp):jY P w K mg base Au k f fd ps (λvs H Q _=>sp vs H Q λ_ _ _=>False) :=
 #[λvs H Q E h=>F.len _ _ _ _ h,λA outer s H args us vs Q E hr he hb hv hs=>Xg (F.run A outer s H args us vs Q _ hr he hb hv hs) λr s' h=>by
  cases r with
  |error e =>
   let(_,_,_,_,_,_,_,_,_,_,_,_,_,hE):=h;exact hE.elim
  |ok fl=>cases fl <;> exact h]
theorem Uo:TriplesOk ([].toArray:Zo).toList:=by first | trivial | grind
theorem dA.D7[c:Tb](h:dA K H a xs):dA K (hz none H) a xs:=by
 rcases h with (h | ⟨o,h⟩) | h
 .exact .inl (.inl (bx h (λq=>nomatch q)))
 .exact .inl (.inr #[o,bx h (λq=>nomatch q)])
 .exact .inr h
theorem JT[g:Tb]{G:Gs}{T:⇑Df}{k f:Nat}{H:Hp}{a:Ê}{h:Zl}(pure:aj T k f [.d (.lst (h.map D.int))] none=↑(.ok (.d (.bl true)) none))(i:∀ p∈g.tb,H p.1=↑(.dk [].toArray))(j:dA K H a (h.map V.int)) :
  KO K (Nm G T k) f 1 [↥a] H (λv _=>v=.bl true) λ_ _ _=>False:=by
 refine#[rfl,none,none,_,_,.cons ?_ .nil,#[trivial,λp l=>#[[].toArray,i p l,Uo,λpos c e=>nomatch e]],pure,λv m x n o=>Hd.xH (show Hd K (hz none m) _ v from o)];exact#[a,_,rfl,j.D7,bg.ints h]
end
def Mj(a:Str):Str:=(envOfC a #[.function,[],false,false,[]] 0 0 .none).qual++"<lambda>"
theorem JU{rows:⇑Row}{f:Nat}(h:(jK rows)[f]?=↑(nm,a)):∃ r∈rows,rows[f]?=↑r/\r.nm=nm/\r.ps=a:=by
 delta jK at h
 rw[å] at h;let(r,c,d):=Ö.mp h;cases d;exact#[r,ë c,c,rfl,rfl]
section
variable [TB:Tb] {P:ð}{w:ú}{K:Å}{h:þ}{mg:Str->Zn}{base:þ}{rows:⇑Row}{nums:⇑(Str × Int)}{mn:Zj}{ex:⇑(Str × V9)}
def C2(rows:⇑Row)(mn:Zj)(ex:⇑(Str × V9)):Prop:=∀ r∈rows,r.lm=true->r.nm∈mn/\∃ (a:V9) (n:Nat),(("_law_refused":Str),a)∈ex/\bA a=jC/\fz a=yM Q0/\C1 #["_law_refused",["_law_call"],a,[],.nil,false]
def JV[TB:Tb](K:Å)(rows:⇑Row):Prop:=∀ r∈rows,r.lm=true->∀ fd,(∃ f a c sl,PySem.W.nsIn K ñ r.nm=↑↑↥f/\K.lookup f=↑#[a,c,.func fd,sl])->Mg K r.nm fd
theorem zt(X:K.In h)(a:h.Ns ñ mg)(Q:Facts (l9 rows nums mn ex) K h):∀ c x,eI[c]?=↑x->PySem.W.nsIn K ñ x=↑↑↥(clsAt K c)/\qU K mg (clsAt K c) c/\Yy K (clsAt K c) [.type "ValueError",.type "Exception",.type "BaseException",.type "object"] "ValueError.__new__":=λc x d=>by
 let(C,e,f,g):=PL   X a Q (ë d) d È;rw[PK d e];exact#[e,f,g]
theorem zu(X:K.In h)(a:h.Ns ñ mg)(Q:Facts (l9 rows nums mn ex) K h)(bm:BMain mg base)(hR:C2 rows mn ex)(c:r∈rows)(d:r.lm):∃ e f,Mf P w K mg base (clsAt K) e f:=by
 let(g,i,n,l,m,o,p):=hR r c d;let(e,f,q,s,u,v,y,z):=Q.fn _ (Ô _ l);refine#[e,f,bm,λj A=>?_,mg_of X a q,s.kp,s.binds p,λk=>Ov s m o (mg_none_of X a (Q.no _ (Î _ (-0)))) (mg_none_of X a (Q.no _ (Î _ (-0))))]
 have B:∃ x,eI[j]?=↑x:=#[_,ß (by exact A)]
 let(x,B):=B;exact(zt X a Q j x B).2.1
theorem Mk(X:K.In h)(a:h.Ns ñ mg)(Q:Facts (l9 rows nums mn ex) K h)(ok:rows.all (zr (jK rows) nums))(bd:gy rows)(bm:BMain mg base)(hR:C2 rows mn ex)(d:JV K rows)(g:FT):∀ k,GX P w K mg base (Nm #[jK rows,nums,g,clsAt K,0] (tabOf rows) k) eI:=by
 refine JS (λp i=>?_) (λn j=>?_) (λc x l=>?_) λf m o q=>?_
 .let(t,e):=Q.it p i;exact#[t,mg_of X a e]
 .exact mg_none_of X a (Q.no n (Î _ j))
 .let(s,_,u):=zt X a Q c x l;exact#[mg_of X a s,u]
 .let(r,v,y,rfl,rfl):=JU q;let(z,fd,A,B,C,E,sl,lk):=Q.fn _ (ä _ (Ç.mpr #[r,v,rfl]));have F:=Ù.mp ok r v;unfold zr at F;simp only[Á] at F;obtain⟨⟨⟨G,b2⟩,b3⟩,b4⟩:=F;refine#[z,fd,mg_of X a A,B.kp,B.binds (bd.at v),.inl #[r.lm,r.N,r.st,r.b,?_,B,vF b4,b3,b2,G,λH=>?_]]
  .delta tabOf
   simp_all
  .let(I,J,L):=zu   X a Q bm hR v H;exact#[I,J,L,d r v H fd #[z,C,E,sl,A,lk]]
theorem JW(X:K.In h)(a:h.Ns ñ mg)(Q:Facts (l9 rows nums mn ex) K h)(ok:rows.all (zr (jK rows) nums))(bd:gy rows)(bm:BMain mg base)(hR:C2 rows mn ex)(c:JV K rows)(e:FT)(k:Nat)(g:rows[i]?=↑r)(j:Hy K r.nm r.nm r.st m fd)
  (n:∃ f o p sl,PySem.W.nsIn K ñ r.nm=↑↑↥f/\K.lookup f=↑#[o,p,.func fd,sl]):jY P w K mg base (rP P w) (SM (k + 3)) m fd r.ps (KO K (Nm #[jK rows,nums,e,clsAt K,0] (tabOf rows) (k + 3)) i r.ps.length):=by
 have q:=ë g;have s:=Ù.mp ok r q;unfold zr at s;simp only[Á] at s;obtain⟨⟨⟨u,b2⟩,b3⟩,b4⟩:=s;have all:=Mk (P:=P) (w:=w) X a Q ok bd bm hR c e;refine EK   (all _) j (vF b4) b3 u b2 (λv=>?_) λl z=>?_
 .let(x,y,L):=zu   X a Q bm hR q v;exact#[k,x,y,rfl,L,c r q v fd n,λf A B h=>(all k).gok f A B h]
 .show(match (tabOf rows)[i]? with | ↑d=>run (oA _ (k + 2)) d l | none=>Zg) z=_
  delta tabOf
  rw[å,g];rfl
end
theorem GD{P:ð}{w:ú}{K:Å}{f mb:Str->Zn}{k:Nat}{fa a:Ê}{fd:V2}{x:Str}{sp:Sp}{g:É}{i:Zi}{j:Zl}{l:Zp}
  (KX:K.In g.heap) (p:g.heap.Ns ñ f) (A:g.heap.Ns WK mb) (hbb:∀ x:Str,x≠"__name__"->mb x=Vk x) (hlim:g.heap.NoLimit) (hg:g.gens=[].toArray)
  (ha:g.heap.get? a=↑{ cls:=.type "list",data:=.seq i.toArray }) (hi:Yv i j) (hl:j.length<=sizeLine) (hr:eG k callerA)
  (hT:∀ B∈l,g.heap.get? B=↑(W4 [].toArray)/\K.lookup B=none/\∃ c,Vy K c B) (bmn:BMain f g.heap)
  (F:∀ C:þ,K.In C->C.Ns ñ f->BMain f C->jY P w K f C Au k fa fd [x] sp) (E:∀ (s:É) (u:Ä),BindsTo s fd #[[u],[]] [(x,u)])
  (hsp:∀ H:Hp,(∀ B∈l,H B=↑(.dk [].toArray))->dA K H a (j.map V.int)->sp [↥a] H (λv _=>v=.bl true) λ_ _ _=>False) :
  Wy (Ü P w) callerA (.call ↥fa #[[↥a],[]]) (λr G=>r=.ok (.ret (.bool true))/\OldK g.heap G.heap/\G.os=g.os/\AllBare G.gens) g:=by
 have rv:=qP hi;have naT:a ∉ l:=λh=>by simp_all
 have I:∀ H ,(∀ B∈l,H B=↑(.dk [].toArray))->(∀ b,H b=none\/b∈l\/(b=a/\∃ J,H b=↑(.frz { cls:=.type "list",data:=.seq i.toArray } (.lst J))))->dA K H a (j.map V.int)->jV P w H g.heap->(H a≠none->K.lookup a=none) ->
   Wy (Ü P w) callerA (.call ↥fa #[[↥a],[]]) (λr G=>r=.ok (.ret (.bool true))/\OldK g.heap G.heap/\G.os=g.os/\AllBare G.gens) g:=by
  intro H hH hO hS aX hK;have L:∀ {b:Ê}{o:Obj},g.heap.get? b=↑o->(∀ J n,o.data≠.seq J n)->(∀ J,o.data≠.fields J)->H b=none:=λ{b o} e d1 d2=>by
   rcases hO b with z | z | ⟨z,_⟩
   .exact z
   .have:=(hT b z).1;rw[e] at this;simp_all
   .rw[z,ha] at e;cases e;exact absurd rfl (d1 _ _)
  have N:∀ {b:Ê}{m:Str->Zn},g.heap.Ns b m->(ux g.heap H).Ns b m:=λ{b m} #[o,es,ep,e,d,r]=>#[o,es,ep,jw e (L e (λJ n z=>by simp_all) λJ z=>by simp_all),d,r]
  have hKb :=λb o e=>jw (KX b o e) (by
   rcases hO b with z | z | ⟨z,J,z2⟩
   .exact z
   .rw[(hT b z).2.1] at e;cases e
   grind)
  have hM:Mod K f _:=#[hKb,N p,#[mb,N A,hbb],let #[mc,h1,h2]:=hlim;#[mc,N h1,h2]];have hBM:BMain f (ux g.heap H):=by
   let(bm,ob,b1,b2,b3,b4,b5,b6):=bmn;exact#[bm,ob,b1,b2,jw b3 (L b3 (λJ n z=>by simp_all) λJ z=>by grind),b4,b5,b6]
  have e0:wK P w K f _ callerA [] g H:=#[rfl,hM,λb o e=>Ds e,WA (xg _ _),trivial,λb A=>absurd (show b∈([]:Zp) from A) ⋯,aX,.of_eq hg]
  refine Xg ((F _ hKb (N p) hBM).run callerA [] g H #[[↥a],[]] [↥a] [↥a] _ _ hr e0 (E g ↥a) (.cons rfl .nil) (hsp H hH hS)) λr G h=>?_;cases r with
  |error e=>exact tv h
  |ok fl =>
   cases fl with
   |next=>exact tv h
   |brk=>exact tv h|cont=>exact tv h
   |ret u =>
    let(v,H',os,bare,un,U,r',q):=h;have q':v=.bl true:=q;subst q';obtain rfl:u=YJ true:=r';refine#[rfl,#[λb o e=>?_,λb o e=>un.there b o e ⋯],os,bare]
    rcases hO b with z | z | ⟨z,J,z2⟩
    .exact .inl (un.keep b o e z (by intro y;exact absurd (show b∈([]:Zp) from y) ⋯) ⋯)
    .let(t1,_,c,t2):=hT b z;rw[e] at t1;cases t1;let(X,m1):=un.tbls b _ (hH b z);have m2:G.heap.get? b=↑{ cls:=.none,data:=.fields ([].toArray++X) }:=U b _ m1;have CH:=codeHd_of_K KX t2;exact .inr (.inl #[(CH.tab e).isCodeTable,rfl,[].toArray,X,rfl,m2])
    .have z3:=un.frzs b _ _ z2;let(e1,_):=aX b _ z2;let(e2,_):=U b _ z3;rw[e] at e1;cases e1;exact .inl e2
 cases hk:K.lookup a with
 |some o =>
  have e:=KX a o hk;rw[ha] at e;cases e;refine I (λb=>if b∈l then ↑(.dk [].toArray) else none) (λB h=>Zu h) (λb=>?_) (.inr #[i.toArray,_,hk,by rw[á,hi.length];exact hl,rv]) (λb u z=>?_) λz=>absurd (Zv naT) z
  .by_cases h:b∈l
   .exact .inr (.inl h)
   .exact .inl (Zv h)
  .by_cases h:b∈l
   .have Y:=(Zu h).symm.trans z;cases Y;exact(hT b h).1
   .have Y:=(Zv h).symm.trans z;cases Y
 |none =>
  refine I (λb=>if b=a then ↑(.frz { cls:=.type "list",data:=.seq i.toArray } (.lst (j.map V.int))) else if b∈l then ↑(.dk [].toArray) else none) (λB h=>?_) (λb=>?_) (.inl (.inr #[{ cls:=.type "list",data:=.seq i.toArray },Zu rfl])) (λb u z=>?_) λ_=>hk
  .rw[Zv (λy=>naT (by rw[<-y];exact h)),Zu h]
  .by_cases A:b=a
   .exact .inr (.inr #[A,_,Zu A])
   .by_cases h:b∈l
    .exact .inr (.inl h)
    .exact .inl (by rw[Zv A,Zv h])
  .by_cases A:b=a
   .have Y:=(Zu A).symm.trans z;cases Y;subst A;exact#[ha,by rw[Ã];exact hl,i,_,rv,ha]
   .replace z:=(Zv A).symm.trans z
    by_cases h:b∈l
    .have Y:=(Zu h).symm.trans z;cases Y;exact(hT b h).1
    .have Y:=(Zv h).symm.trans z;cases Y
theorem JX{l:PySem.W.OpenLaw}{n k:Nat}{loose:Zj}{x:Str}
  (hn:l.most=↑n) (e:n<=sizeLine) (i:d.params.defaults=[]) (hr:eG k callerA)
  (F:∀ (w:ú) (j:Str->Zn) (m:Ê) (h:þ) (K:Å),Facts A K h->K.In h->h.Ns ñ j->j d.name=↑↥m ->
   ∃ (fd:V2) (p:Zp) (r:Sp),(∀ y∈p,h.get? y=↑(W4 [].toArray)/\K.lookup y=none/\∃ c,Vy K c y)/\(∀ (s:É) (u:Ä),BindsTo s fd #[[u],[]] [(x,u)]) /\
    (∀ z:þ,K.In z->z.Ns ñ j->BMain j z->jY l.prog w K j z Au k m fd [x] r) /\
    ∀ (H:Hp) (a:Ê) (B:Zl),B.length<=n->(∀ y∈p,H y=↑(.dk [].toArray))->dA K H a (B.map V.int)->r [↥a] H (λv _=>v=.bl true) λ_ _ _=>False) :
  PySem.W.WalkO q loose XP A.hook.says l.row.toRowW d [] (λf C=>PySem.call f C):=by
 refine Att.As hn i λw E I j mb m o pm cd doc a C B G Y ho hd hcd J L N P hg=>?_;let(K,U,FX):=Y;let(fd,p,r,hT,hb,hF,X):=F w j m _ K FX U G.T.g J;exact GD U G.T.g G.T.b G.T.builtins G.T.nolimit hg L N (Í P e) hr hT G.T.bmain hF hb λH hH hS=>X H a B P hH hS
theorem Ml{l:PySem.W.OpenLaw}{rows:⇑Row}{nums:⇑(Str × Int)}{g:Zj}{ex:⇑(Str × V9)}{k iL n:Nat}{i:Row}(ok:rows.all (zr (jK rows) nums))(bd:gy rows)(hL:rows[iL]?=↑i)(hn:i.nm="law")(j:i.ps=[("_law_script":Str)])(o:g.length<=1)(hR:C2 rows g ex)
  (pure:∀ q:Zl,q.length<=n->aj (tabOf rows) (k + 3) iL [.d (.lst (q.map D.int))] none=↑(.ok (.d (.bl true)) none)) (w:ú) (x:Str->Zn) (y:Ê) (h:þ) (K:Å) (Q:Facts (l9 rows nums g ex) K h) (X:K.In h) (Gn:h.Ns ñ x) (z:x "law"=↑↥y) :
   ∃ (fd:V2) (A:Zp) (B:Sp),(∀ C∈A,h.get? C=↑(W4 [].toArray)/\K.lookup C=none/\∃ c,Vy K c C)/\(∀ (s:É) (u:Ä),BindsTo s fd #[[u],[]] [("_law_script",u)]) /\
    (∀ E:þ,K.In E->E.Ns ñ x->BMain x E->jY l.prog w K x E Au (SM (k + 3)) y fd ["_law_script"] B) /\
    ∀ (H:Hp) (a:Ê) (q:Zl),q.length<=n->(∀ C∈A,H C=↑(.dk [].toArray))->dA K H a (q.map V.int)->B [↥a] H (λv _=>v=.bl true) λ_ _ _=>False:=by
 have G :=ë hL;let(fL,I,aL,FL,J,L,N,lkL):=Q.fn _ (ä _ (Ç.mpr #[i,G,rfl]));have e:=z.symm.trans (mg_of X Gn (by rw[<-hn];exact aL))
 cases e;have U:∀ (TB:Tb) (A:Zp),(∀ p∈TB.tb,p.1∈A)->(∀ C∈A,h.get? C=↑_/\K.lookup C=none/\∃ c,Vy K c C=true)->JV K rows ->
   ∃ (fd:V2) (A:Zp) (B:Sp),(∀ C∈A,h.get? C=↑(W4 [].toArray)/\K.lookup C=none/\∃ c,Vy K c C=true)/\(∀ (s:É) (u:Ä),BindsTo s fd #[[u],[]] [("_law_script",u)]) /\
    (∀ E ,K.In E->E.Ns ñ x->BMain x E->jY l.prog w K x E Au _ y fd _ B) /\
    ∀ (H:Hp) (a:Ê) (q:Zl),q.length<=n->(∀ C∈A,H C=↑_)->dA K H a (q.map V.int)->B [↥a] H _ λ_ _ _=>False:=λTB A h1 h2 h3=>by
  refine#[I,A,λvs H Q _=>KO K (Nm #[jK rows,nums,λ_ _ _=>Zg,clsAt K,0] _ _) iL 1 vs H Q _,h2,by
  let(_,_,kV,doc,pm,an,cdv,ct,_,e,_,_):=FL.ex;subst e;intro s u;have:=(bd.at G) kV doc pm an cdv ct [u] (by rw[j];rfl)
  rw[j] at this;exact .of_eq this,λE kb nb bm=>?_,λH a q hl hH hS=>JT (pure q hl) (λp j=>hH p.1 (h1 p j)) hS];have F:=UO (JW (P:=l.prog) (w:=w) X Gn Q ok bd bm hR h3 (λ_ _ _=>Zg) k hL FL #[y,J,L,N,aL,lkL]);rw[j] at F;exact F
 match g,o,Q with
 |[],_,Q =>
  exact U #[[]] [] (λp j=>by cases j) (λp j=>by cases j) λr hr Y=>by
   have:=(hR r hr Y).1;cases this
 |[m],_,Q =>
  let(T,t1,t2,f,oc,od,fd,sl,c,t3,t4,t5,t6):=Q.mt m (.head _);refine U #[[(T,Mj m)]] [T] (λp j=>?_) (λp j=>?_) λr hr Y fd' h'=>?_
  .simp_all
  .cases Ë.mp j;exact#[t1,t2,c,t6]
  .have hm:r.nm=m:=Ë.mp (hR r hr Y).1;rw[hm] at h' ⊢;let(f',oc',od',sl',e1,e2):=h';rw[t3] at e1;cases e1;rw[t4] at e2;cases e2;exact#[c,T,Mj m,t5,t6,λ_ _ _ _=>rfl,.head _,λp j _=>by cases Ë.mp j;rfl]
end Q
namespace Q
open L2 (D)
open PySem (Paired)
def zw:Ex->Bool
 |.var _=>false|_=>true
def Uq:Ex->Env->Option (Option S)
 |.var i,a=>a[i]?|_,_=>none
def Si:Option (Option S)->Option S
 |↑↑s=>M3 s|_=>none
def SN:S->Zr
 |.d (.bl b)=>↑b|_=>none
abbrev Du{a:Type}(_:a->Z->Prop)(_:Nat->Z->Prop):Type:=Unit
abbrev Dv{a:Type}(_:a->Prop):Type:=Unit
structure W{α:Type}(m:M α)(z:Z)(Q:α->Z->Prop)(E:Nat->Z->Prop)(du:Du Q E:=()):Prop where
 ex:∃ r,m z=↑r/\match r with
  |.ok a z1=>Q a z1|.er c z1=>E c z1
theorem Sj{Q:α->Z->Prop}:W m z Q E↔∃ r,m z=↑r/\match r with
  |.ok a d=>Q a d|.er c d=>E c d:=#[W.ex,W.mk]
abbrev NE:Nat->Z->Prop:=λ_ _=>False
def cD{c:Type}(o:Option c)(P:c->Prop)(_:Dv P:=()):Prop:=match o with
 |↑a=>P a|none=>False
theorem EM{c:Type}{a:c}{P:c->Prop}:cD ↑a P↔P a:=Iff.rfl
theorem dJ{o:Option α}(h:cD o P):∃ a,o=↑a/\P a:=by
 cases o with
 |none=>exact h.elim|some a=>exact#[a,rfl,h]
theorem ae{o:Option α}{a:α}{P:α->Prop}(h:o=↑a)(c:P a):cD o P:=by rw[h];exact c
section
variable {α β:Type}{m:M α}{z z1:Z}{Q Q':α->Z->Prop}{E E':Nat->Z->Prop}
theorem W.mono(h:W m z Q E)(d:∀ a z,Q a z->Q' a z)(f:∀ c z,E c z->E' c z):W m z Q' E':=by
 let(r,e,h):=h;refine#[r,e,?_];cases r with
 |ok a z1=>exact d _ _ h|er c z1=>exact f _ _ h
theorem W.imp(h:W m z Q NE)(c:∀ a z,Q a z->Q' a z):W m z Q' E':=h.mono c λ_ _ h=>h.elim
theorem W.ok{a:α}(h:W m z (λb d=>b=a/\d=z1) NE):m z=↑(.ok a z1):=by
 let(r,e,h):=h;cases r with
 |ok b d=>simp_all|er c d=>exact h.elim
theorem W.er(h:W m z (λ_ _=>False) (λd a=>d=c/\a=z1)):m z=↑(.er c z1):=by
 let(r,e,h):=h;cases r with
 |ok b a=>exact h.elim|er d a=>simp_all
theorem Sk(h:m z=↑(.ok a z1)):W m z Q E↔Q a z1:=by
 constructor
 .rintro ⟨r,e,q⟩
  simp_all
 .exact λq=>#[_,h,q]
theorem Ur(h:m z=↑(.er c z1)):W m z Q E↔E c z1:=by
 constructor
 .rintro ⟨r,e,q⟩
  simp_all
 .exact λq=>#[_,h,q]
theorem kS:W (Ze a) z Q E↔Q a z:=Sk rfl
theorem Bx:W (Zg:M α) z Q E↔False:=#[λ#[_,e,_]=>(by cases e),tv]
set_option tactic.hygienic true in
theorem gm{f:α->M β}{Q:β->Z->Prop}:W (Zd m f) z Q E↔W m z (λa z1=>W (f a) z1 Q E) E:=by
 constructor
 .rintro ⟨r,e,q⟩;unfold Zd at e;split at e
  .rename_i a z1 d;exact#[_,d,r,e,q]
  .rename_i c z1 d;cases e;exact#[_,d,q]
  .cases e
 .rintro ⟨r,e,q⟩;cases r with
  |ok a z1 =>
   let(r,g,q):=q;refine#[r,?_,q];unfold Zd;rw[e];exact g
  |er c z1 =>
   refine#[.er c z1,?_,q];unfold Zd;rw[e]
set_option tactic.hygienic true in
theorem JY:W (M.calm m) z Q E↔W m z Q NE:=by
 delta M.calm
 constructor
 .rintro ⟨r,e,q⟩;split at e
  .rename_i a z1 d;cases e;exact#[_,d,q]
  .cases e
 .rintro ⟨r,e,q⟩;cases r with
  |ok a z1=>exact#[_,by rw[e],q]|er c z1=>exact q.elim
theorem Mm(h:∀ a z,Q a z↔Q' a z):W m z Q E↔W m z Q' E:=#[λx=>x.mono (λa z=>(h a z).mp) λ_ _ h=>h,λx=>x.mono (λa z=>(h a z).mpr) λ_ _ h=>h]
theorem wR:Q a z↔W (Ze a) z Q E:=kS.symm
theorem wN:False↔W (Zg:M α) z Q E:=Bx.symm
theorem wT[Decidable c]{a b:M α}(d:A↔W a z Q E)(e:B↔W b z Q E):(if c then A else B)↔W (if c then a else b) z Q E:=by
 split <;> assumption
theorem wG{K:β->Prop}(h:∀ a,K a↔W (f a) z Q E):cD o K↔W (Zd (Zf o) f) z Q E:=by
 cases o with
 |none=>exact Bx.symm|some a=>exact h a
theorem wB{m:M β}{V:Prop}(c:V↔W m z K E)(d:∀ a z1,K a z1↔W (f a) z1 Q E):V↔W (Zd m f) z Q E:=c.trans ((Mm d).trans gm.symm)
end
def Wm{d:Type}(o:Option (R d))(Q:d->Z->Prop)(E:Nat->Z->Prop):Prop:=match o with
 |↑(.ok a e)=>Q a e|↑(.er c e)=>E c e|none=>False
theorem wM{m:M α}{Q:α->Z->Prop}:Wm (m z) Q E↔W m z Q E:=by
 rw[Sj];cases h:m z with
 |none=>exact#[tv,λ#[_,e,_]=>by cases e]
 |some r =>
  refine#[λq=>#[r,rfl,?_],λ#[_,e,q]=>?_]
  .cases r <;> exact q
  .cases e;cases r <;> exact q
def Vr(o:Option (Option S))(z:Z)(Q:⇑S->Z->Prop)(_:Du Q NE:=()):Prop:=match o with
 |↑↑s=>Q [qJ s] z|_=>False
def WV:FT->Ex->Env->Z->(⇑S->Z->Prop)->(Nat->Z->Prop)->Prop
 |F,.nil=>λe z Q E=>Q [] z|F,.cons a r=>λe z Q E=>WV F a e z (λx h=>cD (one x) λs=>WV F r e h (λy j=>Q (s::y) j) E) E|F,.con x=>λe z Q E=>Q [.d x] z|F,.gint g i=>λe z Q E=>Q [.d (~~~i)] z|F,.tup as=>λe z Q E=>WV F as e z (λl h=>cD (kN l) λds=>if ds.length<=most then Q [.d (.tup ds)] h else False) E|F,.lst as=>λe z Q E=>WV F as e z (λl h=>cD (kN l) λds=>if ds.length<=most then Q [.fr ds] h else False) E|F,.bin o a b=>λe z Q E=>WV F a e z (λx h=>cD (pl x) λm=>WV F b e h (λy j=>cD (pl y) λn=>cD (f9 o m n) λs=>Q [s] j) E) E|F,.cmp o a b=>λe z Q E=>WV F a e z (λx h=>cD (pl x) λm=>WV F b e h (λy j=>cD (pl y) λn=>cD (fB o m n) λt=>Q [.d (.bl t)] j) E) E|F,.neg a=>λe z Q E=>WV F a e z (λx h=>cD ((pl x).bind SH) λi=>Q [.d (~~~(-i))] h) E|F,.not a=>λe z Q E=>WV F a e z (λx h=>cD ((pl x).bind lJ) λb=>Q [.d (.bl !b)] h) E|F,.and a b=>λe z Q E=>WV F a e z (λx h=>cD ((pl x).bind lJ) λc=>if c then WV F b e h (λy j=>cD ((pl y).bind lJ) λc=>Q [.d (.bl c)] j) E else Q [.d (.bl false)] h) E|F,.or a b=>λe z Q E=>WV F a e z (λx h=>cD ((pl x).bind lJ) λc=>if c then Q [.d (.bl true)] h else WV F b e h (λy j=>cD ((pl y).bind lJ) λc=>Q [.d (.bl c)] j) E) E|F,.orT a b=>λe z Q E=>WV F a e z (λx h=>cD ((pl x).bind wY) λl=>if l.isEmpty then WV F b e h (λy j=>cD ((pl y).bind wY) λl=>Q [.d (.tup l)] j) NE else Q [.d (.tup l)] h) NE|F,.ite c a b=>λe z Q E=>WV F c e z (λx h=>cD ((pl x).bind lJ) λc=>if c then WV F a e h Q E else WV F b e h Q E) E|F,.ch o q a b c=>λe z Q E=>WV F a e z (λx h=>cD (pl x) λm=>WV F b e h (λy j=>cD (pl y) λn=>cD (fB o m n) λt=>if t then WV F c e j (λw A=>cD (pl w) λB=>cD (fB q n B) λt=>Q [.d (.bl t)] A) E else Q [.d (.bl false)] j) E) E|F,.bf f as=>λe z Q E=>WV F as e z (λl h=>cD (kN l) λds=>cD (kO f ds) λs=>Q [s] h) E|F,.isi t a=>λe z Q E=>WV F a e z (λx h=>cD (pl x) λx=>Q [.d (.bl (CG t x))] h) E|F,.idx a i=>λe z Q E=>WV F a e z (λx h=>cD (pl x) λm=>WV F i e h (λy j=>cD (pl y) λn=>cD (iP m n) λr=>Q [.d r] j) E) E|F,.sl a lo C=>λe z Q E=>WV F a e z (λx h=>cD (pl x) λm=>WV F lo e h (λu j=>cD (AW u) λu=>WV F C e j (λv A=>cD (AW v) λv=>cD (TK m u v) λs=>Q [s] A) E) E) E|F,.rev a=>λe z Q E=>WV F a e z (λx h=>cD ((pl x).bind Q4) λs=>Q [s] h) E|F,.call f as=>λe z Q E=>WV F as e z (λl h=>W (F false f (l.map qJ)) h (λs j=>Q [s] j) E) E|F,.comp own G p it src cond H=>λe z Q E=>WV F src e z (λl h=>cD ((kN l).bind (AX it)) λI=>if I.length<=most then W (turns (kQ (ev F cond) (ev F H) p (ÿ own none++G.map λi=>(e[i]?).getD none)) I) h (λJ j=>Q [.fr J] j) NE else False) E|F,.lrng b as=>λe z Q E=>WV F as e z (λl h=>cD ((kN l).bind Q5) λI=>Q [UD b I] h) E|F,.flat a=>λe z Q E=>WV F a e z (λl h=>cD ((pl l).bind IH) λI=>Q [.fr I] h) E|F,.oY as=>λe z Q E=>WV F as e z (λl h=>cD (kN l) λds=>cD (AZ ds) λs=>Q [s] h) E|F,.dkeys a=>λe z Q E=>WV F a e z (λl h=>cD ((pl l).bind II) λK=>Q [.ks K] h) E|F,.memk o a i=>λe z Q E=>WV F a e z (λl h=>cD ((pl l).bind F7) λk=>cD (Ly e[i]?) λK=>Q [.d (.bl (K.contains k == o))] h) E|F,.var i=>λe z Q E=>Vr e[i]? z Q|F,.zget i k=>λe z Q E=>Wm (AY k e[i]? z) Q E
def WE(F:FT)(e:Ex)(a:Env)(z:Z)(Q:⇑S->Z->Prop)(E:Nat->Z->Prop)(_:Du Q E:=()):Prop:=WV F e a z Q E
def WX(F:FT)(a:Bool):Sm->Env->Z->(O->Z->Prop)->(Nat->Z->Prop)->Prop
 |.nil=>λd z Q E=>Q (.nx d) z
 |.seq s r=>λd z Q E=>WX F a s d z (λo h=>match o with
  |.nx d=>WX F a r d h Q E
  |.rt s=>Q (.rt s) h) E
 |.set p e=>λd z Q E=>WE F e d z (λl h=>cD (one l) λs=>cD (iX p s (eW s d)) λj=>Q (.nx j) h) E|.ret e=>λd z Q E=>if zw e then WE F e d z (λl h=>cD ((one l).bind M3) λs=>Q (.rt s) h) E else cD (Si (Uq e d)) λs=>Q (.rt s) z|.iff c t e=>λd z Q E=>WE F c d z (λx h=>cD ((pl x).bind lJ) λb=>if b then WX F a t d h Q E else WX F a e d h Q E) E|.exp e=>λd z Q E=>WE F e d z (λl h=>cD (one l) λ_=>Q (.nx d) h) E|.rais c=>λd z Q E=>E c z|.fr p it src b=>λd z Q E=>WE F src d z (λl h=>cD ((kN l).bind (AX it)) λk=>W (sW (λx d=>Zd (Zf (cJ p x d)) λd=>ex F a b d) k (D6 it src l d)) h Q E) E|.whl c b=>λd z Q E=>W (F8 (ev F c) (ex F a b) F9 d) z Q E|.lams i ls g e t r=>λd z Q E=>W (ex F a (.lams i ls g e t r) d) z Q E|.zset i e=>λd z Q E=>WE F e d z (λl h=>cD ((pl l).bind SH) λv=>Wm (IL d v d[i]? h) Q E) E|.app i e=>λd z Q E=>cD (ownAt d i) λk=>WE F e d z (λl h=>cD (pl l) λx=>if bare x=true/\k.length < most then Q (.nx (d.set i ↑(.fr (k++[x])))) h else False) E|.newz i f as=>λd z Q E=>WE F (.call f as) d z (λl h=>Wm (xG a d i l) Q E) E
def WS(F:FT)(a:Bool)(s:Sm)(c:Env)(z:Z)(Q:O->Z->Prop)(E:Nat->Z->Prop)(_:Du Q E:=()):Prop:=WX F a s c z Q E
theorem PM:∀ (e:Ex) {F:FT}{d:Env}{z:Z}{Q:⇑S->Z->Prop}{E:Nat->Z->Prop},WV F e d z Q E↔W (ev F e d) z Q E:=by
 intro e
 induction e with
 |nil=>exact wR|cons a r j n=>exact wB j λx q=>wG λs=>wB n λy A=>wR
 |var i =>
  intro F d z Q E;show Vr _ z Q↔W (match d[i]? with | ↑↑s=>Ze _ | _=>Zg) z Q E
  generalize d[i]?=o
  match o with
  |↑↑s=>exact wR|↑none=>exact wN|none=>exact wN
 |con x=>exact wR|gint g i=>exact wR|tup a j=>exact wB j λl q=>wG λds=>wT wR wN|lst a j=>exact wB j λl q=>wG λds=>wT wR wN|bin o a b j B=>exact wB j λx q=>wG λC=>wB B λy A=>wG λG=>wG λs=>wR|cmp o a b j B=>exact wB j λx q=>wG λC=>wB B λy A=>wG λG=>wG λs=>wR|neg a j=>exact wB j λx q=>wG λi=>wR|not a j=>exact wB j λx q=>wG λi=>wR|and a b j B=>exact wB j λx q=>wG λc=>wT (wB B λy A=>wG λc=>wR) wR|or a b j B=>exact wB j λx q=>wG λc=>wT wR (wB B λy A=>wG λc=>wR)|orT a b j B=>refine Iff.trans ?_ JY.symm;exact wB j λx q=>wG λl=>wT (wB B λy A=>wG λl=>wR) wR|ite c a b H j B=>exact wB H λx q=>wG λc=>wT j B|ch o I a b c j B H=>exact wB j λx q=>wG λC=>wB B λy A=>wG λG=>wG λt=>wT (wB H λw J=>wG λK=>wG λt=>wR) wR|bf f a j=>exact wB j λl q=>wG λds=>wG λs=>wR|isi t a j=>exact wB j λx q=>wG λx=>wR|idx a i j L=>exact wB j λx q=>wG λC=>wB L λy A=>wG λG=>wG λr=>wR|sl a l h j N P=>exact wB j λx q=>wG λC=>wB N λu A=>wG λu=>wB P λv J=>wG λv=>wG λs=>wR|rev a j=>exact wB j λx q=>wG λs=>wR|call f a j=>intros;exact wB j λl q=>wB Iff.rfl λs A=>wR|comp own U p it src cond X hs H he=>intros;exact wB hs λl q=>wG λY=>wT (wB JY.symm λys A=>wR) wN|zget i k=>intros;exact wM (m:=AY k _)|lrng b a j=>intros;exact wB j λl q=>wG λY=>wR|flat a j=>intros;exact wB j λl q=>wG λY=>wR|oY a j=>intros;exact wB j λl q=>wG λds=>wG λs=>wR|dkeys a j=>intros;exact wB j λl q=>wG λY=>wR|memk o a i j=>intros;exact wB j λl q=>wG λk=>wG λY=>wR
theorem bz{e:Ex}{Q:⇑S->Z->Prop}:WE F e a z Q E↔W (ev F e a) z Q E:=PM e
theorem Sl(h:zw e):ex F a (.ret e) c=Zd (ev F e c) λl=>Zd (Zf ((one l).bind M3)) λs=>Ze (.rt s):=by
 cases e with
 |var i=>cases h
 |_=>rfl
theorem PN:∀ (s:Sm) {a:Env}{z:Z}{Q:O->Z->Prop}{E:Nat->Z->Prop},WX F d s a z Q E↔W (ex F d s a) z Q E:=by
 intro s
 induction s with
 |nil=>exact wR
 |seq s r hs j =>
  refine wB hs λo k=>?_;cases o with
  |nx a=>exact j|rt s=>exact wR
 |set p e=>exact wB bz λl k=>wG λs=>wG λn=>wR
 |ret e =>
  intro a z Q E;show(if zw e then _ else _)↔_;cases h:zw e with
  |true =>
   rw[Sl h];exact wB bz λl k=>wG λs=>wR
  |false =>
   cases e with
   |var i =>
    show cD (Si a[i]?) _↔W (match a[i]? with | ↑↑s=>Zd _ _ | _=>Zg) z Q E
    generalize a[i]?=o
    match o with
    |↑↑s=>exact wG λs=>wR|↑none=>exact wN|none=>exact wN
   |_=>cases h
 |iff c t u q w=>exact wB bz λx k=>wG λc=>wT q w|exp e=>exact wB bz λl k=>wG λs=>wR|rais c=>exact(Ur rfl).symm|fr p it src b y=>exact wB bz λl k=>wG λA=>Iff.rfl|whl c b y=>exact Iff.rfl|lams i ls g e t r B C=>exact Iff.rfl|zset i e=>exact wB bz λl k=>wG λv=>wM|app i e=>exact wG λA=>wB bz λl k=>wG λx=>wT wR wN|newz i f as=>exact wB bz λl k=>wM (m:=λ_=>xG d _ i l)
theorem ma:WS F a s c z Q E↔W (ex F a s c) z Q E:=PN s
theorem WS.mono{s:Sm}{F:FT}{Q d:O->Z->Prop}(h:WS F e s f z Q E)(g:∀ a z,Q a z->d a z)(i:∀ c z,E c z->j c z):WS F e s f z d j:=ma.mpr (W.mono (ma.mp h) g i)
theorem EN(a:Env->Z->Prop)(h:WS F c s d z (λo e=>match o with
  |.nx d=>a d e
  |.rt s=>Q (.rt s) e) E) (f:∀ d z,a d z->WS F c r d z Q E):WS F c (.seq s r) d z Q E:=by
 refine WS.mono (s:=s) h (λo e h=>?_) λ_ _ h=>h;cases o with
 |nx d=>exact f d e h|rt s=>exact h
section
variable {T:⇑Df}{k f ps ns:Nat}{b:Sm}{l:⇑S}{z:Z}{Q:S->Z->Prop}{E:Nat->Z->Prop}
set_option tactic.hygienic true in
theorem PQ(h:T[f]?=↑(.code ps ns b))(a:l.length=ps)(g:ps<=ns):W (aj T (k + 3) f l) z Q E↔WS (oA T (k + 2)) z.isNone b (start ns (l.map qJ)) z (λo i=>match o with
  |.nx _=>Q (.d .cq) (nU z i)
  |.rt s=>Q s (nU z i)) λc i=>E c (nU z i):=by
 refine Iff.trans ?_ ma.symm;rw[A0,h];show W (λz=>if l.length=ps/\ps<=ns then(match ex _ z.isNone b _ z with
  |↑(.ok (.nx _) i)=>↑_|↑(.ok (.rt s) i)=>↑_|↑(.er c i)=>↑_
  |none=>none) else none) z Q E↔_
 rw[Sj,Sj];constructor
 .rintro ⟨r,e,q⟩;rw[Zu #[a,g]] at e;split at e
  .rename_i j i m;cases e;exact#[_,m,q]
  .rename_i s i m;cases e;exact#[_,m,q]
  .rename_i c i m;cases e;exact#[_,m,q]
  .cases e
 .rintro ⟨r,e,q⟩;rw[Zu #[a,g],e]
  match r,q with
  |.ok (.nx j) i,q=>exact#[_,rfl,q]|.ok (.rt s) i,q=>exact#[_,rfl,q]|.er c i,q=>exact#[_,rfl,q]
end
section
variable {F:FT}{tp:Bool}{ρ:Env}{z:Z}{E:Nat->Z->Prop}
theorem ud{f:D->M (Option D)}{o:D->Option D}:∀ {a:⇑D}{Q:⇑D->Z->Prop},(∀ x∈a,f x z=↑(.ok (o x) z))->(W (turns f a) z Q E↔Q (a.filterMap o) z)
 |[],Q,_=>kS
 |x::r,Q,h=>by
  show W (Zd _ _) z Q E↔_;rw[gm,Sk (h x È),gm,ud λy c=>h y (Î _ c),kS,VM];cases o x <;> rfl
theorem By{f:D->M (Option D)}{I:Z->Prop}{P:D->D->Prop}:∀ {a:⇑D}{z:Z}{Q:⇑D->Z->Prop},I z->(∀ x∈a,∀ z,I z->W (f x) z (λo c=>I c/\∃ y,o=↑y/\P x y) NE)->(∀ d c,I c->VX P a d->Q d c)->W (turns f a) z Q E
 |[],z,Q,g,_,q=>kS.mpr (q [] z g .nil)
 |x::r,z,Q,g,h,q=>by
  show W (Zd _ _) z Q E;rw[gm];refine(h x È z g).imp λo c #[i,y,e,j]=>?_;subst e;rw[gm];refine By i (λk l=>h k (Î _ l)) λd m n p=>?_;exact kS.mpr (q _ _ n (.cons j p))
theorem JZ(I:⇑D->Env->Z->Prop):∀ (a:⇑D) {ρ:Env}{z:Z},I a ρ z->(∀ x r ρ z,I (x::r) ρ z->W (f x ρ) z (λo c=>match o with
  |.nx ρ=>I r ρ c
  |.rt s=>Q (.rt s) c) E)->(∀ ρ z,I [] ρ z->Q (.nx ρ) z)->W (sW f a ρ) z Q E
 |[],ρ,z,d,_,q=>kS.mpr (q _ _ d)
 |x::r,ρ,z,d,h,q=>by
  show W (Zd _ _) z Q E;rw[gm];refine(h x r ρ z d).mono (λo c e=>?_) λ_ _ h=>h;cases o with
  |nx g=>exact JZ I r e h q|rt s=>exact kS.mpr e
theorem PR{c:Env->M ⇑S}{f:Env->M O}{Q:O->Z->Prop}(I:Nat->Env->Z->Prop)(step:∀ n ρ z,I n ρ z->W (c ρ) z (λx z1=>cD ((pl x).bind lJ) λk=>if k then W (f ρ) z1 (λo z2=>match o with
  |.nx ρ=>∃ m,m < n/\I m ρ z2
  |.rt s=>Q (.rt s) z2) E else Q (.nx ρ) z1) E):∀ (n m:Nat) {ρ:Env}{z:Z},I n ρ z->n < m->W (F8 c f m ρ) z Q E:=by
 intro n
 induction n using Nat.strongRecOn with
 |ind n ih =>
  intro m ρ z hi hm;cases m with
  |zero=>omega
  |succ m =>
   show W (Zd _ _) z Q E;rw[gm];refine(step n ρ z hi).mono (λx z1 h=>?_) λ_ _ h=>h;let(k,e,h):=dJ h;refine(wG  λk=>wT Iff.rfl Iff.rfl).mp (ae e ?_);cases k with
   |true =>
    rw[gm];refine h.mono (λo z2 h=>?_) λ_ _ h=>h;cases o with
    |nx ρ1 =>
     let(j,hj,hi):=h;exact ih j hj m hi (Ñ hj (YQ hm))
    |rt s=>exact kS.mpr h
   |false =>
    exact kS.mpr h
end
mutual
noncomputable def cE:D->Ex
 |.tup l=>.tup (Us l)|.lst l=>.lst (Us l)|~~~i=>if i < 0 then .neg (.con (~~~(-i))) else .con (~~~i)|x=>.con x
noncomputable def Us:⇑D->Ex
 |[]=>.nil|x::r=>.cons (cE x) (Us r)
end
mutual
noncomputable def UP:D->Bool
 |.tup l=>decide (l.length<=most)&&PU l|.lst l=>decide (l.length<=most)&&PU l|_=>true
noncomputable def PU:⇑D->Bool
 |[]=>true|x::r=>UP x&&PU r
end
def cX(d:D)(_:UP d=true):Ex:=cE d
section
variable {F:FT}{ρ:Env}{z:Z}{Q:⇑S->Z->Prop}{E:Nat->Z->Prop}{a b c as:Ex}{p:iU}{ρ0:Env}{x:D}{Q1:Option D->Z->Prop}
theorem zx:W (kQ (ev F .nil) (ev F a) p ρ0 x) z Q1 E↔cD (cJ p x ρ0) λρ=>WE F a ρ z (λy e=>cD (pl y) λd=>Q1 ↑d e) E :=
 (wG λρ=>show _↔W (Zd _ λy=>Zd (Zf (pl y)) λy=>Ze ↑y) z Q1 E from wB bz λy e=>wG λd=>wR).symm
theorem PV{l:⇑S}{m:M ⇑S}{V:Prop}(h:V↔W (Zd m λy=>Zd (Zf (pl y)) λy=>Ze ↑y) z Q1 E):(match l with | [s]=>cD (SN s) λb=>if b then V else Q1 none z | _=>l=[]/\V)↔W (match l with
  |[]=>Zd m λy=>Zd (Zf (pl y)) λy=>Ze ↑y|[.d (.bl true)]=>Zd m λy=>Zd (Zf (pl y)) λy=>Ze ↑y|[.d (.bl false)]=>Ze none
  |_=>Zg) z Q1 E:=by
 match l with
 |[]=>simp_all|[.d (.bl true)]=>exact EM.trans ((iff_of_eq (Zu rfl)).trans h)|[.d (.bl false)]=>exact EM.trans ((iff_of_eq (Zv ï)).trans wR)|[.d .cq]=>exact wN|[.d (~~~_)]=>exact wN|[.d (.str _)]=>exact wN|[.d (.tup _)]=>exact wN|[.d (.lst _)]=>exact wN|[.d .dct]=>exact wN|[.fr _]=>exact wN|[.z]=>exact wN|[.ks _]=>exact wN
 |s::_::_ =>
  refine#[λx=>(by cases x.1),λx=>?_]
  cases s with
  |d y =>
   cases y with
   |bl b=>cases b <;> exact(Bx.mp x).elim
   |_=>exact(Bx.mp x).elim
  |_=>exact(Bx.mp x).elim
theorem EO:W (kQ (ev F (.cons c .nil)) (ev F a) p ρ0 x) z Q1 E↔cD (cJ p x ρ0) λρ=>WE F c ρ z (λy f=>cD (one y) λs=>cD (SN s) λb=>if b then WE F a ρ f (λy g=>cD (pl y) λd=>Q1 ↑d g) E else Q1 none f) E:=by
 refine Iff.symm (wG λρ=>?_);refine wB (bz  (e:=.cons c .nil)  (Q:=λl f=>match l with | [s]=>cD (SN s) λb=>if b then WE F a ρ f _ E else Q1 none f | _=>l=[]/\WE F a ρ f (λy g=>cD (pl y) λd=>Q1 ↑d g) E)) λl f=>?_
 exact PV (wB bz λy f=>wG λd=>wR)
end
section
variable {α:Type}{m:M α}{z z1:Z}{Q Q':α->Z->Prop}{E:Nat->Z->Prop}
theorem Wo(h:m z=↑(.ok a z1))(q:Q a z1):W m z Q E:=#[_,h,q]
theorem We(h:m z=↑(.er c z1))(q:E c z1):W m z Q E:=#[_,h,q]
end
theorem aI{T:⇑Df}{k f ps ns:Nat}{b:Sm}{l:⇑S}{Q:S->Z->Prop}(h:T[f]?=↑(.code ps ns b))(a:l.length=ps)(e:ps<=ns)(q:WS (oA T (k + 2)) z.isNone b (start ns (l.map qJ)) z (λo g=>match o with
  |.nx _=>Q (.d .cq) (nU z g)
  |.rt s=>Q s (nU z g)) λc g=>E c (nU z g)):W (aj T (k + 3) f l) z Q E:=(PQ h a e).mpr q
theorem ib{b:Bool}{A B:Prop}(a:b->A)(c:b=false->B):if b=true then A else B:=by simp_all
theorem it{b:Bool}{A B:Prop}(h:b)(a:A):if b=true then A else B:=by simp_all
theorem ie{b:Bool}{A B:Prop}(h:b=false)(a:B):if b=true then A else B:=by simp_all
theorem ip{c:Prop}[Decidable c]{A B:Prop}(h:c)(a:A):if c then A else B:=by simp_all
theorem aV(z:Z):nU z z=z:=by cases z <;> rfl
theorem sd{s t:S}(h:s=t):s=t/\nU z z=z:=#[h,aV z]
theorem sb(h:b=c):S.d (.bl b)=S.d (.bl c)/\nU z z=z:=sd (by rw[h])
section
variable {F:FT}{tp:Bool}{z:Z}{E:Nat->Z->Prop}{p:iU}
theorem eJ(I:⇑D->Env->Z->Prop)(a:⇑D)(c:I a d z)(h:∀ x r d z,I (x::r) d z->cD (cJ p x d) λd=>WS F tp b d z (λo e=>match o with
  |.nx d=>I r d e
  |.rt s=>Q (.rt s) e) E) (q:∀ d z,I [] d z->Q (.nx d) z):W (sW (λx d=>Zd (Zf (cJ p x d)) λd=>ex F tp b d) a d) z Q E :=
 JZ I a c (λx r d z c=>(wG λd=>ma).mp (h x r d z c)) q
theorem ER(I:Nat->Env->Z->Prop)(n:Nat)(a:I n d z)(f:n < F9)(h:∀ n d z,I n d z->WE F c d z (λx g=>cD ((pl x).bind lJ) λk=>if k then WS F tp b d g (λo i=>match o with
  |.nx d=>∃ m,m < n/\I m d i
  |.rt s=>Q (.rt s) i) E else Q (.nx d) g) E):W (F8 (ev F c) (ex F tp b) F9 d) z Q E:=by
 refine PR I (λn d z a=>?_) n F9 a f;refine(bz.mp (h n d z a)).mono (λx g h=>?_) λ_ _ h=>h;let(k,e,h):=dJ h;apply ae e;cases k with
 |true=>exact ma.mp h|false=>exact h
variable {ρ0:Env}{cond el:Ex}{xs:⇑D}{Q:⇑D->Z->Prop}
theorem gO(o:D->D)(h:∀ x∈xs,cD (cJ p x ρ0) λa=>WE F el a z (λy c=>cD (pl y) λd=>d=o x/\c=z) NE)(q:Q (xs.map o) z):W (turns (kQ (ev F .nil) (ev F el) p ρ0) xs) z Q E:=by
 refine(ud (o:=λx=>↑(o x)) λx f=>?_).mpr ?_
 .refine W.ok (zx.mpr ?_);let(a,e,h):=dJ (h x f);refine ae e (bz.mpr ((bz.mp h).imp λy c h=>?_));let(d,e,rfl,rfl):=dJ h;exact ae e #[rfl,rfl]
 simp_all
theorem PY{o:D->D}:∀ xs:⇑D,xs.filterMap (λx=>if c x then ↑(o x) else none)=(xs.filter c).map o
 |[]=>rfl
 |x::r=>by
  rw[VM,Yt];cases a:c x with
  |false=>exact PY r|true=>exact congrArg _ (PY r)
theorem gn(c:D->Bool)(o:D->D)(h:∀ x∈xs,cD (cJ p x ρ0) λa=>WE F cond a z (λy f=>cD (one y) λs=>s=.d (.bl (c x))/\f=z/\(c x->WE F el a z (λy f=>cD (pl y) λd=>d=o x/\f=z) NE)) NE)(q:Q ((xs.filter c).map o) z):W (turns (kQ (ev F (.cons cond .nil)) (ev F el) p ρ0) xs) z Q E:=by
 refine(ud (o:=λx=>if c x then ↑(o x) else none) λx g=>?_).mpr ?_
 .refine W.ok (EO.mpr ?_);let(a,e,h):=dJ (h x g);refine ae e (bz.mpr ((bz.mp h).imp λy f h=>?_));let(s,e,rfl,rfl,h):=dJ h;apply ae e;cases i:c x with
  |false=>exact#[rfl,rfl]
  |true =>
   refine bz.mpr ((bz.mp (h i)).imp λy f h=>?_);let(d,e,rfl,rfl):=dJ h;exact ae e #[rfl,rfl]
 .rw[PY];exact q
theorem J0{I:Z->Prop}(o:D->D):∀ {xs:⇑D}{z:Z}{Q:⇑D->Z->Prop},I z->(∀ x∈xs,∀ z,I z->cD (cJ p x ρ0) λa=>WE F cond a z (λy c=>cD (one y) λs=>I c/\∃ b,s=.d (.bl b)/\(b->WE F el a c (λy f=>cD (pl y) λd=>d=o x/\f=c) NE)) NE) ->
  (∀ g c,I c->g.Sublist (xs.map o)->Q g c)->W (turns (kQ (ev F (.cons cond .nil)) (ev F el) p ρ0) xs) z Q E
 |[],z,Q,i,_,q=>kS.mpr (q [] z i .slnil)
 |x::r,z,Q,i,h,q=>by
  refine gm.mpr (EO.mpr ?_);let(a,e,j):=dJ (h x È z i);refine ae e (bz.mpr ((bz.mp j).imp λy c k=>?_));let(s,e,l,b,rfl,m):=dJ k;apply ae e;have n:=λ{Q:⇑D->Z->Prop} (q:∀ g c,I c->g.Sublist (r.map o)->Q g c)=>J0 o  l (λy u=>h y (Î _ u)) q;cases b with
  |false=>exact gm.mpr (n λg f v hs=>kS.mpr (q g f v (hs.cons _)))
  |true =>
   refine bz.mpr ((bz.mp (m rfl)).imp λy f w=>?_);let(d,e,rfl,rfl):=dJ w;exact ae e (gm.mpr (n λg f v hs=>kS.mpr (q _ f v (hs.cons_cons _))))
theorem Sn{I:Z->Prop}{P:D->D->Prop}(a:I z)(h:∀ x∈xs,∀ z,I z->cD (cJ p x ρ0) λc=>WE F el c z (λy f=>cD (pl y) λd=>I f/\P x d) NE)(q:∀ g f,I f->VX P xs g->Q g f):W (turns (kQ (ev F .nil) (ev F el) p ρ0) xs) z Q E:=by
 refine By a (λx i z hz=>zx.mpr ?_) q;let(c,e,h):=dJ (h x i z hz);refine ae e (bz.mpr ((bz.mp h).imp λy f h=>?_));let(d,e,h):=dJ h;exact ae e #[h.1,d,rfl,h.2]
end
theorem zy(h:lQ s):eW s a=a:=by
 delta eW
 rw[vb,h];rfl
theorem vG{Q:O->Z->Prop}(s:S)(a:Env)(c:WE F e d z (λl f=>cD (one l) λt=>t=s/\f=z) NE)(g:iX p s (eW s d)=↑a)(q:WS F i r a z Q E):WS F i (.seq (.set p e) r) d z Q E:=by
 refine bz.mpr ((bz.mp c).imp λl f h=>?_);let(t,e,rfl,rfl):=dJ h;exact ae e (ae g q)
end Q
namespace K3
abbrev Za:=⇑(Int × Int)
open PySem L2 Q
def top(i:Nat):Stmt:=VQ.main.body.getD i (.Pass #[0,0,0,0])
def nums:⇑(Str × Int):=[(("MOST_PLACES":Str),(6:Int)),(("MOST_TIES":Str),(8:Int)),(("MOST_BOTTOM":Str),(1000:Int))]
abbrev v0:Ex:=.var 0
abbrev v1:Ex:=.var 1
abbrev v2:Ex:=.var 2
abbrev v3:Ex:=.var 3
abbrev v4:Ex:=.var 4
abbrev v5:Ex:=.var 5
abbrev v6:Ex:=.var 6
abbrev v7:Ex:=.var 7
abbrev v8:Ex:=.var 8
abbrev v9:Ex:=.var 9
abbrev v11:Ex:=.var 11
abbrev n0:Ex:=.con (~~~0)
abbrev n1:Ex:=.con (~~~1)
abbrev n2:Ex:=.con (~~~2)
abbrev c1(a:Ex):Ex:=.cons a .nil
abbrev c2(a b:Ex):Ex:=.cons a (.cons b .nil)
abbrev c3(a b c:Ex):Ex:=.cons a (.cons b (.cons c .nil))
abbrev c4(a b c d:Ex):Ex:=.cons a (.cons b (.cons c (.cons d .nil)))
abbrev c5(a b c d e:Ex):Ex:=.cons a (.cons b (.cons c (.cons d (.cons e .nil))))
abbrev s1(a:Sm):Sm:=.seq a .nil
abbrev p2(a b:iU):iU:=.tup (.cons a (.cons b .nil))
abbrev ez:Nat:=0
abbrev Bz:Nat:=1
abbrev ES:Nat:=2
abbrev jL:Nat:=3
abbrev rB:Nat:=4
abbrev xT:Nat:=5
abbrev gp:Nat:=6
abbrev iG:Nat:=7
abbrev kj:Nat:=8
abbrev BC:Nat:=9
abbrev vH:Nat:=10
abbrev BD:Nat:=11
abbrev ET:Nat:=12
abbrev iZ:Nat:=13
abbrev gF:Nat:=14
abbrev fG:Nat:=15
abbrev vI:Nat:=16
abbrev g9:Nat:=17
abbrev rZ:Nat:=18
abbrev gA:Nat:=19
abbrev dD:Nat:=20
abbrev oH:Nat:=21
abbrev km:Nat:=22
abbrev md:Nat:=23
abbrev kn:Nat:=24
abbrev BE:Nat:=25
abbrev me:Nat:=26
abbrev ko:Nat:=27
abbrev C3:Nat:=28
abbrev kq:Nat:=29
abbrev r6:Nat:=30
abbrev oI:Nat:=31
abbrev r9:Nat:=32
abbrev kz:Nat:=33
abbrev oJ:Nat:=34
abbrev dv:Nat:=35
abbrev aN:Nat:=36
abbrev aQ:Nat:=37
abbrev iH:Nat:=38
abbrev mf:Nat:=39
abbrev qc:Nat:=40
abbrev aE:Nat:=41
abbrev vJ:Nat:=42
abbrev eK:Nat:=43
abbrev n6:Nat:=44
abbrev mh:Nat:=45
abbrev jg:Nat:=46
abbrev se:Nat:=47
abbrev i4:Nat:=48
abbrev i5:Nat:=49
abbrev hU:Nat:=50
abbrev mm:Nat:=51
abbrev fH:Nat:=52
abbrev fI:Nat:=53
abbrev kA:Nat:=54
abbrev fJ:Nat:=55
abbrev qd:Nat:=56
abbrev gB:Nat:=57
abbrev eZ:Nat:=58
abbrev iI:Nat:=59
abbrev mq:Nat:=60
abbrev fk:Nat:=61
abbrev jh:Nat:=62
abbrev fo:Nat:=63
abbrev J1:Nat:=64
def gq:Sm:=(.seq (.whl (.cmp .gt v1 n0) (s1 (.set (p2 (.v 0) (.v 1)) (.tup (c2 v1 (.bin .mod v0 v1)))))) (s1 (.ret v0)))
def BF:Sm:=(.seq (.set (.v 2) (.call ez (c2 v0 v1))) (s1 (.ret (.tup (c2 (.bin .fdiv v0 v2) (.bin .fdiv v1 v2))))))
def EU:Sm:=(s1 (.ret (.call Bz (c2 (.bin .mul (.idx v0 n0) (.idx v1 n0)) (.bin .mul (.idx v0 n1) (.idx v1 n1))))))
def xU:Sm:=(.seq (.set (.v 1) (cX (.tup [(~~~1),(~~~1)]) (-0))) (.seq (.fr (.v 2) .seq (c1 v0) (s1 (.set (.v 1) (.call ES (c2 v1 v2))))) (s1 (.ret v1))))
def J2:Sm:=(s1 (.ret (.tup (c2 (.bin .sub (.idx v0 n1) (.idx v0 n0)) (.idx v0 n1)))))
def xV:Sm:=(s1 (.ret (.cmp .lt (.bin .mul (.idx v0 n0) (.idx v1 n1)) (.bin .mul (.idx v1 n0) (.idx v0 n1)))))
def jM:Sm:=(.seq (.set (.v 1) (.con .cq)) (.seq (.fr (p2 (.v 2) (.v 3)) .enum (c1 v0) (s1 (.iff (.or (.cmp .is v1 (.con .cq)) (.call xT (c2 (.idx v0 v1) v3))) (s1 (.set (.v 1) v2)) .nil))) (s1 (.ret v1))))
def vK:Sm:=(s1 (.ret (.and (.isi .int v0) (.not (.isi .bool v0)))))
def vL:Sm:=(s1 (.ret (.and (.call iG (c1 v0)) (.ch .le .lt n0 v0 v1))))
abbrev Zb:Sm:=s1 (.ret (.con (.bl false)))
def BG:Sm:=(.seq (.iff (.or (.not (.isi .tuple v0)) (.cmp .ne (.bf .len (c1 v0)) n2)) Zb .nil) (.seq (.set (p2 (.v 2) (.v 3)) v0) (s1 (.ret (.and (.call kj (c2 v2 v1)) (.and (.call kj (c2 v3 v1)) (.cmp .lt v2 v3)))))))
def vM:Sm:=(.seq (.iff (.or (.not (.isi .tuple v0)) (.cmp .gt (.bf .len (c1 v0)) (.gint "MOST_TIES" 8))) Zb .nil) (.seq (.iff (.not (.bf .all (c1 (.comp 1 [1] (.v 0) .seq (c1 v0) .nil (.call BC (c2 v0 v1)))))) Zb .nil) (s1 (.ret (.bf .all (c1 (.comp 2 [] (p2 (.v 0) (.v 1)) .zip (c2 v0 (.sl v0 (c1 n1) .nil)) .nil (.cmp .le v0 v1))))))))
def BH:Sm:=(.seq (.iff (.or (.not (.isi .tuple v0)) (.cmp .ne (.bf .len (c1 v0)) n2)) Zb .nil) (.seq (.set (p2 (.v 1) (.v 2)) v0) (s1 (.ret (.and (.call iG (c1 v1)) (.and (.ch .le .le n1 v1 (.gint "MOST_PLACES" 6)) (.call vH (c2 v2 v1))))))))
def EV:Sm:=(s1 (.ret (.bf .all (c1 (.comp 2 [] (p2 (.v 0) (.v 1)) .zip (c2 v0 (.sl v0 (c1 n1) .nil)) .nil (.cmp .lt v0 v1))))))
def i6:Sm:=(.seq (.iff (.not (.isi .tuple v0)) Zb .nil) (s1 (.ret (.and (.bf .all (c1 (.comp 1 [1] (.v 0) .seq (c1 v0) .nil (.call kj (c2 v0 v1))))) (.call ET (c1 v0))))))
def sg:Sm:=(s1 (.iff (.not (.call BD (c1 v0))) (s1 (.rais 0)) .nil))
def mw:Sm:=(s1 (.iff (.or (.not (.call iZ (c2 v1 (.idx v0 n0)))) (.cmp .eq (.bf .len (c1 v1)) n0)) (s1 (.rais 2)) .nil))
def vN:Sm:=(.seq (.set (p2 (.v 2) (.v 3)) v0) (.seq (.set (.v 4) (.lrng false (c1 v2))) (.seq (.fr (.v 5) .seq (c1 v1) (.seq (.set (p2 (.v 6) (.v 7)) (.idx v3 v5)) (.seq (.set (.v 8) (.idx v4 v6)) (.seq (.set (.v 9) (.idx v4 v7)) (s1 (.set (.v 4) (.comp 1 [8,9] (.v 0) .seq (c1 v4) .nil (.ite (.cmp .eq v0 v2) v1 v0)))))))) (s1 (.ret v4)))))
def kC:Sm:=(.seq (.set (.v 3) (.call vI (c2 v0 v1))) (s1 (.ret (.bf .all (c1 (.comp 1 [2,3] (.v 0) .seq (c1 v2) .nil (.cmp .eq (.idx v2 v0) (.idx v2 (.idx v1 n0)))))))))
def sj:Sm:=(.seq (.iff (.or (.not (.isi .tuple v0)) (.cmp .ne (.bf .len (c1 v0)) n2)) Zb .nil) (.seq (.set (p2 (.v 1) (.v 2)) v0) (.seq (.iff (.or (.not (.call iG (c1 v1))) (.not (.call iG (c1 v2)))) Zb .nil) (.seq (.iff (.or (.not (.ch .le .le n1 v2 (.gint "MOST_BOTTOM" 1000))) (.not (.ch .le .le n0 v1 v2))) Zb .nil) (s1 (.ret (.cmp .eq (.call ez (c2 v1 v2)) n1)))))))
def ji:Sm:=(.seq (.exp (.call gF (c1 v0))) (.seq (.iff (.or (.not (.isi .tuple v1)) (.cmp .ne (.bf .len (c1 v1)) (.bf .len (c1 (.idx v0 n1))))) Zb .nil) (s1 (.ret (.bf .all (c1 (.comp 1 [] (.v 0) .seq (c1 v1) .nil (.call rZ (c1 v0)))))))))
def kT:Sm:=(s1 (.iff (.not (.call gA (c2 v0 v1))) (s1 (.rais 6)) .nil))
def oK:Sm:=(.seq (.set (.v 1) (cX (.lst [(.tup [])]) (-0))) (.seq (.fr (.v 2) .rng1 (c1 (.bf .len (c1 (.idx v0 n1)))) (s1 (.set (.v 1) (.bin .add v1 (.comp 1 [2] (.v 0) .seq (c1 v1) .nil (.bin .add v0 (.tup (c1 v1)))))))) (s1 (.ret (.bf .sorted (c1 v1))))))
def kE:Sm:=(s1 (.ret (.bf .tuple (c1 (.comp 1 [1] (.v 0) .rng1 (c1 (.bf .len (c1 (.idx v0 n1)))) (c1 (.cmp .nmem v0 v1)) v0)))))
def mx:Sm:=(s1 (.ret (.comp 1 [0] (.v 0) .rng1 (c1 (.bf .len (c1 v0))) .nil (.bin .add (.sl v1 .nil (c1 v0)) (.sl v1 (c1 (.bin .add v0 n1)) .nil)))))
def oM:Sm:=(.seq (.set (.v 1) (.dkeys v0)) (s1 (.ret (.comp 1 [1] (.v 0) .seq (c1 v0) (c1 (.not (.bf .any (c1 (.comp 1 [1] (.v 0) .seq (c1 (.call md (c1 v0))) .nil (.memk true v0 1)))))) v0))))
def BI:Sm:=(s1 (.ret (.not (.call g9 (c3 v0 (.call km (c2 v0 v1)) v2)))))
def my:Sm:=(.seq (.exp (.call gF (c1 v0))) (.seq (.exp (.call fG (c2 v0 v1))) (s1 (.ret (.comp 1 [0,1] (.v 0) .seq (c1 (.call oH (c1 v0))) (c1 (.call g9 (c3 v1 v0 v2))) v0)))))
def qe:Sm:=(s1 (.ret (.call kn (c1 (.call me (c2 v0 v1))))))
def C4:Sm:=(.seq (.exp (.call gF (c1 v0))) (.seq (.exp (.call fG (c2 v0 v1))) (s1 (.ret (.comp 1 [0,1] (.v 0) .seq (c1 (.call oH (c1 v0))) (c1 (.call BE (c3 v1 v0 v2))) v0)))))
def qf:Sm:=(s1 (.ret (.call kn (c1 (.call C3 (c2 v0 v1))))))
def sk:Sm:=(.seq (.set (.v 1) (.flat v0)) (s1 (.ret (.cmp .eq (.oY (c1 v1)) (.bf .len (c1 v1))))))
def oN:Sm:=(s1 (.ret (.call jL (c1 (.comp 1 [0] (.v 0) .seq (c1 v1) .nil (.idx v1 v0))))))
def sr:Sm:=(s1 (.ret (.call rB (c1 (.call jL (c1 (.comp 1 [0] (.v 0) .seq (c1 v1) .nil (.call rB (c1 (.idx v1 v0))))))))))
def oO:Sm:=(s1 (.ret (.call rB (c1 (.call jL (c1 (.comp 1 [0] (.v 0) .seq (c1 v1) .nil (.call rB (c1 (.call oI (c2 v1 v0)))))))))))
def vO:Sm:=(s1 (.ret (.call jL (c1 (.comp 1 [0] (.v 0) .seq (c1 v1) .nil (.call r9 (c2 v1 v0)))))))
def mz:Sm:=(.seq (.set (.v 1) (cX (.lst [(.tup [])]) (-0))) (.seq (.fr (.v 2) .seq (c1 v0) (s1 (.iff (.cmp .gt (.bf .len (c1 v2)) n0) (s1 (.set (.v 1) (.bin .add v1 (.comp 1 [2] (.v 0) .seq (c1 v1) (c1 (.call r6 (c1 (.bin .add v0 (.tup (c1 v1)))))) (.bin .add v0 (.tup (c1 v1))))))) .nil))) (s1 (.ret (.bf .sorted (c1 v1))))))
def eM:Sm:=(.seq (.exp (.call dD (c2 v0 v1))) (.seq (.set (.v 3) (.call dv (c1 (.call ko (c2 v0 v2))))) (s1 (.ret (.idx v3 (.call gp (c1 (.comp 1 [1] (.v 0) .seq (c1 v3) .nil (.call kz (c2 v1 v0))))))))))
def eO:Sm:=(.seq (.exp (.call dD (c2 v0 v1))) (.seq (.set (.v 3) (.call dv (c1 (.call kq (c2 v0 v2))))) (s1 (.ret (.idx v3 (.call gp (c1 (.comp 1 [1] (.v 0) .seq (c1 v3) .nil (.call rB (c1 (.call oJ (c2 v1 v0))))))))))))
def BJ:Sm:=(.seq (.set (.v 3) (.call kz (c2 v1 (.call aN (c3 v0 v1 v2))))) (s1 (.ret (.tup (c2 v3 (.call oJ (c2 v1 (.call aQ (c3 v0 v1 v2)))))))))
def mB:Sm:=(.seq (.iff (.cmp .lt v1 (.bf .len (c1 v0))) (s1 (.ret (.idx v0 v1))) .nil) (s1 (.ret n0)))
def qg:Sm:=(.seq (.set (.v 2) (.call mf (c2 v0 v1))) (.seq (.iff (.cmp .ge v2 (.bin .pow (.con (~~~10)) (.con (~~~18)))) (s1 (.ret (.lst (c2 (.bin .sub v2 (.bin .pow (.con (~~~10)) (.con (~~~18)))) (.con (.bl true)))))) .nil) (s1 (.ret (.lst (c2 (.bin .mod v2 (.con (~~~2147483647))) (.con (.bl false))))))))
def su:Sm:=(.seq (.iff (.zget 0 1) (.seq (.set (.v 2) (.bin .mod (.zget 0 0) v1)) (.seq (.zset 0 (.bin .fdiv (.zget 0 0) v1)) (s1 (.ret v2)))) .nil) (.seq (.zset 0 (.bin .mod (.bin .add (.bin .mul (.zget 0 0) (.con (~~~48271))) (.con (~~~29))) (.con (~~~2147483647)))) (.seq (.set (.v 3) (.bin .mod (.bin .add (.bin .add (.bin .mul (.zget 0 0) (.zget 0 0)) (.bin .mul (.con (~~~39373)) (.zget 0 0))) (.con (~~~7))) (.con (~~~2147483629)))) (.seq (.set (.v 3) (.bin .mod (.bin .add (.bin .mul v3 v3) (.bin .mul (.con (~~~16807)) v3)) (.con (~~~2147483587)))) (s1 (.ret (.bin .mod (.bin .fdiv v3 (.con (~~~8))) v1)))))))
def vP:Sm:=(.seq (.set (.v 2) (.idx (cX (.lst [(~~~6),(~~~5),(~~~4),(~~~3),(~~~4),(~~~5),(~~~2),(~~~1)]) (-0)) (.call aE (c2 v0 (.con (~~~8)))))) (.seq (.set (.v 3) (.lst .nil)) (.seq (.iff (.and (.cmp .gt v2 n1) (.cmp .gt (.call aE (c2 v0 (.con (~~~5)))) n0)) (s1 (.set (.v 3) (.comp 1 [0] (.v 0) .rng2 (c2 n1 v2) .nil (.tup (c2 (.call aE (c2 v1 v0)) v0))))) .nil) (.seq (.fr (.v 4) .rng1 (c1 (.bin .mul (.call aE (c2 v0 (.bin .add v1 n1))) (.bf .int (c1 (.cmp .gt v2 n1))))) (.seq (.set (.v 5) (.call aE (c2 v0 v2))) (.seq (.set (.v 6) (.bin .mod (.bin .add (.bin .add v5 n1) (.call aE (c2 v0 (.bin .sub v2 n1)))) v2)) (s1 (.app 3 (.tup (c2 (.bf .min (c2 v5 v6)) (.bf .max (c2 v5 v6))))))))) (s1 (.ret (.tup (c2 v2 (.bf .tuple (c1 (.bf .sorted (c1 (.sl v3 .nil (c1 v1))))))))))))))
def jj:Sm:=(.seq (.set (p2 (.v 2) (.v 3)) (.tup (c2 v0 v1))) (.seq (.whl (.cmp .ne v3 n0) (s1 (.set (p2 (.v 2) (.v 3)) (.tup (c2 v3 (.bin .mod v2 v3)))))) (s1 (.ret (.tup (c2 (.bin .fdiv v0 v2) (.bin .fdiv v1 v2)))))))
def n8:Sm:=(.seq (.set (.v 1) (cX (.lst [(.tup [(~~~1),(~~~2)]),(.tup [(~~~2),(~~~3)]),(.tup [(~~~1),(~~~3)]),(.tup [(~~~3),(~~~4)]),(.tup [(~~~9),(~~~10)]),(.tup [(~~~0),(~~~1)]),(.tup [(~~~1),(~~~1)]),(.tup [(~~~1),(~~~1000)]),(.tup [(~~~999),(~~~1000)])]) (-0))) (.seq (.set (.v 2) (.call aE (c2 v0 (.con (~~~16))))) (.seq (.iff (.cmp .lt v2 (.con (~~~9))) (s1 (.ret (.idx v1 v2))) .nil) (.seq (.set (.v 3) (.bin .add n1 (.call aE (c2 v0 (.idx (cX (.lst [(~~~12),(~~~1000)]) (-0)) (.call aE (c2 v0 n2))))))) (s1 (.ret (.call eK (c2 (.call aE (c2 v0 (.bin .add v3 n1))) v3))))))))
def mC:Sm:=(s1 (.ret (.bf .tuple (c1 (.comp 1 [0] (.v 0) .seq (c1 (.idx v1 n1)) .nil (.call n6 (c1 v1)))))))
def jk:Sm:=(.seq (.set (.v 2) (.call aE (c2 v0 (.con (~~~4))))) (.seq (.iff (.or (.cmp .lt v2 n2) (.cmp .eq (.idx v1 n0) n1)) (s1 (.ret (.lrng true (c1 (.idx v1 n0))))) .nil) (.seq (.iff (.cmp .eq v2 n2) (.seq (.set (.v 3) (.call aE (c2 v0 (.idx v1 n0)))) (s1 (.ret (.bf .tuple (c1 (.bf .sorted (c1 (.lst (c2 v3 (.bin .mod (.bin .add (.bin .add v3 n1) (.call aE (c2 v0 (.bin .sub (.idx v1 n0) n1)))) (.idx v1 n0))))))))))) .nil) (s1 (.ret (.orT (.bf .tuple (c1 (.comp 1 [0] (.v 0) .rng1 (c1 (.idx v1 n0)) (c1 (.cmp .eq (.call aE (c2 v1 n2)) n1)) v0))) (.tup (c1 (.bin .sub (.idx v1 n0) n1)))))))))
def sv:Sm:=(.seq (.set (.v 3) (.lst (c1 v2))) (.seq (.fr (.v 4) .rng1 (c1 (.idx v0 n0)) (s1 (.fr (.v 5) .seq (c1 v1) (.seq (.set (p2 (.v 6) (.v 7)) (.idx (.idx v0 n1) v5)) (.seq (.iff (.and (.cmp .mem v6 v3) (.cmp .nmem v7 v3)) (s1 (.set (.v 3) (.bin .add v3 (.lst (c1 v7))))) .nil) (s1 (.iff (.and (.cmp .mem v7 v3) (.cmp .nmem v6 v3)) (s1 (.set (.v 3) (.bin .add v3 (.lst (c1 v6))))) .nil))))))) (s1 (.ret (.bf .tuple (c1 (.bf .sorted (c1 v3))))))))
def mE:Sm:=(.seq (.set (.v 3) (.call se (c3 v0 v1 (.idx v2 n0)))) (s1 (.ret (.cmp .eq (.comp 1 [3] (.v 0) .seq (c1 v2) (c1 (.cmp .nmem v0 v1)) v0) (.lst .nil)))))
def sx:Sm:=(.seq (.set (.v 1) (cX (.lst [(.tup [])]) (-0))) (.seq (.fr (.v 2) .rng1 (c1 (.bf .len (c1 (.idx v0 n1)))) (s1 (.set (.v 1) (.bin .add v1 (.comp 1 [2] (.v 0) .seq (c1 v1) .nil (.bin .add v0 (.tup (c1 v1)))))))) (s1 (.ret (.bf .sorted (c1 v1))))))
def kF:Sm:=(.seq (.set (.v 1) (.lst .nil)) (.seq (.fr (.v 2) .seq (c1 v0) (.seq (.set (.v 3) (.comp 1 [2] (.v 0) .seq (c1 v0) (c1 (.and (.cmp .ne v0 v1) (.cmp .eq (.comp 1 [1] (.v 0) .seq (c1 v0) (c1 (.cmp .nmem v0 v1)) v0) (.lst .nil)))) v0)) (s1 (.iff (.cmp .eq v3 (.lst .nil)) (s1 (.app 1 v2)) .nil)))) (s1 (.ret v1))))
def mF:Sm:=(s1 (.ret (.bf .tuple (c1 (.comp 1 [1] (.v 0) .rng1 (c1 (.bf .len (c1 (.idx v0 n1)))) (c1 (.cmp .nmem v0 v1)) v0)))))
def fK:Sm:=(s1 (.ret (.call hU (c1 (.comp 1 [0,1] (.v 0) .seq (c1 (.call i5 (c1 v0))) (c1 (.call i4 (c3 v1 v0 v2))) v0)))))
def fM:Sm:=(s1 (.ret (.call hU (c1 (.comp 1 [0,1] (.v 0) .seq (c1 (.call i5 (c1 v0))) (c1 (.not (.call i4 (c3 v1 (.call mm (c2 v1 v0)) v2)))) v0)))))
def kG:Sm:=(.seq (.set (.v 1) (.lst .nil)) (.seq (.fr (.v 2) .seq (c1 v0) (s1 (.set (.v 1) (.bin .add v1 (.bf .list (c1 v2)))))) (s1 (.ret (.cmp .eq (.oY (c1 v1)) (.bf .len (c1 v1)))))))
def qh:Sm:=(.seq (.set (p2 (.v 3) (.v 4)) (cX (.tup [(~~~1),(~~~1)]) (-0))) (.seq (.fr (.v 5) .seq (c1 v1) (.seq (.set (p2 (.v 6) (.v 7)) (cX (.tup [(~~~1),(~~~1)]) (-0))) (.seq (.fr (.v 8) .seq (c1 v5) (.seq (.set (.v 9) (.idx v0 v8)) (.seq (.set (.v 6) (.bin .mul v6 (.ite v2 (.idx v9 n0) (.bin .sub (.idx v9 n1) (.idx v9 n0))))) (s1 (.set (.v 7) (.bin .mul v7 (.idx v9 n1))))))) (s1 (.set (p2 (.v 3) (.v 4)) (.tup (c2 (.bin .mul v3 (.bin .sub v7 v6)) (.bin .mul v4 v7)))))))) (s1 (.ret (.ite v2 (.call eK (c2 (.bin .sub v4 v3) v4)) (.call eK (c2 v3 v4)))))))
def qi:Sm:=(s1 (.ret (.and (.isi .int v0) (.not (.isi .bool v0)))))
def eP:Sm:=(.seq (.iff (.or (.not (.isi .tuple v1)) (.cmp .ne (.comp 1 [] (.v 0) .seq (c1 v1) (c1 (.not (.call qd (c1 v0)))) v0) (.lst .nil))) Zb .nil) (.seq (.iff (.cmp .ne (.comp 1 [0] (.v 0) .seq (c1 v1) (c1 (.not (.ch .le .lt n0 v0 v1))) v0) (.lst .nil)) Zb .nil) (s1 (.ret (.cmp .eq (.bf .list (c1 v1)) (.bf .sset (c1 v1)))))))
def fb:Sm:=(.seq (.set (.v 3) (.call aE (c2 v0 (.bin .add (.bf .len (c1 v2)) n1)))) (.seq (.set (.v 4) (.idx (.lst (.cons (.call aE (c2 v0 (.bin .add v1 n1))) (.cons v1 (.cons (.neg n1) (.cons (.con (.bl true)) (.cons (.con .cq) (c5 (.con (.str "0")) (cX (.tup [(~~~0)]) (-0)) (.con (.bl false)) (.bin .pow (.con (~~~10)) (.con (~~~29))) n0))))))) (.call aE (c2 v0 (.con (~~~10)))))) (.seq (.set (.v 5) (.lst (c4 (.bin .add (.bin .add (.sl v2 .nil (c1 v3)) (.tup (c1 v4))) (.sl v2 (c1 v3) .nil)) (.bin .add (.bin .add (.sl v2 .nil (c1 v3)) (.tup (c1 v4))) (.sl v2 (c1 (.bin .add v3 n1)) .nil)) (.bin .add (.sl v2 .nil (c1 v3)) (.sl v2 (c1 (.bin .add v3 n1)) .nil)) (.bf .list (c1 v2))))) (s1 (.ret (.idx (.bin .add v5 (.lst (.cons (.rev v2) (.cons (.bin .add v2 (.sl v2 (c1 (.neg n1)) .nil)) (c5 (.con .cq) (.con .dct) n0 (.tup (c1 v2)) (.tup .nil)))))) (.call aE (c2 v0 (.con (~~~11))))))))))
def ff:Sm:=(.seq (.set (.v 2) (.call aE (c2 v0 (.bin .add (.bf .len (c1 v1)) n1)))) (.seq (.set (.v 3) (cX (.lst [(.tup [(~~~2),(~~~4)]),(.tup [(~~~1),(~~~0)]),(.tup [(~~~3),(~~~2)]),(.tup [(~~~(-1)),(~~~2)]),(.tup [(.bl true),(~~~2)]),(.tup [(~~~1),(.bl true)]),(.tup [(~~~1),(~~~1001)]),(.tup [(~~~1)]),(.tup [(~~~1),(~~~2),(~~~3)]),(.lst [(~~~1),(~~~2)]),.cq,(.str "1/2"),(~~~1)]) (-0))) (.seq (.set (.v 3) (.idx v3 (.call aE (c2 v0 (.con (~~~13)))))) (.seq (.set (.v 4) (.lst (c5 (.bin .add (.bin .add (.sl v1 .nil (c1 v2)) (.tup (c1 v3))) (.sl v1 (c1 v2) .nil)) (.bin .add v1 (cX (.tup [(.tup [(~~~1),(~~~2)])]) (-0))) (.bf .list (c1 v1)) (.con .cq) (.con .dct)))) (.seq (.iff (.cmp .ne v1 (.tup .nil)) (.seq (.set (.v 2) (.call aE (c2 v0 (.bf .len (c1 v1))))) (s1 (.set (.v 4) (.bin .add (.bin .add v4 (.bin .mul (.lst (c1 (.bin .add (.bin .add (.sl v1 .nil (c1 v2)) (.tup (c1 v3))) (.sl v1 (c1 (.bin .add v2 n1)) .nil)))) (.con (~~~5)))) (.lst (c2 (.sl v1 (c1 n1) .nil) (.bin .add (.tup (c1 v1)) (.sl v1 (c1 n1) .nil)))))))) .nil) (s1 (.ret (.idx v4 (.call aE (c2 v0 (.bf .len (c1 v4))))))))))))
def mG:Sm:=(.seq (.set (.v 1) (cX (.lst [.cq,(~~~0),(.tup []),(.tup [(~~~7),(.tup [])]),(.tup [(~~~0),(.tup [])]),(.tup [(~~~(-1)),(.tup [])]),(.tup [(.bl true),(.tup [])]),(.tup [(~~~2),(.lst [])]),(.lst [(~~~2),(.tup [])]),(.tup [(~~~2),(.tup [(.tup [(~~~1),(~~~0)])])]),(.tup [(~~~2),(.tup [(.tup [(~~~0),(~~~0)])])]),.dct]) (-0))) (.seq (.set (.v 1) (.bin .add v1 (.lst (c5 (.tup (c2 n2 (.bin .mul (cX (.tup [(.tup [(~~~0),(~~~1)])]) (-0)) (.con (~~~9))))) (cX (.tup [(~~~3),(.tup [(.tup [(~~~0),(~~~2)]),(.tup [(~~~0),(~~~1)])])]) (-0)) (cX (.tup [(~~~2),(.tup [(.tup [(~~~0),(~~~2)])])]) (-0)) (cX (.tup [(~~~2),(.tup [(.tup [(~~~0),(.bl true)])])]) (-0)) (cX (.tup [(~~~2),(.tup [(.tup [(~~~0),(~~~1),(~~~1)])])]) (-0)))))) (.seq (.set (.v 1) (.bin .add v1 (cX (.lst [(.tup [(~~~2),(.tup [(~~~0),(~~~1)])]),(.tup [(~~~2),.cq]),(.tup [(~~~2),(.tup []),(.tup [])]),(.tup [(~~~2)]),(.tup [(~~~2),(.tup [(.lst [(~~~0),(~~~1)])])]),(.tup [(~~~2),(.tup [.cq])]),(.tup [(.str "2"),(.tup [])]),(.str "2:")]) (-0)))) (s1 (.ret (.idx v1 (.call aE (c2 v0 (.con (~~~25))))))))))
def sy:Sm:=(.seq (.iff (.isi .seq v1) (.seq (.iff (.or (.cmp .ne (.isi .tuple v0) (.isi .tuple v1)) (.cmp .ne (.isi .list v0) (.isi .list v1))) Zb .nil) (.seq (.iff (.cmp .ne (.bf .len (c1 v0)) (.bf .len (c1 v1))) Zb .nil) (s1 (.ret (.bf .all (c1 (.comp 2 [] (p2 (.v 0) (.v 1)) .zip (c2 v0 v1) .nil (.call fk (c2 v0 v1))))))))) .nil) (s1 (.ret (.and (.cmp .eq v0 v1) (.cmp .eq (.isi .bool v0) (.isi .bool v1))))))
def jm:Sm:=(.seq (.set (.v 1) (cX (.lst [(.tup [])]) (-0))) (.seq (.fr (.v 2) .seq (c1 v0) (s1 (.iff (.cmp .ne v2 (.tup .nil)) (s1 (.set (.v 1) (.bin .add v1 (.comp 1 [2] (.v 0) .seq (c1 v1) (c1 (.call kA (c1 (.bin .add v0 (.tup (c1 v1)))))) (.bin .add v0 (.tup (c1 v1))))))) .nil))) (s1 (.ret (.bf .sorted (c1 v1))))))
def mH:Sm:=(.seq (.set (p2 (.v 3) (.v 4)) (.tup (c2 (.tup .nil) (.call fJ (c3 v0 (.tup .nil) v2))))) (.seq (.fr (.v 5) .seq (c1 (.call jh (c1 v1))) (.seq (.set (.v 6) (.call fJ (c3 v0 v5 v2))) (.seq (.set (.v 7) (.cmp .lt (.bin .mul (.idx v4 n0) (.idx v6 n1)) (.bin .mul (.idx v6 n0) (.idx v4 n1)))) (.seq (.iff (.not v2) (s1 (.set (.v 7) (.cmp .lt (.bin .mul (.idx v6 n0) (.idx v4 n1)) (.bin .mul (.idx v4 n0) (.idx v6 n1))))) .nil) (s1 (.iff v7 (s1 (.set (p2 (.v 3) (.v 4)) (.tup (c2 v5 v6)))) .nil)))))) (s1 (.ret v3))))
def EW:Sm:=(.seq (.fr (.v 1) .rng1 (c1 (.bf .max (c2 n1 (.bf .min (c2 (.bf .len (c1 v0)) (.con (~~~3))))))) (.seq (.newz 2 qc (c2 v0 v1)) (.seq (.set (.v 3) (.call vJ (c2 v2 (.idx (.lst (c2 (.con (~~~7)) (.bin .add (.con (~~~7)) (.bf .int (c1 (.cmp .eq v1 n0)))))) (.call aE (c2 v2 n2)))))) (.seq (.set (p2 (.v 4) (.v 5)) (.tup (c2 (.call mh (c2 v2 v3)) (.call jg (c2 v2 v3))))) (.seq (.set (.v 6) (.call fo (c3 v4 (.call fH (c2 v3 v5)) (.con (.bl true))))) (.seq (.set (.v 7) (.call fo (c3 v4 (.call fI (c2 v3 v5)) (.con (.bl false))))) (.seq (.iff (.not (.call fk (c2 (.call aN (c3 v3 v4 v5)) v6))) Zb .nil) (.seq (.iff (.not (.call fk (c2 (.call aQ (c3 v3 v4 v5)) v7))) Zb .nil) (.seq (.set (.v 8) (.tup (c2 (.call fJ (c3 v4 v6 (.con (.bl true)))) (.call fJ (c3 v4 v7 (.con (.bl false))))))) (.seq (.iff (.not (.call fk (c2 (.call iH (c3 v3 v4 v5)) v8))) Zb .nil) (.seq (.set (p2 (.v 9) (.v 10)) (.tup (c2 (.call mq (c1 v2)) (.call iI (c2 v2 v4))))) (.seq (.set (.v 11) (.call eZ (c3 v2 (.idx v3 n0) v5))) (.lams 12 [([9,10,11] ,(.call aN (c3 v0 v1 v2))),([9,10,11] ,(.call aQ (c3 v0 v1 v2))),([9,10,11] ,(.call iH (c3 v0 v1 v2)))] none (.bin .mul (cX (.lst [(.lst [(~~~0)])]) (-0)) (.con (~~~3))) Zb (.lams 12 [([3,10,11] ,(.call aN (c3 v0 v1 v2))),([3,10,11] ,(.call aQ (c3 v0 v1 v2))),([3,10,11] ,(.call iH (c3 v0 v1 v2)))] none (.bin .mul (cX (.lst [(.lst [(~~~6)])]) (-0)) (.con (~~~3))) Zb (.lams 12 [([3,4,11] ,(.call aN (c3 v0 v1 v2))),([3,4,11] ,(.call aQ (c3 v0 v1 v2))),([3,4,11] ,(.call iH (c3 v0 v1 v2)))] ↑(10 ,(.or (.not (.call gB (c2 (.idx v3 n0) v11))) (.cmp .eq v11 (.tup .nil)))) (.bin .mul (cX (.lst [(.lst [(~~~2)])]) (-0)) (.con (~~~3))) Zb .nil))))))))))))))) (s1 (.ret (.con (.bl true)))))
abbrev eQ(a:Str)(k i:Nat)(N:Zj)(b:Sm)(c:Bool):Row:=#[a,N.take k,top i,N,b,c]
def rows:⇑Row:=[eQ "common_divisor" 2 15 ["one","other"] gq false,
 eQ "lowest" 2 16 ["top","bottom","divisor"] BF false,
 eQ "times" 2 17 ["one","other"] EU false,
 eQ "product" 1 18 ["fractions","found","one"] xU false,
 eQ "lack" 1 19 ["one"] J2 false,
 eQ "is_less" 2 20 ["one","other"] xV false,
 eQ "first_greatest" 1 21 ["fractions","best","at","one"] jM false,
 eQ "is_whole" 1 25 ["thing"] vK false,
 eQ "is_below" 2 26 ["thing","many"] vL false,
 eQ "is_tie" 2 27 ["thing","many","a","b"] BG false,
 eQ "are_ties" 2 28 ["thing","many"] vM false,
 eQ "is_web" 1 29 ["thing","many","ties"] BH false,
 eQ "rises" 1 30 ["things"] EV false,
 eQ "is_rising_below" 2 31 ["thing","many"] i6 false,
 eQ "check_web" 1 32 ["thing"] sg false,
 eQ "check_places" 2 33 ["web","thing"] mw false,
 eQ "marks_by" 2 34 ["web","lot","many","ties","marks","number","a","b","kept","gone"] vN false,
 eQ "are_joined" 3 35 ["web","lot","places","marks"] kC false,
 eQ "is_chance" 1 38 ["thing","top","bottom"] sj false,
 eQ "are_chances" 2 39 ["web","thing"] ji false,
 eQ "check_chances" 2 40 ["web","thing"] kT false,
 eQ "all_lots" 1 42 ["web","lots","number"] oK false,
 eQ "other_ties" 2 43 ["web","lot"] kE false,
 eQ "one_left_out" 1 44 ["lot"] mx false,
 eQ "least_of" 1 45 ["lots","known"] oM false,
 eQ "is_cut" 3 46 ["web","lot","places"] BI false,
 eQ "good_lots" 2 47 ["web","places"] my false,
 eQ "least_good" 2 48 ["web","places"] qe false,
 eQ "cuts" 2 49 ["web","places"] C4 false,
 eQ "least_cuts" 2 50 ["web","places"] qf false,
 eQ "are_apart" 1 52 ["lots","numbers"] sk false,
 eQ "all_hold" 2 53 ["chances","lot"] oN false,
 eQ "one_holds" 2 54 ["chances","lot"] sr false,
 eQ "lower_by" 2 55 ["chances","paper"] oO false,
 eQ "upper_by" 2 56 ["chances","paper"] vO false,
 eQ "papers_of" 1 57 ["lots","papers","lot"] mz false,
 eQ "lower_paper" 3 58 ["web","chances","places","papers"] eM false,
 eQ "upper_paper" 3 59 ["web","chances","places","papers"] eO false,
 eQ "bounds" 3 60 ["web","chances","places","lower"] BJ false,
 eQ "_law_cell_at" 2 62 ["_law_script","_law_k"] mB false,
 eQ "_law_state" 2 63 ["_law_script","_law_k","_law_cell"] qg false,
 eQ "_law_take" 2 64 ["_law_state_here","_law_many","_law_found","_law_stirred"] su false,
 eQ "_law_web" 2 65 ["_law_state_here","_law_most","_law_many","_law_ties","_law_turn","_law_one","_law_other"] vP false,
 eQ "_law_lowest" 2 66 ["_law_top","_law_bottom","_law_one","_law_other"] jj false,
 eQ "_law_chance" 1 67 ["_law_state_here","_law_some","_law_way","_law_bottom"] n8 false,
 eQ "_law_chances" 2 68 ["_law_state_here","_law_web_here"] mC false,
 eQ "_law_places" 2 69 ["_law_state_here","_law_web_here","_law_way","_law_one"] jk false,
 eQ "_law_with" 3 70 ["_law_web_here","_law_lot","_law_place","_law_found","_law_turn","_law_number","_law_one","_law_other"] sv false,
 eQ "_law_good" 3 71 ["_law_web_here","_law_lot","_law_places_here","_law_here"] mE false,
 eQ "_law_lots" 1 72 ["_law_web_here","_law_found","_law_number"] sx false,
 eQ "_law_least" 1 73 ["_law_lots_here","_law_found","_law_lot","_law_within"] kF false,
 eQ "_law_rest" 2 74 ["_law_web_here","_law_lot"] mF false,
 eQ "_law_least_good" 2 75 ["_law_web_here","_law_places_here"] fK false,
 eQ "_law_least_cuts" 2 76 ["_law_web_here","_law_places_here"] fM false,
 eQ "_law_apart" 1 77 ["_law_lots_here","_law_numbers","_law_lot"] kG false,
 eQ "_law_shows" 3 78 ["_law_chances_here","_law_paper","_law_lower","_law_top","_law_bottom","_law_lot","_law_mine","_law_all_of","_law_number","_law_one"] qh false,
 eQ "_law_whole" 1 79 ["_law_thing"] qi false,
 eQ "_law_rising" 2 80 ["_law_many","_law_thing"] eP false,
 eQ "_law_bent_rising" 3 81 ["_law_state_here","_law_many","_law_some","_law_at","_law_odd","_law_found"] fb false,
 eQ "_law_bad_chances" 2 82 ["_law_state_here","_law_chances_here","_law_at","_law_odd","_law_some"] ff false,
 eQ "_law_bad_web" 1 83 ["_law_state_here","_law_some"] mG false,
 eQ "_law_same" 2 84 ["_law_found","_law_due"] sy false,
 eQ "_law_papers" 1 86 ["_law_lots_here","_law_found","_law_lot"] jm false,
 eQ "_law_best" 3 87 ["_law_chances_here","_law_lots_here","_law_lower","_law_best_here","_law_most","_law_paper","_law_here","_law_less"] mH false,
 eQ "law" 1 88 ["_law_script","_law_k","_law_state_here","_law_web_here","_law_chances_here","_law_places_here","_law_lower","_law_upper","_law_due","_law_bad","_law_none","_law_odd","_law_calls"] EW true]
abbrev Zc(a b:Nat)(c:Sm):Df:=.code a b c
def T:⇑Df:=[Zc 2 2 gq,Zc 2 3 BF,Zc 2 2 EU,Zc 1 3 xU,Zc 1 1 J2,Zc 2 2 xV,Zc 1 4 jM,Zc 1 1 vK,Zc 2 2 vL,Zc 2 4 BG,Zc 2 2 vM,Zc 1 3 BH,Zc 1 1 EV,Zc 2 2 i6,Zc 1 1 sg,Zc 2 2 mw,Zc 2 10 vN,Zc 3 4 kC,Zc 1 3 sj,Zc 2 2 ji,Zc 2 2 kT,Zc 1 3 oK,Zc 2 2 kE,Zc 1 1 mx,Zc 1 2 oM,Zc 3 3 BI,Zc 2 2 my,Zc 2 2 qe,Zc 2 2 C4,Zc 2 2 qf,Zc 1 2 sk,Zc 2 2 oN,Zc 2 2 sr,Zc 2 2 oO,Zc 2 2 vO,Zc 1 3 mz,Zc 3 4 eM,Zc 3 4 eO,Zc 3 4 BJ,Zc 2 2 mB,Zc 2 3 qg,Zc 2 4 su,Zc 2 7 vP,Zc 2 4 jj,Zc 1 4 n8,Zc 2 2 mC,Zc 2 4 jk,Zc 3 8 sv,Zc 3 4 mE,Zc 1 3 sx,Zc 1 4 kF,Zc 2 2 mF,Zc 2 2 fK,Zc 2 2 fM,Zc 1 3 kG,Zc 3 10 qh,Zc 1 1 qi,Zc 2 2 eP,Zc 3 6 fb,Zc 2 5 ff,Zc 1 2 mG,Zc 2 2 sy,Zc 1 3 jm,Zc 3 8 mH,Zc 1 13 EW]
end K3
namespace K3
open Q
open L2 (D)
def jn:D->Bool
 |~~~_=>true|_=>false
theorem i7(k:Nat)(x:D)(z:Z):aj T (k + 3) iG [.d x] z=↑(.ok (.d (.bl (jn x))) z):=by
 cases z <;> cases x <;> rfl
def bK(x:D)(m:Int):Bool:=match x with
 |~~~i=>decide (0<=i)&&decide (i < m)|_=>false
theorem mI(k:Nat)(x:D)(m:Int)(z:Z):aj T (k + 4) kj [.d x,.d (~~~m)] z=↑(.ok (.d (.bl (bK x m))) z):=by
 refine W.ok (aI    rfl rfl (-0) (Wo (i7 (k:=k) x z) ?_))
 cases x with
 |int i=>exact ib  (λh=>sb (show decide _=(decide _&&decide _) by rw[h];rfl)) λh=>sb (show false=(decide _&&decide _) by rw[h];rfl)|_=>exact sb rfl
def C5(x:D)(m:Int):Bool:=match x with
 |.tup [a,b]=>bK a m&&(bK b m&&(match a,b with
  |~~~i,~~~j=>decide (i < j)
  |_,_=>false))
 |_=>false
theorem gu(h:bK x m):∃ i,x= ~~~i/\0<=i/\i < m:=by
 cases x with
 |int i =>
  unfold bK at h;rw[Á,Zw,Zw] at h;exact#[i,rfl,h]
 |_=>cases h
theorem GF(k:Nat)(x:D)(m:Int)(z:Z):aj T (k + 5) BC [.d x,.d (~~~m)] z=↑(.ok (.d (.bl (C5 x m))) z):=by
 refine W.ok (aI    rfl rfl (-0) ?_)
 cases x with
 |tup l =>
  match l with
  |[a,b] =>
   refine Wo (mI k a m z) (ib  (λc=>Wo (mI k b m z) (ib  (λe=>?_) λh=>?_)) λh=>?_)
   .let(i,rfl,_):=gu c;let(j,rfl,_):=gu e;exact sb (show decide _=(bK _ m&&(bK _ m&&decide _)) by rw[c,e];rfl)
   .exact sb (show false=(bK a m&&(bK b m&&_)) by rw[c,h];rfl)
   .exact sb (show false=(bK a m&&_) by rw[h];rfl)
  |[]=>exact sb rfl|[_]=>exact sb rfl|_::_::_::_=>exact sb rfl
 |_=>exact sb rfl
theorem kH(l:⇑D)(p:D->Bool):kO .all [.lst (l.map λx=>D.bl (p x))]=↑(.d (.bl (l.all p))):=by
 show((l.map _).mapM lJ).map _=_;rw[(by
  induction l with
  |nil=>rfl
  |cons x r a =>
   rw[Xc,mapM_cons,a];rfl:(l.map _).mapM lJ=↑(l.map p))];simp[List.all_map]
theorem iJ(l:⇑D)(n:Nat):cutD l ↑(n:Int) none=l.drop n:=by
 show((l.drop (min n l.length)).take (l.length - min n l.length))=_;rcases Nat.le_total n l.length with h | h
 .rw[Wd h,Xk ⋯]
 simp_all
theorem qj:∀ a b:⇑D,(iC a b).length<=a.length
 |[],_=>Ò _|_::_,[]=>Wg _|_::r,_::q=>XC (qj r q)
theorem zz:∀ {a b:⇑D}{d:D},d∈iC a b->∃ x∈a,∃ y∈b,d=.tup [x,y]
 |x::r,y::q,d,h=>by
  rcases ì.mp h with h | h
  .exact#[x,È,y,È,h]
  .let(u,c,v,f,e):=zz h;exact#[u,Î _ c,v,Î _ f,e]
def Ut:D->Bool
 |.tup [.tup a,.tup b]=>(match iV a,iV b with
  |↑c,↑d=>HT.leB c d
  |_,_=>false)
 |_=>false
def vQ(l:⇑D):Bool:=(iC l (l.drop 1)).all Ut
def qk(x:D)(m:Int):Bool:=match x with
 |.tup l=>decide (l.length<=8)&&(l.all (λt=>C5 t m)&&vQ l)|_=>false
theorem xW(h:C5 x m):∃ i j,x=.tup [~~~i,~~~j]/\0<=i/\i < j/\j < m:=by
 cases x with
 |tup l =>
  match l,h with
  |[a,b],h =>
   delta C5 at h
   rw[Á,Á] at h;let(c,d,e):=h;let(i,rfl,f,g):=gu c;let(j,rfl,k,n):=gu d;exact#[i,j,rfl,f,ZA e,n]
 |_=>cases h
theorem bU(h:n<=1000):n<=most:=Í h (-0)
theorem BK(k:Nat)(x:D)(m:Int)(z:Z):aj T (k + 6) vH [.d x,.d (~~~m)] z=↑(.ok (.d (.bl (qk x m))) z):=by
 refine W.ok (aI    rfl rfl (-0) ?_)
 cases x with
 |tup l =>
  refine ib  (λh=>?_) λh=>?_
  .refine sb (show false=(decide _&&_) from ?_);rw[Zw] at h;rw[Zz (_N (_i h))];rfl
  .rw[ZD] at h;refine ip (bU ∅) (gO _ (λx _=>Wo (GF k x m z) #[rfl,rfl]) ?_)
   refine(ae (kH l _) ?_ :);refine ib  (λh=>?_) λc=>?_
   .exact sb (show false=(decide _&&(l.all _&&vQ l)) by rw[ò] at h;rw[h,Bool.false_and,Bool.and_false])
   .rw[Yb] at c;have e:=Ù.mp c;have f:cutD l ↑1 none=l.drop 1:=iJ l 1;refine ip  (Í (qj _ _) (bU ∅)) (gO _ (λx g=>?_) (ae (kH _ Ut) ?_ :))
    .let(u,n,v,o,rfl):=zz g;rw[f] at o;let(i,j,rfl,_):=xW (e u n);let(p,q,rfl,_):=xW (e v (Wl o));exact#[rfl,rfl]
    .refine sb  ?_;show _=(decide _&&(l.all _&&vQ l));rw[f,c,Zy (_S (Int.le_of_not_gt h)),Xr];rfl
 |_=>exact sb rfl
def Mn(a t:D):Bool:=match a with
 |~~~m=>decide (1<=m)&&(decide (m<=6)&&qk t m)|_=>false
def jN(x:D):Bool:=match x with
 |.tup [a,t]=>Mn a t|_=>false
theorem xX(k:Nat)(x:D)(z:Z):aj T (k + 7) BD [.d x] z=↑(.ok (.d (.bl (jN x))) z):=by
 refine W.ok (aI    rfl rfl (-0) ?_)
 cases x with
 |tup l =>
  match l with
  |[a,t] =>
   apply Wo (i7 _ a _);cases a with
   |int m =>
    refine ib  (λc=>ib  (λe=>Wo (BK k t m _) ?_) λe=>?_) λc=>?_
    .exact sb (show qk t m=(decide _&&(decide _&&qk t m)) by rw[c,e];rfl)
    .exact sb (show false=(decide _&&(decide _&&qk t m)) by rw[c,e];rfl)
    .exact sb (show false=(decide _&&(decide _&&qk t m)) by rw[c];rfl)
   |_=>exact sb rfl
  |[]=>exact sb rfl|[_]=>exact sb rfl|_::_::_::_=>exact sb rfl
 |_=>exact sb rfl
theorem cV(k:Nat)(z:Z)(h:jN x):aj T (k + 8) gF [.d x] z=↑(.ok (.d .cq) z) :=
 W.ok (aI    rfl rfl (-0) (Wo (xX k x z) (ie  (by rw[h];rfl) (sd rfl))))
theorem zB(k:Nat)(z:Z)(h:jN x=false):aj T (k + 8) gF [.d x] z=↑(.er 0 z) :=
 W.er (aI    rfl rfl (-0) (Wo (xX k x z) (it  (by rw[h];rfl) #[rfl,aV z])))
theorem ql(hj:0 < j):f9 .mod (~~~i) (~~~j)=↑(.d (~~~(i % j))):=by
 show(if 0 < j then ↑_ else none)=_;rw[Zu hj]
def GT(n:Nat)(a b:Int):Prop:=0<=b/\((∃ k:Nat,n=2 * k + 1/\b < 2 ^ k)\/∃ k:Nat,n=2 * k/\b < a/\a < 2 ^ k)
theorem GT.step(h:GT n a b)(hb:0 < b):∃ m,m < n/\GT m b (a % b):=by
 obtain⟨h0,h⟩:=h;have r0:=Y0 a (show b≠0 by omega)
 have r1:=XY a hb;rcases h with ⟨k,rfl,hk⟩ | ⟨k,rfl,hba,hk⟩
 ·exact⟨_,Xs _,r0,.inr ⟨k,rfl,r1,hk⟩⟩
 ·cases k with
  |zero=>dsimp at hk;omega
  |succ k =>
   refine⟨_,Xs _,r0,.inl ⟨k,rfl,?_⟩⟩
   have e:=Int.emod_add_mul_ediv a b;have:b * 1<=b * (a / b):=Xb (Int.le_ediv_of_mul_le hb ∅) (Vz hb)
   grind
theorem ue(a b:Int):gcd b (a % b)=gcd a b:=by
 rw[Int.emod_def,Int.gcd_sub_mul_left_right,gcd_comm]
def big(b:Int):Prop:=b < 2 ^ 4000
theorem zC(a:0<=b)(h:big b):b.natAbs < je:=by
 have h:b < 2 ^ 4000:=h;show b.natAbs < 2 ^ 4000;omega
theorem xY(h:b<=2 ^ 64):big b:=Int.lt_of_le_of_lt h (-0)
theorem i8(k:Nat)(a b:Int)(z:Z)(e:0 < b)(f:big b):aj T (k + 3) ez [.d (~~~a),.d (~~~b)] z=↑(.ok (.d (~~~(gcd a b))) z):=by
 refine W.ok (aI    rfl rfl (-0) (ER (λn i j=>j=z/\∃ c d:Int,i=[↑(.d (~~~c)),↑(.d (~~~d))]/\GT n c d/\gcd c d=gcd a b/\(d=0->0<=c)) _ #[rfl,a,b,rfl,#[Vz e,.inl #[_,rfl,f]],rfl,λh=>by omega] (-0) ?_))
 rintro n i j ⟨rfl,c,d,rfl,g,l,o⟩;refine ib  (λp=>?_) λp=>?_
 .rw[Zw] at p;let(m,q,r):=g.step p;refine(ae (ql  p) ?_ :);exact#[m,q,rfl,d,_,rfl,r,(ue c d).trans l,λ_=>Vz p]
 .have hz:d=0:=by have:=g.1;omega
  subst hz;rw[Int.gcd_zero_right] at l;apply sd 
  grind
def G5(t b:Int):Bool:=(decide (1<=b)&&decide (b<=1000))&&((decide (0<=t)&&decide (t<=b))&&(((gcd t b:Nat):Int) == 1))
def Vf:D->D->Bool
 |~~~t,~~~b=>G5 t b|_,_=>false
def EX:D->Bool
 |.tup [d,e]=>Vf d e|_=>false
theorem zD(h:¬ (1<=u/\u<=1000/\0<=t/\t<=u)):false=G5 t u:=by
 delta G5
 apply Eq.symm;rw[eq_false_iff];intro q;rw[Á,Á,Á,Á,Zw,Zw,Zw,Zw] at q;simp_all
theorem qo(k:Nat)(x:D)(z:Z):aj T (k + 4) rZ [.d x] z=↑(.ok (.d (.bl (EX x))) z):=by
 refine W.ok (aI    rfl rfl (-0) ?_)
 cases x with
 |tup l =>
  match l with
  |[a,b] =>
   apply Wo (i7 k a z);cases a with
   |int t =>
    apply Wo (i7 k b z);cases b with
    |int u =>
     refine ib  (λc=>ib  (λe=>?_) λe=>ib  (λf=>ib  (λg=>?_) λg=>?_) λf=>?_) λc=>?_
     .exact sb (zD λq=>by rw[ò,ZD] at e;exact e q.2.1)
     .exact sb (zD λq=>by rw[ò,ZD] at g;exact g q.2.2.2)
     .rw[Yb,Zw] at e g;rw[Zw] at c f;refine Wo (i8 k t u z c (xY ∅)) (sb (show(((gcd t u):Int) == 1)=G5 t u from ?_))
      delta G5
      rw[Zy c,Zy e,Zy f,Zy g];rfl
     .exact sb (zD λq=>by rw[ZD] at f;exact f q.2.2.1)
     .exact sb (zD λq=>by rw[ZD] at c;exact c q.1)
    |_=>exact sb rfl
   |_=>exact sb rfl
  |[]=>exact sb rfl|[_]=>exact sb rfl|_::_::_::_=>exact sb rfl
 |_=>exact sb rfl
def gG(n:Nat):D->Bool
 |.tup l=>(l.length == n)&&l.all EX|_=>false
theorem xZ(h:jN x):∃ m c,x=.tup [~~~m,.tup c]/\1<=m/\m<=6/\c.length<=8/\(∀ t∈c,C5 t m)/\vQ c:=by
 cases x with
 |tup l =>
  match l,h with
  |[a,t],h =>
   delta jN Mn at h
   cases a with
   |int m =>
    rw[Á,Á,Zw,Zw] at h;let(d,e,f):=h
    delta qk at f
    cases t with
    |tup c =>
     rw[Á,Á,Zw,VT] at f;exact#[m,c,rfl,d,e,f.1,f.2.1,f.2.2]
    |_=>cases f
   |_=>cases h
 |_=>cases h
theorem mJ(k:Nat)(hw:jN (.tup [~~~m,.tup a]))(x:D)(z:Z):aj T (k + 9) gA [.d (.tup [~~~m,.tup a]),.d x] z=↑(.ok (.d (.bl (gG a.length x))) z):=by
 let(c,f,e,_,_,g,_):=xZ hw;cases e;refine W.ok (aI    rfl rfl (-0) (Wo (cV k z hw) ?_))
 cases x with
 |tup l =>
  have e:((l.length:Int) == (a.length))=(l.length == a.length):=by grind
  refine ib (b:=!((l.length:Int) == (a.length))) (λh=>?_) λh=>?_
  .rw[e,ò] at h;exact sb (show false=((l.length == a.length)&&_) by rw[h];rfl)
  .rw[e,Yb] at h;refine ip (bU (by grind)) (gO _ (λx _=>Wo (qo _ x z) #[rfl,rfl]) (ae (kH l EX) ?_ :))
   exact sb  (show _=((l.length == a.length)&&l.all EX) by rw[h];rfl)
 |_=>exact sb rfl
theorem bG(k:Nat)(hw:jN (.tup [~~~m,.tup ts]))(z:Z)(h:gG ts.length x):aj T (k + 10) dD [.d (.tup [~~~m,.tup ts]),.d x] z=↑(.ok (.d .cq) z) :=
 W.ok (aI    rfl rfl (-0) (Wo (mJ k hw x z) (ie  (by rw[h];rfl) (sd rfl))))
theorem eA(k:Nat)(hw:jN (.tup [~~~m,.tup ts]))(z:Z)(h:gG ts.length x=false):aj T (k + 10) dD [.d (.tup [~~~m,.tup ts]),.d x] z=↑(.er 6 z) :=
 W.er (aI    rfl rfl (-0) (Wo (mJ k hw x z) (it  (by rw[h];rfl) #[rfl,aV z])))
theorem vR(k:Nat)(hw:jN w=false)(x:D)(z:Z):aj T (k + 9) gA [.d w,.d x] z=↑(.er 0 z) :=
 W.er (aI    rfl rfl (-0) (We (zB k z hw) #[rfl,aV z]))
theorem jO(k:Nat)(hw:jN w=false)(x:D)(z:Z):aj T (k + 10) dD [.d w,.d x] z=↑(.er 0 z) :=
 W.er (aI    rfl rfl (-0) (We (vR k hw x z) #[rfl,aV z]))
inductive ZI (z:Z):Prop where
 |mk (n b) (h0_:z=↑(n,b)) (h1_:0<=n) (h2_:(b=false->n < 2147483647)):ZI z
theorem zF{T:⇑Df}{k f ps ns:Nat}{b:Sm}{Q:S->Z->Prop}(hz:ZI z)(h:T[f]?=↑(.code ps ns b))(a:l.length=ps)(e:ps<=ns)(q:WS (oA T (k + 2)) false b (start ns (l.map qJ)) z (λo g=>match o with
  |.nx _=>Q (.d .cq) g
  |.rt s=>Q s g) E):W (aj T (k + 3) f l) z Q E:=by
 let(n,c,rfl,_):=hz;refine aI h a e (q.mono (λo g h=>?_) λ_ _ h=>h);cases o <;> exact h
theorem C6{a:Int}{n:Nat}(h:a.natAbs < n)(c:n<=2 ^ 64:=by decide):a.natAbs < je:=Ñ h (Í c (-0))
theorem x5{i j:Int}(a:i.natAbs < 2 ^ 64)(c:j.natAbs < 2 ^ 64):f9 .mul (~~~i) (~~~j)=↑(.d (~~~(i * j))):=by
 show(if i.natAbs < je/\j.natAbs < je then ↑_ else none)=_;rw[Zu #[C6 a,C6 c]]
theorem So(a:0 < j)(c:j.natAbs < 2 ^ 64):f9 .fdiv (~~~i) (~~~j)=↑(.d (~~~(i / j))):=by
 show(if 0 < j/\j.natAbs < je then ↑_ else none)=_;rw[Zu #[a,C6 c]]
def Drawn(m:Int)(s:S)(a:Z):Prop:=ZI a/\∃ r:Nat,s=.d (~~~r)/\(r:Int) < m
theorem bN(k:Nat)(m:Int)(hz:ZI z)(m0:0 < m)(m1:m < 2 ^ 32):W (aj T (k + 3) aE [.z,.d (~~~m)]) z (Drawn m) NE:=by
 have fin:∀ (a:Int) (z1:Z),ZI z1->Drawn m _ z1:=λa z1 h=>by
  have h0:=Y0 a (show m≠0 by omega)
  exact⟨h,_,by rw[Xn h0],by rw[Xn h0];exact XY _ m0⟩
 refine zF hz    rfl rfl (-0) ?_
 obtain⟨n,b,rfl,n0,n1⟩:=hz;cases b with
 |true =>
  refine(ae (ql  m0) ?_ :);refine(ae (So  m0 ∅) ?_ :)
  exact fin n _ ⟨_,true,rfl,Int.ediv_nonneg n0 ∅,λh=>nomatch h⟩
 |false =>
  have n1:=n1 rfl;have e1:∀ a:Int,0<=a % 2147483647/\a % 2147483647 < 2147483647:=λa=>⟨emod_nonneg _ (-0),emod_lt_of_pos _ (-0)⟩
  have e2:∀ a:Int,0<=a % 2147483629/\a % 2147483629 < 2147483629:=λa=>⟨emod_nonneg _ (-0),emod_lt_of_pos _ (-0)⟩
  have s1:∀ a:Int,(a % 2147483647).natAbs < 2 ^ 64:=λa=>by have:=e1 a;omega
  have s2:∀ a:Int,(a % 2147483629).natAbs < 2 ^ 64:=λa=>by have:=e2 a;omega
  refine(ae (x5 (i:=n) (j:=48271) ∅ (-0)) ?_ :)
  have a1:=e1 (n * 48271 + 29);refine(ae (x5 (s1 (n * 48271 + 29)) (s1 (n * 48271 + 29))) ?_ :);refine(ae (x5 (i:=39373) (-0) (s1 (n * 48271 + 29))) ?_ :)
  refine(ae (x5 (s2 _) (s2 _)) ?_ :);refine(ae (x5 (i:=16807) (-0) (s2 _)) ?_ :)
  refine(ae (ql m0) ?_ :);exact fin _ _ ⟨_,false,rfl,a1.1,λ_=>a1.2⟩
theorem C7(k:Nat)(a:Zl)(j:Nat)(z:Z):∃ c:Int,aj T (k + 3) mf [.d (.lst (a.map D.int)),.d (~~~j)] z=↑(.ok (.d (~~~c)) z):=by
 by_cases h:j < a.length
 .refine#[a[j],W.ok (aI    rfl rfl (-0) (it  (by simp[h]) ?_))]
  refine(ae (o:=iP (.lst (a.map D.int)) (~~~j)) (L2.tw (v:= ~~~a[j]) (by simp[h])) ?_ :)
  exact sd rfl
 .exact#[0,W.ok (aI    rfl rfl (-0) (ie  (by simp_all) (sd rfl)))]
theorem BL(k:Nat)(a:Zl)(j:Nat)(z:Z):∃ (n:Int) (b:Bool),ZI ↑(n,b)/\aj T (k + 4) qc [.d (.lst (a.map D.int)),.d (~~~j)] z=↑(.ok (.fr [~~~n,.bl b]) z):=by
 let(c,e):=C7 k a j z;by_cases h:(10 ^ 18:Int)<=c
 .exact#[c - 10 ^ 18,true,#[_,_,rfl,by omega,λh=>nomatch h],W.ok (aI    rfl rfl (-0) (Wo e (it  (Zy h) (sd rfl))))]
 .refine#[_,false,#[_,_,rfl,Y0 _ (-0),λ_=>XY _ (-0)],W.ok (aI    rfl rfl (-0) (Wo e (ie  (Zz h) (sd rfl))))]
theorem kU(a:0<=m)(c:m < 100000):AX .rng1 [~~~m]=↑((ø m.toNat).map λ(i:Nat)=>D.int i):=by
 show(if inR m=true then _ else none)=_;rw[Zu (kP.mpr #[by omega,c])]
theorem ne_nil(h:iA (.lst l)):fB .ne (.lst l) (.lst [])=↑(!l.isEmpty):=by
 show(Lw _ _).map _=_
 delta Lw
 rw[h];cases l <;> rfl
theorem nF:∀ l:Zl,bu (l.map D.int)/\cj (l.map D.int)=0
 |[]=>#[rfl,rfl]
 |x::r=>by
  let(a,c):=nF r;refine#[a,?_];show Nat.max 0 _=0;rw[c];rfl
theorem GG(l:Zl):iA (.lst (l.map D.int)):=by
 let(a,c):=nF l;show(bu _&&decide (cj _ + 1<=40))=true;rw[a,c];rfl
theorem J3(n:Nat):(ø n).map (λ(i:Nat)=>D.int i)=((ø n).map λ(i:Nat)=>(i:Int)).map D.int:=by
 rw[à];rfl
theorem Mo{l:Zl}{j:Nat}(h:j < l.length):(l.map D.int)[j]?=↑(~~~l[j]):=by rw[å,ß h];rfl
theorem mK{j:Nat}(h:l[j]?=↑x):iP (.lst l) (~~~j)=↑x:=L2.tw h
theorem J4{j:Nat}(h:l[j]?=↑x):iP (.tup l) (~~~j)=↑x:=L2.tw h
def pr(p:Int × Int):D:=.tup [~~~p.1,~~~p.2]
def ky(p:Int × Int):Zl:=[p.1,p.2]
theorem Sq(a b c d:Int):MySort.aU [a,b] [c,d]=if a=c then(if b=d then false else decide (b < d)) else decide (a < c):=rfl
def Ch:Za->Prop
 |a::b::r=>HT.leB (ky a) (ky b)=true/\Ch (b::r)|_=>True
theorem BM(h:MySort.aU (ky p) (ky q)):HT.leB (ky p) (ky q):=by
 delta HT.leB
 delta ky at h ⊢
 rw[Sq] at h ⊢
 grind
def w9(k:Int × Int):Za->Za
 |[]=>[k]|y::r=>if MySort.aU (ky y) (ky k) then y::w9 k r else k::y::r
def vS:Za->Za
 |[]=>[]|k::r=>w9 k (vS r)
theorem x6(k:Int × Int):∀ l,(w9 k l).Perm (k::l)
 |[]=>.refl _
 |y::r=>by
  unfold w9;split
  .exact((x6 k r).cons y).trans (.swap _ _ _)
  .exact .refl _
theorem oP:∀ l,(vS l).Perm l
 |[]=>.refl _|k::r=>(x6 k _).trans ((oP r).cons k)
theorem EY(k:Int × Int):∀ l,Ch l->Ch (w9 k l)
 |[],_=>trivial
 |[y],_=>by
  unfold w9;split
  .rename_i h;exact#[BM h,trivial]
  .rename_i h;refine#[?_,trivial]
   delta HT.leB
   simpa using h
 |y::x::r,h=>by
  let(a,c):=h;have d:=EY k _ c;unfold w9;split
  .rename_i e;unfold w9 at d ⊢;split at d
   .rename_i f;rw[Zu f];exact#[a,d]
   .rename_i f;rw[Zv f];exact#[BM e,d]
  .rename_i e;refine#[?_,a,c]
   delta HT.leB
   simpa using e
theorem vT:∀ l,Ch (vS l)
 |[]=>trivial|k::r=>EY k _ (vT r)
theorem BN(k:Int × Int):∀ l:Za,pL (pr k) (l.map pr)=(w9 k l).map pr
 |[]=>rfl
 |y::r=>by
  unfold w9;show(if MySort.aU (ky y) (ky k) then pr y::pL _ _ else pr k::pr y::r.map pr)=_;split
  .rw[BN k r];rfl
  .rfl
theorem rC:∀ l:Za,iW (l.map pr)=(vS l).map pr
 |[]=>rfl
 |k::r=>by
  show pL _ _=_;rw[rC r,BN];rfl
theorem Np(p q:Int × Int):Ak (pr p) (pr q)=↑(MySort.aU (ky p) (ky q)):=by
 show(if (p.1 == q.1)=true then(if (p.2 == q.2)=true then ↑false else ↑_) else ↑_)=↑(if p.1=q.1 then(if p.2=q.2 then false else decide _) else decide _);simp only[Zx];split
 .split <;> rfl
 .rfl
theorem Mp(p q:Int × Int):cB (pr p) (pr q):=by
 delta cB
 rw[Np];show(true&&((↑_ == ↑(MySort.aU (ky p) (ky q)))&&(((p.1 == q.1)&&((p.2 == q.2)&&true)) || !([p.1,p.2] == [q.1,q.2]))))=true
 grind
theorem x8(l:Za):bV (l.map pr):=by
 refine Ù.mpr λx a=>?_;let(p,_,rfl):=Ç.mp a;refine Ù.mpr λy c=>?_;let(q,_,rfl):=Ç.mp c;exact Mp p q
theorem x9(h:l.length < 64):kO .sorted [.lst (l.map pr)]=↑(.fr ((vS l).map pr)):=by
 show(if (l.map pr).length < 64/\bV _=true then ↑_ else(qX _).map S.fr)=_;rw[Zu #[by simp_all,x8 l],rC]
theorem vU:∀ {l:Za},Ch l->vQ (l.map pr)
 |[],_=>rfl|[_],_=>rfl
 |a::b::r,h=>by
  show((iC (pr a::pr b::r.map pr) (pr b::r.map pr)).all Ut)=true;have e:iC (pr a::pr b::r.map pr) (pr b::r.map pr)=.tup _::iC _ _:=rfl;rw[e,V4,Á];exact#[h.1,vU h.2]
theorem vV:∀ l:Za,de (l.map pr)
 |[]=>rfl
 |_::r=>by
  show(bare _&&de _)=true;rw[vV r];rfl
theorem J5:∀ l:Za,bu (l.map pr)/\cj (l.map pr)<=1
 |[]=>#[rfl,by decide]
 |p::r=>by
  let(a,c):=J5 r;refine#[?_,?_]
  .show(dz _&&bu _)=true;rw[a];rfl
  .show Nat.max _ _<=1;have:deep (pr p)=1:=rfl
   simp_all
theorem Mq(l:Za):iA (.lst (l.map pr)):=by
 let(a,c):=J5 l
 delta iA
 rw[Á,Zw];refine#[a,?_];show cj _ + 1<=40;omega
theorem Mr(l:Za):iA (.tup (l.map pr)):=Mq l
def cx(m:Int)(ps:Za):D:=.tup [~~~m,.tup (ps.map pr)]
structure aR(m:Int)(ps:Za):Prop where
 m1:1<=m
 m6:m<=6
 len:ps.length<=8
 tie:∀ p∈ps,0<=p.1/\p.1 < p.2/\p.2 < m
 ch:Ch ps
theorem aR.Am(g:aR m ps):jN (cx m ps):=by
 delta cx jN Mn qk
 simp only[Á,Zw,VT,Ã];refine#[g.m1,g.m6,g.len,λt a=>?_,vU g.ch];let(p,c,rfl):=Ç.mp a;let(d,e,f):=g.tie p c
 delta pr C5 bK
 grind
theorem PZ(a:0<=i)(c:i < 100)(d:-100 < m)(h:m < 100000):AX .rng2 [~~~i,~~~m]=↑((ø (m - i).toNat).map λ(k:Nat)=>D.int (i + k)):=by
 show(if inR i=true/\inR m=true then _ else none)=_;rw[Zu #[kP.mpr ∅,kP.mpr ∅]]
theorem uf{L:⇑D}{n:Nat}(f:D->Bool)(h:n < L.length)(a:L.all f):∃ x,L[n]?=↑x/\f x=true :=
 #[_,ß h,Ù.mp a _ (V3 h)]
def Qh(a b:Int):D->Bool
 |~~~i=>decide (a<=i)&&decide (i<=b)|_=>false
theorem J6(h:Qh a b x):∃ i,x= ~~~i/\a<=i/\i<=b:=by
 cases x with
 |int i =>
  unfold Qh at h;rw[Á,Zw,Zw] at h;exact#[i,rfl,h]
 |_=>cases h
theorem rD(l:⇑D)(h:0<=n):cutD l none ↑n=l.take n.toNat:=by
 let(k,rfl):=Xp h;show(l.drop 0).take (min k l.length - 0)=_
 simp_all
theorem vW{c:Type}{l:⇑c}{a:c}:(l++[a]).length=l.length + 1:=⋯
theorem J7(a b:Int):(if b < a then b else a)=min a b/\(if b > a then b else a)=max a b:=by grind
theorem nG{P:Int × Int->Prop}:∀ {a e:⇑D},PySem.Paired (λ_ y=>∃ c,y=pr c/\P c) a e->∃ f:Za,e=f.map pr/\f.length=a.length/\∀ c∈f,P c
 |[],_,h=>by cases h;simp_all
 |x::r,_,h=>by
  cases h with
  |cons g i =>
   let(c,rfl,j):=g;let(f,rfl,k,l):=nG i;refine#[c::f,rfl,by simp_all,λd m=>?_]
   rcases ì.mp m with rfl | m
   .exact j
   .exact l d m
def J8(m:Int)(p:Int × Int):Prop:=0<=p.1/\p.1 < p.2/\p.2 < m
abbrev J9(a m:Int)(c:Za)(e f g:Option S):Env:=[↑.z,↑(.d (~~~a)),↑(.d (~~~m)),↑(.fr (c.map pr)),e,f,g]
theorem P0:J9 mo m (a++[p]) c e f=[↑.z,↑(.d (~~~mo)),↑(.d (~~~m)),↑(.fr (a.map pr++[pr p])),c,e,f]:=by rw[J9,gV];rfl
theorem Ka{a m:Int}{c:Za}(d:1<=m)(e:m<=6)(f:0<=a)(g:a<=8)(h:∀ p∈c,J8 m p)(i:c.length < 64):∃ j,kO .sorted [.lst (cutD (c.map pr) none ↑a)]=↑(.fr (j.map pr))/\aR m j/\(j.length:Int)<=a:=by
 refine#[_,by rw[rD _ f,<-map_take];exact x9 (by grind),?_]
 have l:=oP (c.take a.toNat);have n:=l.length_eq;rw[õ] at n;exact#[#[d,e,by grind,λq o=>h q (V1 (l.mem_iff.mp o)),vT _],by grind]
theorem ya(k:Nat){mo:Int}{z:Z}(hz:ZI z)(h0:0<=mo)(h8:mo<=8):W (aj T (k + 5) vJ [.z,.d (~~~mo)]) z (λs z1=>ZI z1/\∃ m ps,s=.d (cx m ps)/\aR m ps/\(ps.length:Int)<=mo) NE:=by
 refine zF hz    rfl rfl (-0) ?_
 refine(bN _ 8 hz (-0) (-0)).imp λs z1 ⟨hz1,n,e,hn⟩=>?_
 subst e;obtain⟨x,ex,hx⟩:=uf (L:=[D.int 6,~~~5,~~~4,~~~3,~~~4,~~~5,~~~2,~~~1]) (n:=n) (Qh 1 6) (by simp[ã,WD];omega) (-0)
 obtain⟨m,rfl,m1,m6⟩:=J6 hx;refine(ae (mK ex) ?_ :);refine(vG (.fr []) (J9 mo m [] none none none) ?_ ?_ ?_ :)
 ·exact⟨rfl,rfl⟩
 ·rfl
 refine EN (λρ z2=>ZI z2/\∃ ps:⇑_,ρ=J9 mo m ps none none none/\(∀ p∈ps,J8 m p)/\ps.length<=5) ?_ ?_
 ·refine ib  (λh=>?_) λh=>⟨hz1,[],rfl,(λp hp=>nomatch hp),⋯⟩
  have h:=ZA h;refine(bN (k + 1) 5 hz1 (-0) (-0)).imp λs z2 ⟨hz2,v,e,hv⟩=>?_
  subst e;refine ib (b:=decide (0 < (v:Int))) (λh1=>?_) λh1=>⟨hz2,[],rfl,(λp hp=>nomatch hp),⋯⟩
  refine(ae (PZ (i:=1) (m:=m) (-0) (-0) ∅ ∅) ?_ :)
  refine ip (by rw[Ã,Vu];simp only[most];omega) (Sn (I:=ZI) (P:=λ_ y=>∃ c,y=pr c/\J8 m c) hz2 (λx hx z3 hz3=>?_) λys z3 hz3 hys=>?_)
  ·obtain⟨i,hi,rfl⟩:=Ç.mp hx;have hi:=û.mp hi;refine(bN (k + 1) (1 + (i:Int)) hz3 ∅ ∅).imp λs z4 ⟨hz4,a,e,ha⟩=>?_
   subst e;exact⟨hz4,((a:Int),1 + (i:Int)),rfl,by show(0:Int)<=a;omega,ha,by show 1 + (i:Int) < m;omega⟩
  ·obtain⟨cs,rfl,hl,ha⟩:=nG hys;rw[Ã,Vu] at hl;exact⟨hz3,cs,rfl,ha,by omega⟩
 ·rintro ρ z2 ⟨hz2,ps,rfl,hp,hl⟩;refine(bN (k + 1) (mo + 1) hz2 ∅ ∅).imp λs z3 ⟨hz3,t,e,ht⟩=>?_
  subst e;have hj:(if decide (1 < m)=true then(1:Int) else 0)=0\/((if decide (1 < m)=true then(1:Int) else 0)=1/\1 < m):=by
   by_cases h:1 < m
   ·exact .inr ⟨by rw[Zy h];rfl,h⟩
   ·exact .inl (by rw[Zz h];rfl)
  refine(ae (x5 (i:=(t:Int)) (j:=if decide (1 < m)=true then(1:Int) else 0) ∅ (by rcases hj with h | h <;> (first | rw[h] | rw[h.1]) <;> decide)) ?_ :)
  have hc:∃ c:Nat,(t:Int) * (if decide (1 < m)=true then(1:Int) else 0)=c/\c<=8/\(0 < c->1 < m):=by
   rcases hj with h | h
   ·exact⟨0,by rw[h,Int.mul_zero];rfl,by omega,λh=>absurd h ∅⟩
   ·exact⟨t,by rw[h.1,mul_one],by omega,λ_=>h.2⟩
  obtain⟨c,ec,hc8,hcm⟩:=hc;refine(ae (o:=AX .rng1 [~~~((t:Int) * (if decide (1 < m)=true then(1:Int) else 0))]) (a:=(ø c).map λ(i:Nat)=>D.int i) (by rw[ec,kU ∅ ∅,WO]) ?_ :)
  refine eJ (λxs ρ z=>ZI z/\(0 < xs.length->1 < m)/\∃ (ps:Za) (o4 o5 o6:Option S),ρ=J9 mo m ps o4 o5 o6/\(∀ p∈ps,J8 m p)/\ps.length + xs.length<=13) _ ⟨hz3,λh=>hcm (by rw[Ã,Vu] at h;exact h),ps,_,_,_,rfl,hp,by rw[Ã,Vu];omega⟩ ?_ ?_
  ·rintro x r ρ z4 ⟨hz4,hm,ps,o4,o5,o6,rfl,hp,hl⟩;have hm:=hm ⋯
   refine(bN (k + 1) m hz4 ∅ ∅).imp λs z5 ⟨hz5,a,e,ha⟩=>?_
   subst e;refine(bN (k + 1) (m - 1) hz5 ∅ ∅).imp λs z6 ⟨hz6,b,e,hb⟩=>?_
   subst e;refine(ae (ql (i:=(a:Int) + 1 + b) (j:=m) ∅) ?_ :)
   have hq:0<=((a:Int) + 1 + b) % m/\((a:Int) + 1 + b) % m < m/\((a:Int) + 1 + b) % m≠a:=by
    refine⟨Y0 _ ∅,XY _ ∅,?_⟩
    by_cases h:(a:Int) + 1 + b < m
    ·rw[YR ∅ h];omega
    ·rw[show(a:Int) + 1 + b=((a:Int) + 1 + b - m) + m from by omega,Int.add_emod_right,YR ∅ ∅];omega
   generalize ((a:Int) + 1 + b) % m=q at hq ⊢;refine ip ⟨rfl,by rw[Ã];simp only[most,ã] at hl ⊢;omega⟩ ?_
   refine⟨hz6,λ_=>hm,ps++[(min (a:Int) q,max (a:Int) q)],↑(.d x),↑(.d (~~~a)),↑(.d (~~~q)),?_,λp hp'=>?_,by rw[vW];simp only[ã] at hl;omega⟩
   ·rw[P0,← (J7 (a:Int) q).1,← (J7 (a:Int) q).2];rfl
   ·rcases Ð.mp hp' with h | h
    ·exact hp p h
    ·rw[Ë.mp h];show 0<=min (a:Int) q/\min (a:Int) q < max (a:Int) q/\max (a:Int) q < m;omega
  ·rintro ρ z4 ⟨hz4,_,ps,o4,o5,o6,rfl,hp,hl⟩;obtain⟨qs,e,g,hq⟩:=Ka m1 m6 h0 h8 hp (by simp only[WD] at hl;omega)
   refine(ae e ?_ :);exact⟨hz4,m,qs,rfl,g,hq⟩
theorem yb(a:0 < j)(c:big j):f9 .fdiv (~~~i) (~~~j)=↑(.d (~~~(i / j))):=by
 show(if 0 < j/\j.natAbs < je then ↑_ else none)=_;rw[Zu #[a,zC (Vz a) c]]
theorem Nq(a:0<=i)(c:big i)(e:0<=j)(f:big j):f9 .mul (~~~i) (~~~j)=↑(.d (~~~(i * j))):=by
 show(if i.natAbs < je/\j.natAbs < je then ↑_ else none)=_;rw[Zu #[zC a c,zC e f]]
theorem hV(h:0 < b):0 < ((gcd t b:Nat):Int):=by
 exact _C (_e _) (_n (Int.gcd_pos_of_ne_zero_right (a:=t)  ∅))
theorem nH(h:0 < b)(hb:big b):big (gcd t b:Int):=Int.lt_of_le_of_lt (le_of_dvd h (Int.gcd_dvd_right t b)) hb
def dH(t b:Int):Int × Int:=(t / gcd t b,b / gcd t b)
theorem GH(k:Nat)(t b:Int)(z:Z)(a:0 < b)(c:big b):aj T (k + 4) Bz [.d (~~~t),.d (~~~b)] z=↑(.ok (.d (pr (dH t b))) z):=by
 refine W.ok (aI    rfl rfl (-0) (Wo (i8 k t b z a c) ?_))
 refine(ae (yb  (hV  a) (nH a c)) ?_ :);refine(ae (yb  (hV  a) (nH a c)) ?_ :);exact sd rfl
structure Bd(n:Nat)(c:Int × Int):Prop where
 t0:0<=c.1
 tb:c.1<=c.2
 b0:0 < c.2
 bb:c.2<=2 ^ n
theorem EZ(h:n<=3999)(a:i<=2 ^ n):big i:=by
 apply Int.lt_of_le_of_lt a;have e :=Int.ofNat_lt.mpr (Nat.pow_lt_pow_right (-0) (_b h):(2:Nat) ^ n < 2 ^ 4000)
 simp_all
theorem Bd.t(h:Bd n c)(a:n<=3999):big c.1:=EZ a (VS h.tb h.bb)
theorem Bd.b(h:Bd n c)(a:n<=3999):big c.2:=EZ a h.bb
theorem Bd.mul(a:Bd n c)(e:Bd m d):Bd (n + m) (c.1 * d.1,c.2 * d.2):=#[mul_nonneg a.t0 e.t0,mul_le_mul a.tb e.tb e.t0 (Vz a.b0),mul_pos a.b0 e.b0,by
 rw[pow_add];exact mul_le_mul a.bb e.bb (Vz e.b0) (VS (Vz a.b0) a.bb)]
theorem Kb(k:Nat)(a:Bd n c)(e:Bd m d)(f:n + m<=3999)(z:Z):aj T (k + 5) ES [.d (pr c),.d (pr d)] z=↑(.ok (.d (pr (dH (c.1 * d.1) (c.2 * d.2)))) z):=by
 have g:=a.mul e;refine W.ok (aI    rfl rfl (-0) ?_)
 refine(ae (Nq a.t0 (a.t (Í (VO _ _) f)) e.t0 (e.t (Í (_h _ _) f))) ?_ :)
 refine(ae (Nq (Vz a.b0) (a.b (Í (VO _ _) f)) (Vz e.b0) (e.b (Í (_h _ _) f))) ?_ :)
 exact Wo (GH k _ _ z g.b0 (g.b f)) (sd rfl)
theorem i9(k:Nat)(c:Int × Int)(z:Z):aj T (k + 3) rB [.d (pr c)] z=↑(.ok (.d (pr (c.2 - c.1,c.2))) z) :=
 W.ok (aI    rfl rfl (-0) (sd rfl))
theorem ug(a:0 < b):t=gcd t b * (dH t b).1/\b=gcd t b * (dH t b).2:=by
 constructor
 .exact(Int.mul_ediv_cancel' (Int.gcd_dvd_left t b)).symm
 .exact(Int.mul_ediv_cancel' (Int.gcd_dvd_right t b)).symm
theorem E0(a:0 < b):gcd (dH t b).1 (dH t b).2=1:=Int.gcd_ediv_gcd_ediv_gcd_of_ne_zero_right ∅
theorem zG(a:0 < b):0 < (dH t b).2:=by
 let(_,e):=ug  a;refine Int.pos_of_mul_pos_right  ?_ (hV (t:=t) a);exact _p a (_D e)
theorem Ms(h0:0 < b)(h1:0<=t)(h2:t<=b):0<=(dH t b).1/\(dH t b).1<=(dH t b).2/\(dH t b).2<=b:=by
 have g0:=hV (t:=t) h0;let(e1,e2):=ug  h0;refine#[Int.ediv_nonneg h1 (Vz g0),Int.le_of_mul_le_mul_left  (VS (_D (_a e1)) (VS h2 (_D e2))) g0,?_]
 have:=Int.mul_le_mul_of_nonneg_right g0 (Vz (zG (t:=t) h0))
 omega
theorem C8(h:gcd a b=1)(c:b∣a * d):b∣d:=by
 have e:Nat.Coprime b.natAbs a.natAbs:=by rw[Nat.coprime_comm];exact h
 exact Int.natAbs_dvd_natAbs.mp (e.dvd_of_dvd_mul_left (by rw[<-natAbs_mul];simp_all))
theorem C9(f:0 < b)(g:0 < d)(i:gcd a b=1)(j:gcd c d=1)(h:a * d=c * b):a=c/\b=d:=by
 have e :=Int.le_antisymm (le_of_dvd g (C8 i #[c,by rw[h,X4]])) (le_of_dvd f (C8 j #[a,by rw[<-h,X4]]));subst e;exact#[Int.eq_of_mul_eq_mul_right ∅ h,rfl]
def fU(c:Int × Int):Prop:=1<=c.2/\c.2<=1000/\0<=c.1/\c.1<=c.2/\gcd c.1 c.2=1
theorem fU.ch(h:fU c):EX (pr c):=by
 let(a,d,e,f,g):=h;show G5 c.1 c.2=true
 delta G5
 simp_all
theorem Mt(a:0 < b)(c:b<=1000)(d:0<=t)(e:t<=b):fU (dH t b):=by
 let(f,g,h):=Ms a d e;exact#[zG  a,VS h c,f,g,E0 a]
theorem jo(k:Nat)(t b:Int)(z:Z)(h0:0 < b)(h1:big b):aj T (k + 3) eK [.d (~~~t),.d (~~~b)] z=↑(.ok (.d (pr (dH t b))) z):=by
 refine W.ok (aI    rfl rfl (-0) (ER (λn ρ z1=>z1=z/\∃ c d:Int,ρ=[↑(.d _),↑(.d _),↑(.d (~~~c)),↑(.d (~~~d))]/\GT n c d/\gcd c d=gcd t b/\(d=0->0<=c)) _ #[rfl,_,b,rfl,#[Vz h0,.inl #[_,rfl,h1]],rfl,λh=>by omega] (-0) ?_))
 rintro n ρ z1 ⟨rfl,c,d,rfl,g,hg,hc⟩;refine ib (b:=!(d == 0)) (λhd=>?_) λhd=>?_
 .have hd':0 < d:=by have:=g.1;omega
  let(m,hm,g'):=g.step hd';refine(ae (ql  hd') ?_ :);exact#[m,hm,rfl,d,_,rfl,g',(ue c d).trans hg,λ_=>Vz hd']
 .rw[Yb,Zx] at hd;subst hd;rw[Int.gcd_zero_right] at hg;have e:c=((gcd t b:Nat):Int):=by grind
  subst e;refine(ae (yb (i:=t) (hV (t:=t) h0) (nH h0 h1)) ?_ :);refine(ae (yb (i:=b) (hV (t:=t) h0) (nH h0 h1)) ?_ :);exact sd rfl
def Kc:D->Bool
 |.tup [~~~t,~~~b]=>G5 t b|_=>false
set_option tactic.hygienic true in
theorem Mu(h:Kc x):∃ c,x=pr c/\fU c:=by
 delta Kc at h
 split at h
 .rename_i t b
  delta G5 at h
  simp[Á,Zw,Zx] at h;exact#[(t,b),rfl,h.1.1,h.1.2,h.2.1.1,h.2.1.2,by grind]
 .cases h
theorem zH(k:Nat)(hz:ZI z):W (aj T (k + 4) n6 [.z]) z (λs f=>ZI f/\∃ c,s=.d (pr c)/\fU c) NE:=by
 apply zF hz    rfl rfl (-0)
 refine(bN k 16 hz (-0) (-0)).imp λs f #[g,v,e,v1]=>?_
 subst e;refine ib  (λh=>?_) λh=>?_
 .let(x,ex,i):=uf (L:=[pr (1,2),pr (2,3),pr (1,3),pr (3,4),pr (9,10),pr (0,1),pr (1,1),pr (1,1000),pr (999,1000)]) (n:=v) Kc (by simp only[ã,WD];omega) (by decide +kernel)
  let(c,rfl,j):=Mu i;refine(ae (mK ex) ?_ :);exact#[g,c,rfl,j]
 .refine(bN k 2 g (-0) (-0)).imp λs l #[m,a,e,a1]=>?_
  subst e;let(x,ex,i):=uf (L:=[D.int 12,~~~1000]) (n:=a) (Qh 1 1000) (by simp only[ã,WD];omega) (-0)
  let(u,rfl,o,p):=J6 i;refine(ae (mK ex) ?_ :);refine(bN k u m ∅ ∅).imp λs q #[r,b,e,w]=>?_
  subst e;refine(bN k (1 + (b:Int) + 1) r ∅ ∅).imp λs y #[A,t,e,t1]=>?_
  subst e;exact Wo (jo k _ _ _ ∅ (xY ∅)) #[A,dH t (1 + (b:Int)),rfl,Mt ∅ ∅ ∅ ∅]
theorem n9(k:Nat){m:Int}{ts:⇑D}(hz:ZI z)(a:ts.length<=8):W (aj T (k + 5) mh [.z,.d (.tup [~~~m,.tup ts])]) z (λs f=>ZI f/\∃ g:Za,s=.d (.tup (g.map pr))/\g.length=ts.length/\∀ c∈g,fU c) NE:=by
 refine zF hz    rfl rfl (-0) (ip (bU (Í a (_d (VH _)))) (Sn  (P:=λ_ y=>∃ c,y=pr c/\fU c) hz (λx h f i=>?_) λj f i l=>?_))
 .refine(zH k i).imp λs n #[o,c,e,p]=>?_;subst e;exact#[o,c,rfl,p]
 .let(g,rfl,a,q):=nG l;exact#[i,g,rfl,a,q]
theorem mL{a:Za}{n:Nat}(h:a.length=n)(e:∀ c∈a,fU c):gG n (.tup (a.map pr)):=by
 delta gG
 rw[Á,Zx,Ã,VT];refine#[h,λd f=>?_];let(c,g,rfl):=Ç.mp f;exact(e c g).ch
theorem E1{n:Nat}(f:D->Bool)(h:n < L.length)(a:L.all f)(c:∀ x,f x->P x):cD (iP (.lst L) (~~~n)) P:=by
 let(x,e,d):=uf f h a;exact ae (mK e) (c x d)
theorem GI(k:Nat)(hz:ZI z):W (aj T (k + 4) mq [.z]) z (λs a=>ZI a/\∃ x,s=.d x/\jN x=false) NE:=by
 apply zF hz    rfl rfl (-0)
 refine(bN k 25 hz (-0) (-0)).imp λs a #[c,v,e,v1]=>?_
 subst e;refine(E1  (λx=>!jN x) ?_ ?_ ?_ :)
 .show v < 25;exact _i v1
 .decide +kernel
 .exact λx f=>#[c,x,rfl,by simpa using f]
def UQ:D->Bool
 |.tup [~~~a,~~~b]=>decide (a < b)|_=>false
def jP(l:⇑D):Bool:=(iC l (l.drop 1)).all UQ
def nW(m:Int):D->Bool
 |.tup l=>(l.all (λx=>bK x m)&&jP l)&&!l.isEmpty|_=>false
def short:D->Bool
 |.tup l=>decide (l.length<=1000)|_=>true
theorem Kd(k:Nat)(h:∀ x∈l,bK x m)(a:l.length<=1000)(z:Z):aj T (k + 3) ET [.d (.tup l)] z=↑(.ok (.d (.bl (jP l))) z):=by
 have c:cutD l ↑1 none=l.drop 1:=iJ l 1;refine W.ok (aI    rfl rfl (-0) (ip  (Í (qj _ _) (bU a)) (gO _ (λx e=>?_) (ae (kH _ UQ) ?_ :))))
 .let(u,f,v,g,rfl):=zz e;rw[c] at g;let(i,rfl,_):=gu (h u f);let(j,rfl,_):=gu (h v (Wl g));exact#[rfl,rfl]
 .exact sb  (by rw[c];rfl)
theorem qp(k:Nat)(m:Int)(hs:short x)(z:Z):aj T (k + 5) iZ [.d x,.d (~~~m)] z=↑(.ok (.d (.bl (match x with | .tup l=>l.all (λx=>bK x m)&&jP l | _=>false))) z):=by
 refine W.ok (aI    rfl rfl (-0) ?_)
 cases x with
 |tup l =>
  have a :=ZA hs;refine ip (bU a) (gO _ (λx _=>Wo (mI k x m z) #[rfl,rfl]) (ae (kH l _) ?_ :));refine ib  (λh=>?_) λh=>sb (show false=(l.all _&&jP l) by rw[h];rfl)
  exact Wo (Kd _ (Ù.mp h) a z) (sb (show jP l=(l.all _&&jP l) by rw[h];rfl))
 |_=>exact sb rfl
theorem eU(k:Nat)(z:Z)(h:nW m x)(hs:short x):aj T (k + 6) fG [.d (.tup [~~~m,t]),.d x] z=↑(.ok (.d .cq) z):=by
 refine W.ok (aI    rfl rfl (-0) (Wo (qp k m hs z) ?_))
 cases x with
 |tup l =>
  have h:((l.all _&&jP l)&&!l.isEmpty)=true:=h;rw[Á] at h;apply ie (b:=!(l.all _&&jP l)) (by rw[h.1];rfl)
  cases l with
  |nil=>cases h.2
  |cons y r=>exact sd rfl
 |_=>cases h
theorem kW(k:Nat)(z:Z)(h:nW m x=false)(hs:short x):aj T (k + 6) fG [.d (.tup [~~~m,t]),.d x] z=↑(.er 2 z):=by
 refine W.er (aI    rfl rfl (-0) (Wo (qp k m hs z) ?_))
 cases x with
 |tup l =>
  have h:((l.all _&&jP l)&&!l.isEmpty)=false:=h;refine ib (b:=!(l.all _&&jP l)) (λ_=>#[rfl,aV z]) λa=>?_;rw[Yb] at a;rw[a] at h;cases l with
  |nil=>exact#[rfl,aV z]|cons y r=>cases h
 |_=>exact#[rfl,aV z]
def af(n:Nat):D:= ~~~n
structure bH(m:Int)(l:⇑Nat):Prop where
 ne:l≠[]
 up:l.Pairwise (· < ·)
 lt:∀ p∈l,(p:Int) < m
theorem zI:∀ {l:Zh},l.Pairwise (· < ·)->jP (l.map af)
 |[],_=>rfl|[_],_=>rfl
 |a::b::r,h=>by
  have c:=zI (List.Pairwise.of_cons h);show(decide _&&jP _)=true
  simp_all
theorem bH.SO(g:bH m l):nW m (.tup (l.map af)):=by
 show(((l.map af).all _&&jP _)&&!(l.map af).isEmpty)=true;rw[zI g.up,Bool.and_true,Á];refine#[Ù.mpr λx a=>?_,?_]
 .let(p,c,rfl):=Ç.mp a;have:=g.lt p c;show(decide (0<=(p:Int))&&decide _)=true
  grind
 .cases l with
  |nil=>exact absurd rfl g.ne|cons _ _=>rfl
theorem bH.len(g:bH m l)(c:m<=6):l.length<=6:=by
 have:l.Sublist (ø 6):=by
  rw[(by
   refine Ws  ?_ g.up (WR _ WQ) ?_
   .grind
   .refine(W3 (g.up.imp λh e=>by omega) (WR _ nodup_range)).mpr λa=>?_
    rw[YU,mem_range,VR];exact#[λh=>#[by exact _W (g.lt a h) c,h],λh=>h.2]:l=(ø 6).filter λx=>l.contains x)];exact Xv
 exact this.length_le
theorem BO:∀ {a:⇑D}{l:Zh},a.Sublist (l.map af)->∃ c:Zh,a=c.map af/\c.Sublist l:=λ{a l} h=>by
 let(c,d,e):=List.sublist_map_iff.mp h;exact#[c,e,d]
theorem E2(n:Nat):((ø n).map λ(i:Nat)=>D.int i)=(ø n).map af:=rfl
theorem Kf(a b:Int):MySort.aU [a] [b]=decide (a < b):=by
 show(if a=b then false else decide _)=_;by_cases h:a=b
 .rw[Zu h,h];simp
 .rw[Zv h]
theorem jQ(a b:Nat):cB (af a) (af b):=by
 show(true&&((↑_ == ↑(MySort.aU [(a:Int)] [(b:Int)]))&&(((a:Int) == b) || !([(a:Int)] == [(b:Int)]))))=true;rw[Kf]
 simp_all
theorem vX(x y:Nat):kO .sorted [.lst [af x,af y]]=↑(.fr [af (min x y),af (max x y)]):=by
 show(if [af x,af y].length < 64/\bV _=true then ↑_ else _)=_;rw[Zu #[by show 2 < 64;decide,by
  refine Ù.mpr λu c=>?_;have one :=λa=>by
   show(cB (af a) (af x)&&(cB (af a) (af y)&&true))=true;rw[jQ,jQ];rfl
  simp[VP,Vp,ZE] at c;rcases c with rfl | rfl
  .exact one x
  .exact one y],(by
  show(if MySort.aU [(y:Int)] [(x:Int)] then [af y,af x] else [af x,af y])=_;rw[Kf]
  grind:iW _=[af (min x y),af (max x y)])]
theorem qr(k:Nat)(m1:1<=m)(m6:m<=6)(hz:ZI z):W (aj T (k + 4) jg [.z,.d (.tup [~~~m,t])]) z (λs z1=>ZI z1/\∃ l,s=.d (.tup (l.map af))/\bH m l) NE:=by
 have g2:bH m (ø m.toNat):=⟨by grind,WQ,λp hp=>by grind⟩
 refine zF hz    rfl rfl (-0) ?_
 refine(bN k 4 hz (-0) (-0)).imp λs z1 ⟨hz1,v,e,v1⟩=>?_
 subst e;refine EN (λρ z2=>z2=z1/\1 < m/\ρ=[↑.z,↑(.d (.tup [~~~m,t])),↑(.d (~~~v)),none]) ?_ ?_
 ·refine ib  (λh=>?_) λh=>?_
  ·refine(ae (kU (m:=m) ∅ ∅) ?_ :)
   exact⟨hz1,_,rfl,g2⟩
  ·refine ib (b:=m == 1) (λh=>?_) λh=>?_
   ·refine(ae (kU (m:=m) ∅ ∅) ?_ :)
    exact⟨hz1,_,rfl,g2⟩
   ·have h:=ne_of_beq_false h;exact⟨rfl,by omega,rfl⟩
 ·rintro ρ z2 ⟨rfl,hm,rfl⟩;refine ib (b:=(v:Int) == 2) (λh=>?_) λh=>?_
  ·refine(bN k m hz1 ∅ ∅).imp λs z3 ⟨hz3,a,e,ha⟩=>?_
   subst e;refine(bN k (m - 1) hz3 ∅ ∅).imp λs z4 ⟨hz4,b,e,hb⟩=>?_
   subst e;refine(ae (ql (i:=(a:Int) + 1 + b) (j:=m) ∅) ?_ :)
   have hq:0<=((a:Int) + 1 + b) % m/\((a:Int) + 1 + b) % m < m/\((a:Int) + 1 + b) % m≠a:=by
    refine⟨Y0 _ ∅,XY _ ∅,?_⟩
    by_cases h:(a:Int) + 1 + b < m
    ·rw[YR ∅ h];omega
    ·rw[show(a:Int) + 1 + b=((a:Int) + 1 + b - m) + m from by omega,Int.add_emod_right,YR ∅ ∅];omega
   generalize ((a:Int) + 1 + b) % m=q at hq ⊢;obtain⟨q,rfl⟩:=Xp hq.1;refine(ae (vX a q) ?_ :);refine⟨hz4,[min a q,max a q],rfl,⋯,?_,λp hp=>?_⟩
   ·refine .cons (λx hx=>?_) (.cons (λ_ h=>nomatch h) .nil);rw[Ë.mp hx];omega
   ·simp only[VP,Vp,ZE] at hp;rcases hp with rfl | rfl <;> omega
  ·refine(ae (kU (m:=m) ∅ ∅) ?_ :)
   refine ip (by rw[Ã,Vu];simp only[most];omega) (J0 (I:=ZI) (λx=>x) hz1 (λx hx z3 hz3=>?_) λys z3 hz3 hs=>?_)
   ·refine(bN k 2 hz3 (-0) (-0)).imp λs z4 ⟨hz4,a,e,a1⟩=>?_
    subst e;exact⟨hz4,(a:Int) == 1,rfl,λ_=>⟨rfl,rfl⟩⟩
   ·rw[YB,E2] at hs;obtain⟨l,rfl,hl⟩:=BO hs;cases l with
    |nil =>
     refine⟨hz3,[m.toNat - 1],?_,⋯,.cons (λ_ h=>nomatch h) .nil,λq hq=>by rw[Ë.mp hq];omega⟩
     show S.d (.tup [~~~(m - 1)])=S.d (.tup [~~~((m.toNat - 1:Nat):Int)]);rw[show(m - 1)=((m.toNat - 1:Nat):Int) by omega]
    |cons p r=>exact⟨hz3,p::r,rfl,⋯,List.Pairwise.sublist hl WQ,λq hq=>by have:=û.mp (hl.mem hq);omega⟩
section
variable (ps:Za)
abbrev tA(n:Nat):Nat:=(ps.getD n (0,0)).1.toNat
abbrev tB(n:Nat):Nat:=(ps.getD n (0,0)).2.toNat
def jR(mk:Zl)(n:Nat):Zl:=mk.map λx=>if x=mk.getD (tB ps n) 0 then mk.getD (tA ps n) 0 else x
def jq(m:Nat)(a:Zh):Zl:=a.foldl (jR ps) ((ø m).map λ(i:Nat)=>(i:Int))
def Nr(mk:Zl)(pl:Zh):Bool:=pl.all λp=>mk.getD p 0 == mk.getD (pl.getD 0 0) 0
def bE(m:Nat)(pl a:Zh):Bool:=Nr (jq ps m a) pl
variable {ps}
theorem vY(mk:Zl)(n:Nat):(jR ps mk n).length=mk.length:=Ã _
theorem step_get(h:x < mk.length):(jR ps mk n).getD x 0=if mk.getD x 0=mk.getD (tB ps n) 0 then mk.getD (tA ps n) 0 else mk.getD x 0:=by
 delta jR
 simp_all
theorem yc:(jq ps m a).length=m:=by
 delta jq
 rw[(by
  intro l
  induction l with
  |nil=>intro mk;rfl|cons n r c=>intro mk;rw[List.foldl_cons,c,vY]:∀ (l:Zh) (mk:Zl),(l.foldl _ mk).length=mk.length)];simp
theorem Dc(a:∀ n < ps.length,tA ps n < m/\tB ps n < m):∀ (c:Zh) (mk:Zl),mk.length=m->(∀ n∈c,n < ps.length) ->
  (∀ x y,x < m->y < m->mk.getD x 0=mk.getD y 0->(c.foldl (jR ps) mk).getD x 0=(c.foldl (jR ps) mk).getD y 0)/\(∀ n∈c,(c.foldl (jR ps) mk).getD (tA ps n) 0=(c.foldl (jR ps) mk).getD (tB ps n) 0) /\
  ∀ f:Nat->Int,(∀ x y,x < m->y < m->mk.getD x 0=mk.getD y 0->f x=f y)->(∀ n∈c,f (tA ps n)=f (tB ps n))->∀ x y,x < m->y < m->(c.foldl (jR ps) mk).getD x 0=(c.foldl (jR ps) mk).getD y 0->f x=f y:=by
 intro c
 induction c with
 |nil=>exact λmk _ _=>#[λ_ _ _ _ h=>h,(λ_ h=>nomatch h),λf h _=>h]
 |cons n r d =>
  intro mk g i;let(j,l):=a n (i n È);let(o,p,q):=d (jR ps mk n) (by rw[vY];exact g) λk s=>i k (Î _ s)
  have u:∀ x,x < m->(jR ps mk n).getD x 0=if mk.getD x 0=mk.getD _ 0 then mk.getD _ 0 else mk.getD x 0:=λx v=>step_get (_c v (_a g))
  refine#[λx y v w h=>o x y v w (by rw[u x v,u y w,h]),λk s=>?_,λf z A=>?_]
  .rcases ì.mp s with rfl | s
   .refine o _ _ j l ?_;rw[u _ j,u _ l,Zu rfl];split <;> rfl
   .exact p k s
  .refine q f (λx y v w h=>?_) λk s=>A k (Î _ s);have e:=A n È;rw[u x v,u y w] at h;split at h
   .rename_i B;have C:=z _ _ v l B;split at h
    .rename_i E;rw[C,z _ _ w l E]
    .rw[C,<-e];exact z _ _ j w h
   .split at h
    .rename_i E;rw[z _ _ w l E,<-e];exact z _ _ v j h
    .exact z _ _ v w h
theorem ye(h:x < m):(((ø m).map λ(i:Nat)=>(i:Int))).getD x 0=(x:Int):=by simp_all
theorem qt(a:∀ n < ps.length,tA ps n < m/\tB ps n < m){pl aJ:Zh}(c:∀ p∈pl,p < m)(d:∀ n∈aJ,n < ps.length):bE ps m pl aJ↔∀ f:Nat->Int,(∀ n∈aJ,f (tA ps n)=f (tB ps n))->∀ p∈pl,f p=f (pl.getD 0 0):=by
 let(_,g,j):=Dc a aJ ((ø m).map λ(i:Nat)=>(i:Int)) ⋯ d
 delta bE Nr
 rw[VT];constructor
 .intro h f o p l;refine j f (λx y s u e=>?_) o p _ (c p l) ((λp l=>by
  cases pl with
  |nil=>cases l
  |cons q r=>exact c q È) p l) (Zx.mp (h p l));rw[ye s,ye u] at e;rw[Int.ofNat_inj.mp e]
 .intro h p l;rw[Zx];exact h (λx=>(jq ps m aJ).getD x 0) g p l
theorem good_mono(c:∀ n < ps.length,tA ps n < m/\tB ps n < m){pl a b:Zh}(d:∀ p∈pl,p < m)(e:∀ n∈b,n < ps.length)(g:∀ n∈a,n∈b)(h:bE ps m pl a):bE ps m pl b=true :=
 (qt c d e).mpr λf i=>(qt c d λn j=>e n (g n j)).mp h f λn j=>i n (g n j)
end
section
variable (g:Zh->Bool) (c:Nat->Int × Int)
def jS(a:Zh):Int:=(a.map λn=>(c n).2).foldr (· * ·) 1
variable {g c}
theorem GJ(n:Nat)(r:Zh):jS c (n::r)=(c n).2 * jS c r:=rfl
def aW:Nat->⇑Zh
 |0=>[[]]|j + 1=>aW j++(aW j).map (·++[j])
theorem aT:∀ {j:Nat}{a:Zh},a∈aW j->∀ n∈a,n < j
 |0,a,h,n,d=>by rw[Ë.mp h] at d;cases d
 |j + 1,a,h,n,d=>by
  rcases Ð.mp h with h | h
  .exact Wa (aT h n d)
  .let(l,e,rfl):=Ç.mp h;rcases Ð.mp d with d | d
   .exact Wa (aT e n d)
   simp_all
end
theorem E3{it:It}{l:⇑S}(h:xF l):D6 it e l a=vc it e l a:=by delta D6;rw[h,vb];rfl
theorem gv:∀ l:Zh,de (l.map af)
 |[]=>rfl|_::r=>gv r
structure Row(x:D)(aJ:⇑Nat):Prop where
 sq:qW x=↑(aJ.map af)
 br:IJ x=true
theorem Row.t(a:Zh):Row (.tup (a.map af)) a:=#[rfl,gv a]
theorem Row.ba(h:Row x a):xF [.d x]:=by
 show(IJ x&&true)=true;rw[h.br];rfl
theorem zJ{mk:Zl}{a:Int}(c:0<=a)(h:a.toNat < mk.length):iP (.lst (mk.map D.int)) (~~~a)=↑(~~~(mk.getD a.toNat 0)):=by
 let(n,rfl):=Xp c;rw[Ì,ß h];exact mK (Mo h)
theorem Kg{a:Za}{n:Nat}(h:n < a.length):iP (.tup (a.map pr)) (~~~n)=↑(pr (a.getD n (0,0))):=by
 rw[Ì];exact J4 (by rw[å,ß h];rfl)
theorem getD_mem{a:Za}{n:Nat}(h:n < a.length):a.getD n (0,0)∈a:=by simp_all
theorem aR.Kh{ps:Za}(g:aR m ps):∀ n < ps.length,tA ps n < m.toNat/\tB ps n < m.toNat:=λn a=>by
 have:=g.tie _ (getD_mem a)
 omega
def Mv(a b:Int):D->D
 |~~~v=>~~~(if v=b then a else v)|x=>x
theorem Mw{F:FT}{z:Z}{mk:Zl}(a b:Int){Q:⇑D->Z->Prop}{E:Nat->Z->Prop}(q:Q ((mk.map λx=>if x=b then a else x).map D.int) z):W (turns (kQ (ev F .nil) (ev F (.ite (.cmp .eq (.var 0) (.var 2)) (.var 1) (.var 0))) (.v 0) [none,↑(.d (~~~a)),↑(.d (~~~b))]) (mk.map D.int)) z Q E:=by
 refine gO (Mv a b) (λx c=>?_) ?_
 .let(v,_,rfl):=Ç.mp c;refine ib (b:=v == b) (λh=>#[?_,rfl]) λh=>#[?_,rfl]
  .show D.int a= ~~~_
   simp_all
  .show D.int v= ~~~_
   simp_all
 .rw[(by rw[à,à];rfl:(mk.map D.int).map _=(mk.map _).map D.int)];exact q
theorem sC(k:Nat)(g:aR m c)(f:Row x h)(i:∀ n∈h,n < c.length)(z:Z):aj T (k + 3) vI [.d (cx m c),.d x] z=↑(.ok (.fr ((jq c m.toNat h).map D.int)) z):=by
 have j:=g.m6;have l:=g.m1;refine W.ok (aI    rfl rfl (-0) ?_)
 refine(ae  (kU ∅ ∅) ?_)
 apply ae  f.sq;refine eJ (λp q s=>s=z/\∃ (u:Zh) (mk:Zl) (v w A B C:Option S),p=u.map af/\(∀ n∈u,n < c.length)/\mk.length=m.toNat/\u.foldl _ mk=jq c m.toNat h/\q=[↑(.d (cx m c)),↑(.d x),↑(.d (~~~m)),↑(.d (.tup (c.map pr))),↑(.fr (mk.map D.int)),v,w,A,B,C]) _ #[rfl,h,_,none,none,none,none,none,rfl,i,⋯,rfl,(E3 f.ba).trans ?_] ?_ ?_
 .rw[<-J3];rfl
 .rintro y r q s ⟨rfl,u,mk,v,w,A,B,C,e,E,hm,hf,rfl⟩;cases u with
  |nil=>cases e
  |cons n u =>
   cases e;have F:=E n È;have G:=g.tie _ (getD_mem F);refine(ae (Kg F) ?_ :);refine(ae (zJ (mk:=mk) G.1 ∅) ?_ :)
   refine(ae (zJ (mk:=mk) (a:=(c.getD n (0,0)).2) ∅ ∅) ?_ :)
   refine ip (by rw[Ã];simp only[most];omega) (Mw _ _ ?_)
   exact#[rfl,u,_,_,_,_,_,_,rfl,λk H=>E k (Î _ H),by rw[vY];exact hm,hf,rfl]
 .rintro q s ⟨rfl,u,mk,v,w,A,B,C,e,E,hm,hf,rfl⟩;cases u with
  |nil=>exact sd (by rw[<-hf];rfl)|cons _ _=>cases e
section
variable {m:Int}{ps:Za}{pl aJ:Zh}
theorem E4{mk:Zl}{p:Nat}(h:p < mk.length):iP (.lst (mk.map D.int)) (~~~p)=↑(~~~(mk.getD p 0)):=zJ  (_e _) (by simp_all)
theorem zK(h:pl≠[]):iP (.tup (pl.map af)) (~~~0)=↑(af (pl.getD 0 0)):=by
 cases pl with
 |nil=>exact absurd rfl h|cons p r=>exact J4  rfl
theorem bH.p0(a:bH m pl):pl.getD 0 0 < m.toNat:=by
 have c:=a.lt;cases pl with
 |nil=>exact absurd rfl (a.ne)|cons p r=>simp_all
def Qi(mk:Zl)(p0:Nat):D->Bool
 |~~~p=>mk.getD p.toNat 0 == mk.getD p0 0|_=>false
theorem E5(l:Zh):(l.map af).all (Qi mk p0)=l.all λp=>mk.getD p 0 == mk.getD p0 0:=by rw[List.all_map];rfl
theorem jr(k:Nat)(g:aR m ps)(a:bH m pl)(c:Row x aJ)(e:∀ n∈aJ,n < ps.length)(z:Z):aj T (k + 4) g9 [.d (cx m ps),.d x,.d (.tup (pl.map af))] z=↑(.ok (.d (.bl (bE ps m.toNat pl aJ))) z):=by
 have f:=a.len g.m6;refine W.ok (aI    rfl rfl (-0) (Wo (sC k g c e z) ?_))
 have h:(jq ps m.toNat aJ).length=m.toNat:=yc;generalize i:jq ps m.toNat aJ=mk at h;refine ip (by grind) (gO _ (λy j=>?_) (ae (kH _ (Qi mk (pl.getD 0 0))) ?_ :))
 .let(p,l,rfl):=Ç.mp j;have:=a.lt p l;refine(ae (E4 (mk:=mk) (p:=p) ∅) ?_ :)
  refine(ae (zK a.ne) ?_ :);refine(ae (E4  (by rw[h];exact a.p0)) ?_ :)
  exact#[rfl,rfl]
 .refine sb (b:=(pl.map af).all (Qi mk (pl.getD 0 0))) ?_;rw[E5,<-i];rfl
theorem nJ(h:iA (.lst l)):fB .eq (.lst l) (.lst [])=↑l.isEmpty:=by
 show(if iA _&&iA _ then ↑_ else Oy _ _)=_;rw[h];cases l <;> rfl
theorem gH(l:Zh):iA (.lst (l.map af)):=by
 rw[(by rw[à];rfl:l.map af=(l.map _).map D.int)];exact GG _
end
def aq(l:Zh):D:=.tup (l.map af)
theorem dE:∀ {j:Nat}{a:Zh},a∈aW j->a.length<=j
 |0,a,h=>by rw[Ë.mp h];exact Ò _
 |j + 1,a,h=>by
  rcases Ð.mp h with h | h
  .exact Nat.le_succ_of_le (dE h)
  .let(l,c,rfl):=Ç.mp h;rw[vW];exact XC (dE c)
theorem qu:∀ j:Nat,(aW j).length=2 ^ j
 |0=>rfl
 |j + 1=>by
  show(aW j++(aW j).map _).length=_;rw[Ó,Ã,qu j];omega
theorem E6(h:j<=8):2 ^ j<=256:=Nat.pow_le_pow_right  (-0) h
theorem add_l(h:a.length + b.length<=1000):f9 .add (.lst a) (.lst b)=↑(.fr (a++b)):=by
 show(if a.length + b.length<=most then ↑_ else none)=_;rw[Zu (bU h)]
theorem iK(h:a.length + b.length<=1000):f9 .add (.tup a) (.tup b)=↑(.d (.tup (a++b))):=by
 show(if a.length + b.length<=most then ↑_ else none)=_;rw[Zu (bU h)]
def Sr(j:Nat):D->D
 |.tup l=>.tup (l++[af j])|x=>x
theorem Ki:((aW j).map aq).map (Sr j)=((aW j).map (·++[j])).map aq:=by
 rw[à,à];refine Vx λl _=>?_;show D.tup _=.tup _;rw[gV];rfl
theorem nK{n:Nat}(h:n < 100000):AX .rng1 [~~~n]=↑((range' 0 n).map af):=by
 rw[kU (_e _) (_p (_n h) (_E _)),WW];rfl
abbrev cf(cs:Za)(n:Nat):Int × Int:=cs.getD n (0,1)
theorem qv(a:∀ c∈cs,fU c)(h:n < cs.length):fU (cf cs n):=a _ (by rw[cf,Ì,ß h];exact V3 h)
theorem vZ(n:Nat):∀ l:Zh,memD (af n) (l.map af)=decide (n∈l)
 |[]=>rfl
 |x::r=>by
  show((x:Int) == (n:Int) || memD _ _)=_;rw[vZ n r,My,Wk,Zx,Zw,Zw]
  grind
theorem jT(l:Zh):f7 (l.map af):=by
 let(a,c):=nF _
 delta f7
 rw[(by rw[à];rfl:l.map af=(l.map _).map D.int),a,c];rfl
theorem hY{n:Nat}{l:Zh}:lI (af n) (l.map af)=↑(decide (n∈l)):=by
 delta lI
 rw[jT,vZ];rfl
theorem zM{n:Nat}(h:n < cs.length):iP (.tup (cs.map pr)) (~~~n)=↑(pr (cf cs n)):=by
 rw[cf,Ì];exact J4 (by rw[å,ß h];rfl)
section
variable {m:Int}{ps cs:Za}{pl:Zh}
theorem zN(g:aR m ps)(c:bH m pl):∀ a b:Zh,(∀ n∈b,n < ps.length)->(∀ n∈a,n∈b)->bE ps m.toNat pl a->bE ps m.toNat pl b:=λ_ _ d e h=>good_mono g.Kh (λp q=>by have:=c.lt p q;omega) d e h
end
section
variable {g:Zh->Bool}{c:Nat->Int × Int}
theorem ja:∀ {a:Zh},(∀ n∈a,fU (c n))->0 < jS c a/\jS c a<=2 ^ (10 * a.length)
 |[],_=>by show(0:Int) < 1/\(1:Int)<=1;omega
 |n::r,h=>by
  let(d,e):=ja λk f=>h k (Î _ f);let(c1,c2,_):=h n È;rw[GJ];refine#[mul_pos c1 d,?_]
  rw[ã,Nat.mul_add,pow_add,X4];exact mul_le_mul e ∅ (Vz c1) (VS (Vz d) e)
end
structure Fr(v:Int × Int)(t b:Int):Prop where
 t0:0<=v.1
 b0:0 < v.2
 one:gcd v.1 v.2=1
 eq:v.1 * b=v.2 * t
theorem Fr.bd(h:Fr v t b)(a:0 < b)(c:t<=b)(d:b<=2 ^ n):Bd n v:=by
 refine#[h.t0,?_,h.b0,?_]
 .refine Int.le_of_mul_le_mul_right  ?_ a;rw[h.eq];exact Xb c (Vz h.b0)
 .exact VS (le_of_dvd a (C8 h.one #[t,h.eq])) d
theorem GK(h0:0 < b):(dH t b).1 * b=(dH t b).2 * t:=by
 let(e1,e2):=ug  h0;generalize (dH t b).1=x at *
 generalize (dH t b).2=y at *
 generalize ((gcd t b:Nat):Int)=k at *
 rw[e1,e2]
 grind
def fq(k:Nat):⇑Zh:=(TS.sN k).map (TS.xy k 0)
theorem yf(h:k<=8):aW k=(ø (2 ^ k)).map (TS.xy k 0):=by
 exact (by decide +kernel:∀ k,k < 9->aW k=(ø _).map (TS.xy k 0)) k (_b h)
theorem nM(h:k<=8):(fq k).Perm (aW k):=by
 rw[yf h];exact(List.isPerm_iff.mp ((by decide +kernel:∀ k,k < 9->(TS.sN k).isPerm (ø _)=true) k (_b h))).map _
theorem P1(h:k<=8):(aW k).map aq=rR k:=by
 rw[yf h,à];rfl
theorem BP(h:k<=8):kO .sorted [.lst ((aW k).map aq)]=↑(.fr ((fq k).map aq)):=by
 rw[P1 h];show(if (rR k).length < 64/\bV _=true then ↑(S.fr _) else(qX _).map S.fr)=_;rw[Zv (λq=>by rw[(by decide +kernel:∀ k,k < 9->bV (rR k)=false) k (_b h)] at q;cases q.2)]
 unfold qX;rw[Zu ((by decide +kernel:∀ k,k < 9->yT (rR k)=true) k (_b h)),yW _ _ ((by decide +kernel:∀ k,k < 9->oy (lK (rR k)) (M0 k)=true) k (_b h))]
 show ↑(S.fr (M0 k))=↑(S.fr ((fq k).map aq));rw[fq,à];rfl
theorem mM{i:Nat}(hi:T[i]?=↑(.code 1 3 oK))(k:Nat){m:Int}{ts:⇑D}(h8:ts.length<=8)(z:Z):aj T (k + 3) i [.d (.tup [~~~m,.tup ts])] z=↑(.ok (.fr ((fq ts.length).map aq)) z):=by
 refine W.ok (aI    hi rfl (-0) ?_)
 refine(ae (nK (n:=ts.length) ∅) ?_ :)
 refine eJ (λxs ρ z1=>z1=z/\∃ (j r:Nat) (o2:Option S),j + r=ts.length/\xs=(range' j r).map af/\ρ=[↑(.d _),↑(.fr ((aW j).map aq)),o2]) _ #[rfl,0,ts.length,none,X6 _,rfl,rfl] ?_ ?_
 .rintro x r ρ z1 ⟨rfl,j,r',o2,hj,e,rfl⟩;cases r' with
  |zero=>cases e
  |succ r' =>
   cases e;have hp:=E6 (j:=j) ∅
   refine ip (by rw[Ã,qu];omega) (gO (Sr j) (λy hy=>?_) ?_)
   .let(l,hl,rfl):=Ç.mp hy;have:=dE hl;refine(ae (iK (a:=l.map af) (b:=[af j]) (by rw[Ã];show _ + 1<=_;omega)) ?_ :)
    exact#[rfl,rfl]
   .rw[Ki];refine(ae (add_l (a:=(aW j).map aq) (b:=((aW j).map (·++[j])).map aq) (by rw[Ã,Ã,Ã,qu];omega)) ?_ :)
    refine#[rfl,j + 1,r',↑(.d (af j)),by omega,rfl,?_]
    exact congrArg (λl=>[↑(S.d (.tup [~~~m,.tup ts])),↑(.fr l),↑(.d (af j))]) List.map_append.symm
 .rintro ρ z1 ⟨rfl,j,r',o2,hj,e,rfl⟩;cases r' with
  |zero =>
   have hj:j=ts.length:=hj;subst hj;refine(ae (BP h8) ?_ :);exact sd rfl
  |succ r'=>rw[List.range'_succ] at e;cases e
theorem jb(k:Nat)(a:ts.length<=8)(z:Z):aj T (k + 3) oH [.d (.tup [~~~m,.tup ts])] z=↑(.ok (.fr ((fq ts.length).map aq)) z):=mM rfl k a z
def bo:D->Zh
 |.tup l=>l.map λx=>match x with | ~~~i=>i.toNat | _=>0
 |_=>[]
theorem aH(l:Zh):bo (aq l)=l:=by
 show(l.map af).map _=l;rw[à];exact map_id l
theorem uh(h:k<=8)(a:c∈fq k):∀ n∈c,n < k:=aT ((nM h).mem_iff.mp a)
theorem eR(h:k<=8):(fq k).length<=256:=by rw[(nM h).length_eq,qu];exact E6 h
section
variable {m:Int}{ps cs:Za}{pl:Zh}
abbrev dM(m:Int)(ps:Za)(pl:Zh):⇑Zh:=(fq ps.length).filter (bE ps m.toNat pl)
theorem zO(k:Nat)(g:aR m ps)(a:bH m pl)(z:Z):aj T (k + 9) me [.d (cx m ps),.d (.tup (pl.map af))] z=↑(.ok (.fr ((dM m ps pl).map aq)) z):=by
 have c:=g.len;have e:=a.len g.m6;refine W.ok (aI    rfl rfl (-0) (Wo (cV k z g.Am) (Wo (eU _  z a.SO (Zy (by grind))) (Wo (jb _   (by simp_all) z) ?_))))
 rw[Ã];refine ip (by rw[Ã];exact bU (Í (eR c) (-0))) (gn (λx=>bE ps m.toNat pl (bo x)) id (λx f=>?_) ?_)
 .let(l,h,rfl):=Ç.mp f;refine Wo (jr _ g a (Row.t l) (uh c h) z) #[?_,rfl,λ_=>#[rfl,rfl]];rw[aH]
 .refine sd ?_;rw[map_id,VW];have:(fq ps.length).filter ((λx=>bE ps m.toNat pl (bo x)) ∘ aq)=dM m ps pl:=VG λl _=>by show bE ps m.toNat pl (bo (aq l))=_;rw[aH]
  rw[this]
end
def tl:Sm->Sm
 |.seq _ r=>r|s=>s
structure Bs(n:Nat)(c:Int × Int):Prop where
 t:c.1.natAbs<=2 ^ n
 b0:0 < c.2
 b:c.2.natAbs<=2 ^ n
theorem qw(h:n<=3999)(a:i<=2 ^ n):i < je:=VA a (Nat.pow_lt_pow_right (-0) (_b h))
theorem gS(h:n<=3999)(a:i.natAbs<=2 ^ n)(c:j.natAbs<=2 ^ n):f9 .mul (~~~i) (~~~j)=↑(.d (~~~(i * j))):=by
 show(if i.natAbs < je/\j.natAbs < je then ↑_ else none)=_;rw[Zu #[qw h a,qw h c]]
theorem E7(h:n<=3999)(a:i.natAbs<=2 ^ n):big i:=by
 have:=qw h a;show i < 2 ^ 4000;have e:((je:Nat):Int)=2 ^ 4000:=rfl;omega
theorem E8(a:0 < b):(dH t b).1.natAbs<=t.natAbs/\(dH t b).2.natAbs<=b.natAbs:=by
 let(c,d):=ug  a;have e:=hV (t:=t) a;generalize dH t b=v at *
 have h:=_S e
 constructor
 .rw[c,natAbs_mul];exact Nat.le_mul_of_pos_left _ h
 .rw[d,natAbs_mul];exact Nat.le_mul_of_pos_left _ h
theorem De(k:Nat)(a:Bs n c)(e:Bs n d)(f:n<=3999)(z:Z):aj T (k + 3) xT [.d (pr c),.d (pr d)] z=↑(.ok (.d (.bl (decide (c.1 * d.2 < d.1 * c.2)))) z):=by
 refine W.ok (aI    rfl rfl (-0) ?_)
 refine(ae (gS f a.t e.b) ?_ :);refine(ae (gS f e.t a.b) ?_ :);exact sd rfl
def Ss:Zs->D
 |none=>.cq|↑i=>af i
abbrev lf(l:Za)(i:Nat):Int × Int:=l.getD i (0,1)
def fg(l:Za):Nat->Zs
 |0=>none
 |j + 1=>match fg l j with
  |none=>↑j|↑i=>if (lf l i).1 * (lf l j).2 < (lf l j).1 * (lf l i).2 then ↑j else ↑i
set_option tactic.hygienic true in
theorem sD:∀ {j i:Nat},fg l j=↑i->i < j
 |j + 1,i,h=>by
  unfold fg at h;split at h
  .cases h;exact Xs _
  .rename_i a e;have:=sD e
   grind
theorem Kj(h:i < l.length):lf l i∈l:=by rw[lf,Ì,ß h];exact V3 h
theorem P2{i:Nat}(h:i < l.length):iP (.lst (l.map pr)) (~~~i)=↑(pr (lf l i)):=by
 rw[lf,Ì];exact mK (by rw[å,ß h];rfl)
theorem E9(h:j < l.length):(l.drop j).map pr=pr (lf l j)::(l.drop (j + 1)).map pr:=by
 rw[VI h,lf,Ì,ß h];rfl
theorem dN(k:Nat){n:Nat}(a:∀ c∈l,Bs n c)(f:n<=3999)(z:Z):aj T (k + 4) gp [.d (.lst (l.map pr))] z=↑(.ok (.d (Ss (fg l l.length))) z):=by
 refine W.ok (aI    rfl rfl (-0) ?_)
 refine eJ (λg m o=>o=z/\∃ (j:Nat) (p q:Option S),j<=l.length/\g=iB ((l.drop j).map pr) j/\m=[↑(.d _),↑(.d (Ss (fg l j))),p,q]) _ #[rfl,0,none,none,Wg _,rfl,(E3 (by show(de _&&true)=true;rw[vV];rfl)).trans rfl] ?_ ?_
 .rintro x r m o ⟨rfl,j,p,q,s,e,rfl⟩;by_cases h:j < l.length
  .rw[E9 h] at e;cases e;cases u:fg l j with
   |none=>exact#[rfl,j + 1,_,_,h,rfl,by rw[fg,u];rfl]
   |some i =>
    have v:=sD u;refine(ae (P2   (Ñ v (so h))) ?_ :)
    refine Wo (De k (a _ (Kj (Ñ v (so h)))) (a _ (Kj h)) f o) (ib  (λw=>?_) λw=>?_)
    .rw[Zw] at w;exact#[rfl,j + 1,_,_,h,rfl,by rw[fg,u];simp only[Zu w];rfl]
    .rw[ZD] at w;exact#[rfl,j + 1,_,_,h,rfl,by rw[fg,u];simp only[Zv w];rfl]
  .rw[List.drop_eq_nil_of_le (Y9 h)] at e;cases e
 .rintro m o ⟨rfl,j,p,q,s,e,rfl⟩;by_cases h:j < l.length
  .rw[E9 h] at e;cases e
  .have s:j=l.length:=_m s (Y9 h)
   subst s;exact sd rfl
structure Rt(v:Int × Int)(t b:Int):Prop where
 b0:0 < v.2
 one:gcd v.1 v.2=1
 eq:v.1 * b=t * v.2
theorem Rt.low{t b:Int}(a:0 < b):Rt (dH t b) t b:=#[zG a,E0 a,by rw[GK a,X4]]
theorem Rt.conv{t b c d:Int}(h:Rt v t b)(f:0 < b)(e:t * d=c * b):Rt v c d:=by
 refine#[h.b0,h.one,Int.eq_of_mul_eq_mul_right (a:=b) ∅ ?_]
 have:=h.eq
 grind
theorem Rt.eqv{t b:Int}(c:Rt v t b)(hw:Rt w t b)(d:0 < b):v=w:=by
 let(a,h):=C9 c.b0 hw.b0 c.one hw.one (by
  have f:=c.eq;have g:=hw.eq;apply Int.eq_of_mul_eq_mul_right (a:=b) ∅
  grind);exact Prod.ext a h
theorem Rt.mul{t b a c:Int}(d:Rt v t b)(hw:Rt w a c):Rt (dH (v.1 * w.1) (v.2 * w.2)) (t * a) (b * c):=by
 have y:=mul_pos d.b0 hw.b0;apply(Rt.low y).conv y;calc v.1 * w.1 * (b * c)=(v.1 * b) * (w.1 * c):=by grind
  _=t * a * (v.2 * w.2):=by rw[d.eq,hw.eq];grind
theorem fU.rt(h:fU c):Rt c c.1 c.2:=#[by exact (h.1),h.2.2.2.2,rfl]
theorem Rt.pos{v:Int × Int}{t b:Int}(h:Rt v t b)(a:0 < b)(c:0<=t):0<=v.1:=by
 have:=mul_nonneg c (Vz h.b0);rw[<-h.eq] at this;exact Int.nonneg_of_mul_nonneg_left this a
theorem ui{l:Za}:∀ {j:Nat},0 < j->∃ i,fg l j=↑i
 |j + 1,_=>by
  unfold fg;split
  .exact#[_,rfl]
  .split <;> exact#[_,rfl]
section
variable {g:Zh->Bool}{c:Nat->Int × Int}
def jt(l:Zl):Int:=l.foldr (· * ·) 1
theorem qx:∀ a b:Zl,jt (a++b)=jt a * jt b
 |[],b=>(one_mul _).symm|x::a,b=>by show x * jt (a++b)=x * jt a * jt b;rw[qx a b,mul_assoc]
def qy(c:Nat->Int × Int)(L:Zh):Int:=jt (L.map λn=>(c n).1)
def iQ(c:Nat->Int × Int)(p:⇑Zh):Int:=jt (p.map (jS c))
def qz(c:Nat->Int × Int)(p:⇑Zh):Int:=jt (p.map λL=>jS c L - qy c L)
theorem BQ{n:Nat}{L:Zh}(h:n ∉ L):L.filter (· != n)=L:=List.filter_eq_self.mpr λk a=>by
 simpa using (λe=>h (e ▸ a):k≠n)
def Dj(p:⇑Zh):Prop:=p.Pairwise (λL M=>∀ n∈L,n ∉ M)/\∀ L∈p,L.Nodup
theorem Fb{n:Nat}{L:Zh}(a:L.Nodup)(h:n∈L):L.Perm (n::L.filter (· != n)) :=
 (W3 a (Xi.mpr #[λq=>by simp_all,a.sublist Xv])).mpr λk=>by
  rw[VP,YU];constructor
  .intro d;by_cases e:k=n
   .exact .inl e
   simp_all
  .rintro (rfl | ⟨d,_⟩)
   .exact h
   .exact d
def lj(c:Nat->Int × Int)(n:Nat):Int × Int:=((c n).2 - (c n).1,(c n).2)
end
def cW(j:Nat)(a:Zh):Zh:=(ø j).filter λn=>!a.contains n
section
variable {m:Int}{ps cs:Za}{pl:Zh}
theorem kI{j n:Nat}(h:n∈cW j a):n < j:=û.mp (Xj.mp h).1
theorem xc(k:Nat)(c:ps.length<=8)(e:Zh)(z:Z):aj T (k + 3) km [.d (cx m ps),.d (aq e)] z=↑(.ok (.d (aq (cW ps.length e))) z):=by
 refine W.ok (aI    rfl rfl (-0) ?_)
 refine(ae  (nK (n:=(ps.map pr).length) (by rw[Ã];exact VA c (_F (_v _)))) ?_ :)
 refine ip (by grind) (gn (λx=>match x with | ~~~i=>!e.contains i.toNat | _=>false) id (λx f=>?_) ?_)
 .let(n,g,rfl):=Ç.mp f;refine(ae (o:=(lI _ _).map _) (a:=!e.contains n) (by rw[hY,YS];rfl) ?_ :)
  exact#[rfl,rfl,λ_=>#[rfl,rfl]]
 .rw[map_id,VW];refine sd ?_;rw[Ã,<-WW];rfl
theorem yg(k:Nat)(g:aR m ps)(a:bH m pl)(c:Zh)(z:Z):aj T (k + 5) BE [.d (cx m ps),.d (aq c),.d (.tup (pl.map af))] z=↑(.ok (.d (.bl (!bE ps m.toNat pl (cW ps.length c)))) z):=by
 refine W.ok (aI    rfl rfl (-0) (Wo (xc _ g.len c z) (Wo (jr k g a (Row.t _) (λn e=>kI e) z) ?_)))
 exact sd rfl
abbrev fu(m:Int)(ps:Za)(pl:Zh):⇑Zh:=(fq ps.length).filter λl=>!bE ps m.toNat pl (cW ps.length l)
theorem Mx(k:Nat)(g:aR m ps)(a:bH m pl)(z:Z):aj T (k + 9) C3 [.d (cx m ps),.d (.tup (pl.map af))] z=↑(.ok (.fr ((fu m ps pl).map aq)) z):=by
 have c:=g.len;have e:=a.len g.m6;refine W.ok (aI    rfl rfl (-0) (Wo (cV k z g.Am) (Wo (eU _  z a.SO (Zy (by grind))) (Wo (jb _   (by simp_all) z) ?_))))
 rw[Ã];refine ip (by rw[Ã];exact bU (Í (eR c) (-0))) (gn (λx=>!bE ps m.toNat pl (cW ps.length (bo x))) id (λx f=>?_) ?_)
 .let(l,h,rfl):=Ç.mp f;refine Wo (yg _ g a l z) #[?_,rfl,λ_=>#[rfl,rfl]];rw[aH]
 .refine sd ?_;rw[map_id,VW];have:(fq ps.length).filter ((λx=>!bE ps m.toNat pl (cW ps.length (bo x))) ∘ aq)=fu m ps pl:=VG λl _=>by show(!bE ps m.toNat pl (cW ps.length (bo (aq l))))=_;rw[aH]
  rw[this]
end
theorem cz:∀ {j:Nat}{c:Zh},c∈aW j->c.Pairwise (· < ·)
 |0,c,h=>by
  have :=by simpa [aW] using h
  subst this;exact .nil
 |j + 1,c,h=>by
  rcases Ð.mp (show c∈aW j++(aW j).map _ from h) with h | h
  .exact cz h
  .let(x,d,rfl):=Ç.mp h;rw[ê];refine#[cz d,VV _ _,λa e b f=>?_];rw[Ë] at f;subst f;exact aT d a e
theorem BR:∀ a:Zl,iV (a.map D.int)=↑a
 |[]=>rfl
 |n::r=>by
  show(iV _).map _=_;rw[BR r];rfl
section
variable {m:Int}{ps cs:Za}
theorem bO:∀ a:⇑Zh,de (a.map aq)
 |[]=>rfl
 |l::r=>by
  show(de _&&de _)=true;rw[bO r,gv l];rfl
end
theorem mO:∀ {K:Nat}{l:Zh},l.Pairwise (· < ·)->(∀ n∈l,n < K)->l∈aW K
 |0,l,_,h=>by
  cases l with
  |nil=>exact Ë.mpr rfl|cons a r=>exact absurd (h a È) (Yq _)
 |K + 1,l,c,h=>by
  by_cases d:K∈l
  .let(s,t,rfl):=List.append_of_mem d;rw[ê] at c;let(e,p2,f):=c;have g:t=[]:=by
    cases t with
    |nil=>rfl
    |cons b r =>
     have i:=List.rel_of_pairwise_cons p2 È;have j:=h b (Ô _ (Î _ È));omega
   subst g;refine Ô _ (Ç.mpr #[s,mO e λn k=>f n k K È,rfl])
  .refine ä _ (mO c λn k=>?_)
   grind
theorem BS(h:l∈aW K)(i:Nat):l.eraseIdx i∈aW K :=
 mO ((cz h).sublist (eraseIdx_sublist ..)) λn a=>aT h n ((eraseIdx_sublist ..).mem a)
def wa(l:Zh):⇑Zh:=(ø l.length).map l.eraseIdx
def bW(a:⇑Zh):⇑Zh:=a.filter λl=>!(wa l).any λx=>a.contains x
theorem yh(h:x∈bW ls):x∈ls:=(Xj.mp h).1
section
variable {m:Int}{ps cs:Za}{pl:Zh}
theorem iM(g:aR m ps):l∈dM m ps pl↔l∈aW ps.length/\bE ps m.toNat pl l:=by
 rw[YU,(nM g.len).mem_iff]
theorem ig(g:aR m ps):l∈fu m ps pl↔l∈aW ps.length/\bE ps m.toNat pl (cW ps.length l)=false:=by
 rw[YU,(nM g.len).mem_iff,ò]
theorem uj:n∈cW K l↔n < K/\n ∉ l:=by
 delta cW
 simp_all
end
def subB(o l:Zh):Bool:=o.all λn=>decide (n∈l)
def mP(a:⇑Zh):⇑Zh:=a.filter λl=>(a.filter λo=>decide (o≠l)&&subB o l).isEmpty
theorem rE:subB o l↔∀ n∈o,n∈l:=by
 delta subB
 simp_all
theorem zP{a b:Zh}(c:a.Pairwise (· < ·))(d:b.Pairwise (· < ·))(e:∀ n∈a,n∈b)(f:∀ n∈b,n∈a):a=b:=by
 have p:=(W3 (c.imp λh=>Û h) (d.imp λh=>Û h)).mpr λn=>#[e n,f n];exact p.eq_of_pairwise  (λx y _ _ e f=>absurd e (Nat.not_lt.mpr (so f))) c d
theorem oQ(c:∀ l∈ls,l∈aW K)(d:∀ a b,b∈aW K->a∈ls->(∀ n∈a,n∈b)->b∈ls):mP ls=bW ls:=by
 refine VG λl h=>?_;rw[My,YZ,XE,ò,List.any_eq_false];constructor
 .intro q x g m;let(i,p,rfl):=Ç.mp g;have p:=û.mp p;apply q _ (VN.mp m);rw[Á,Zw];refine#[λe=>?_,rE.mpr λn r=>(eraseIdx_sublist ..).mem r]
  grind
 .intro q o s u;rw[Á,Zw] at u;let(ne,hs):=u;have hs:=rE.mp hs;let(n,r,w):=(by
   apply Xu;intro v;refine ne (zP (cz (c o s)) (cz (c l h)) hs λn r=>?_)
   simp_all:∃ n∈l,n ∉ o);let(i,p,rfl):=Vv.mp r;refine q _ (Ç.mpr #[i,û.mpr p,rfl]) (VN.mpr (d o _ (BS (c l h) i) s λk y=>?_));let(j,A,e):=Vv.mp (hs k y);rw[List.mem_eraseIdx_iff_getElem];exact#[j,A,λz=>w (by simp_all),e]
section
variable {m:Int}{ps:Za}{pl:Zh}
theorem Fc(g:aR m ps)(c:bH m pl):mP (dM m ps pl)=bW (dM m ps pl) :=
 oQ (λl h=>((iM g).mp h).1) λa b d e h=>(iM g).mpr #[d,zN g c a b (aT d) h ((iM g).mp e).2]
theorem Fd(g:aR m ps)(c:bH m pl):mP (fu m ps pl)=bW (fu m ps pl) :=
 oQ (λl h=>((ig g).mp h).1) λa b d f h=>(ig g).mpr #[d,by
  cases e:bE ps m.toNat pl _ with
  |false=>rfl
  |true =>
   have:=zN g c _ _ (λn i=>kI i) (λn i=>uj.mpr #[kI i,λz=>(uj.mp i).2 (h n z)]) e
   simp_all]
end
def wH(p:⇑Zh):Bool:=decide p.flatten.Nodup
def sE(P:⇑⇑Zh)(L:Zh):⇑⇑Zh:=if L.isEmpty then P else P++(P.filter λp=>wH (p++[L])).map (·++[L])
def bR(ls:⇑Zh):⇑⇑Zh:=ls.foldl sE [[]]
structure Pa(ls p:⇑⇑Nat):Prop where
 sub:p.Sublist ls
 ne:[] ∉ p
 nd:p.flatten.Nodup
theorem nO{p:⇑Zh}:p.flatten.Nodup↔Dj p:=by
 delta List.Nodup Dj
 rw[List.pairwise_flatten];constructor
 .rintro ⟨a,b⟩;exact#[b.imp λh n c d=>h n c n d rfl,a]
 .rintro ⟨a,b⟩;exact#[b,a.imp λh n c k d e=>by simp_all]
theorem Fe(h:∀ p∈P,Pa a p):∀ p∈sE P L,Pa (a++[L]) p:=λp c=>by
 have d:∀ p∈P,Pa (a++[L]) p:=λp c=>#[(h p c).sub.trans (Wc _ _),(h p c).ne,(h p c).nd]
 delta sE at c
 split at c
 .exact d p c
 .rcases Ð.mp c with q | q
  .exact d p q
  .let(e,f,rfl):=Ç.mp q;let(g,i):=Xj.mp f;refine#[(h e g).sub.append (List.Sublist.refl _),λz=>?_,ZA i];rcases Ð.mp z with z | z
   .exact(h e g).ne z
   simp_all
theorem zQ:∀ (a c:⇑Zh) (P:⇑⇑Zh),(∀ p∈P,Pa c p)->∀ p∈a.foldl sE P,Pa (c++a) p
 |[],c,P,h,p,d=>by simp_all
 |L::a,c,P,h,p,d=>by
  have:=zQ a _ _ (Fe h) p d
  simp_all
theorem fN{ls p:⇑Zh}(h:p∈bR ls):Pa ls p:=zQ ls [] _ (λp a=>by rw[Ë.mp a];exact#[.refl _,(λq=>nomatch q),.nil]) p h
theorem Nt(h:∀ p∈P,Pa c p)(d:L ∉ c)(f:P.Nodup):(sE P L).Nodup:=by
 delta sE
 split
 .exact f
 .refine Y3.mpr #[f,?_,λa g b i e=>?_]
  .delta List.Nodup
   rw[W8];exact(f.sublist Xv).imp λh e=>h (List.append_cancel_right e)
  .let(j,k,rfl):=Ç.mp i;subst e;exact d ((h _ g).sub.subset (Ô _ È))
theorem zR:∀ (a c:⇑Zh) (P:⇑⇑Zh),(∀ p∈P,Pa c p)->(c++a).Nodup->P.Nodup->(a.foldl sE P).Nodup
 |[],_,_,_,_,d=>d
 |L::a,c,P,h,e,d=>by
  refine zR a _ _ (Fe h) (by simp_all) (Nt h (λq=>?_) d)
  exact(Y3.mp e).2.2 L q L È rfl
theorem Kk(h:ls.Nodup):(bR ls).Nodup:=zR ls [] _ (λp a=>by rw[Ë.mp a];exact#[.refl _,(λq=>nomatch q),.nil]) h ⋯
theorem rF:∀ (a:⇑Zh) (t:⇑⇑Zh),∃ c,a.foldl sE ([]::t)=[]::c
 |[],t=>#[t,rfl]
 |L::a,t=>by
  show ∃ c,a.foldl sE _=_
  delta sE
  split
  .exact rF a t
  .exact rF a _
theorem Kl(a:⇑Zh):∃ t,bR a=[]::t:=rF a []
def P4:Nat->⇑Zh
 |0=>[[]]|n + 1=>(P4 n).flatMap λl=>((ø (n + 2)).filter λv=>v == 0 || (v == n + 1 || l.contains v)).map λv=>l++[v]
theorem Nu(h:n<=8):(P4 n).length<=21147:=by
 have:∀ n,n < 9->(P4 n).length<=21147:=by decide +kernel
 exact this n (_b h)
theorem zS(f:Nat->Nat):∀ n:Nat,(∀ i < n,f i<=i + 1/\(f i=0\/f i=i + 1\/∃ j < i,f j=f i))->(ø n).map f∈P4 n
 |0,_=>È
 |n + 1,h=>by
  rw[range_succ,gV];let(a,c):=h n (Xs _)
  refine List.mem_flatMap.mpr #[_,zS f n λi d=>h i (_w _ d),Ç.mpr #[f n,Xj.mpr #[û.mpr (_b a),?_],rfl]]
  simp_all
def fO(p:⇑Zh)(i:Nat):Nat:=match p.find? (·.contains i) with
 |↑L=>L.headD 0 + 1|none=>0
theorem zT{p:⇑Zh}(d:Dj p){L M:Zh}(c:L∈p)(e:M∈p)(f:i∈L)(g:i∈M):L=M:=by
 let(a,h,rfl):=Vv.mp c;let(b,j,rfl):=Vv.mp e;have k:=List.pairwise_iff_getElem.mp d.1;rcases Nat.lt_trichotomy a b with q | q | q
 .exact absurd g (k a b h j q i f)
 .subst q;rfl
 .exact absurd f (k b a j h q i g)
theorem code_at{p:⇑Zh}(d:Dj p)(a:L∈p)(c:i∈L):fO p i=L.headD 0 + 1:=by
 delta fO
 cases e:p.find? _ with
 |none=>simp_all
 |some M =>
  have g :=YK  e;rw[zT d (WY e) a (VN.mp g) c]
theorem uk{L:Zh}(h:L.Pairwise (· < ·)){i:Nat}(a:i∈L):L.headD 0<=i/\L.headD 0∈L:=by
 cases L with
 |nil=>cases a
 |cons x r =>
  refine#[?_,È];rcases ì.mp a with rfl | q
  .exact Ò _
  .exact so ((V5.mp h).1 i q)
theorem qA{c:Type}[BEq c][LawfulBEq c]:∀ {d p:⇑c},p.Sublist d->d.Nodup->d.filter (λx=>p.contains x)=p
 |_,_,.slnil,_=>rfl
 |_,_,.cons a   h,f=>by
  let(g,i):=Xi.mp f;rw[Yt,Zv (by simpa using λq=>g (h.subset q))]
  exact qA h i
 |_,_,.cons_cons a (l₁:=p) (l₂:=r) h,f=>by
  let(g,i):=Xi.mp f;rw[Yt,Zu ⋯]
  congr 1
  rw[(VG λx j=>by
   rw[My,VR,VR,VP];exact#[λq=>q.resolve_left λz=>g (z ▸ j),.inr]:r.filter _=r.filter λx=>p.contains x)];exact qA h i
theorem code_inj{c p q:⇑Zh}(d:∀ L∈c,L∈aW K)(f:c.Nodup)(g:Pa c p)(h:Pa c q)(e:(ø K).map (fO p)=(ø K).map (fO q)):p=q:=by
 have j:∀ i < K,fO p i=fO q i:=λi k=>by simp_all
 have one:∀ {p q:⇑_},Pa c p->Pa c q->(∀ i < K,fO p i=fO q i)->∀ L∈p,L∈q:=λ{p q} g h j L l=>by
  have m:=nO.mp g.nd;have o:=nO.mp h.nd;have s:=d L (g.sub.subset l);obtain⟨x,r,rfl⟩:∃ x r,L=x::r:=by
   cases L with
   |nil=>exact absurd l g.ne|cons x r=>exact#[x,r,rfl]
  have c2:fO q x=x + 1:=by rw[<-j x (aT s x È),code_at m l  È];rfl
  delta fO at c2
  cases v:q.find? _ with
  |none=>rw[v] at c2;cases c2
  |some M =>
   rw[v] at c2;have c2:M.headD 0 + 1=x + 1:=c2;have w:=WY v;have y :=VN.mp (YK (p:=λL:Zh=>L.contains x) v);have z:=d M (h.sub.subset w);have same :=zP (cz z) (cz s) (λn A=>?_) λn A=>?_
   .exact same ▸ w
   .have a:=code_at o w A;rw[<-j n (aT z n A),c2] at a
    delta fO at a
    cases B:p.find? _ with
    |none=>rw[B] at a;cases a
    |some O =>
     rw[B] at a;have a:O.headD 0 + 1=x + 1:=a;have C:=WY B;have E:n∈O:=VN.mp (YK (p:=λL:Zh=>L.contains n) B);have F:=(uk (cz (d O (g.sub.subset C))) E).2;rw[show O.headD 0=x by omega] at F
     exact zT m C l F È ▸ E
   .have a:=code_at m l A;rw[j n (aT s n A)] at a;have a:fO q n=x + 1:=a
    delta fO at a
    cases B:q.find? (·.contains n) with
    |none=>rw[B] at a;cases a
    |some O =>
     rw[B] at a;have a:O.headD 0 + 1=x + 1:=a;have C:=WY B;have E:n∈O:=VN.mp (YK (p:=λL:Zh=>L.contains n) B);have F:=(uk (cz (d O (h.sub.subset C))) E).2;rw[show O.headD 0=x by omega] at F
     exact zT o C w F y ▸ E
 rw[<-qA g.sub f,<-qA h.sub f];refine VG λL _=>?_;rw[My,VR,VR];exact#[one g h j L,one h g (λi k=>(j i k).symm) L]
theorem wb{ls:⇑Zh}(a:K<=8)(c:∀ L∈ls,L∈aW K)(d:ls.Nodup):(bR ls).length<=21147:=by
 have h:((bR ls).map λp=>(ø K).map (fO p)).length<=(P4 K).length:=by
  refine VE ?_ λx f=>?_
  .delta List.Nodup
   rw[W8];exact(Kk d).imp_of_mem λg j n e=>n (code_inj c d (fN g) (fN j) e)
  .let(p,k,rfl):=Ç.mp f;refine zS _ K λi _=>?_;have l:=nO.mp (fN k).nd;cases m:p.find? _ with
   |none =>
    have e:fO p i=0:=by delta fO;rw[m]
    grind
   |some O =>
    have o:=WY m;have r :=VN.mp (YK (p:=λL:Zh=>L.contains i) m);let(s,u):=uk (cz (c O ((fN k).sub.subset o))) r;have e:=code_at l o r;refine#[Í (WA e) (XC s),.inr ?_]
    by_cases q:O.headD 0=i
    .exact .inl ∅
    .exact .inr #[O.headD 0,VU s q,by rw[e,code_at l o u]]
 rw[Ã] at h;exact Í h (Nu a)
def zU:D->Nat
 |~~~i=>i.toNat|_=>0
theorem Km(l:⇑D)(p:D->Bool):kO .any [.lst (l.map λx=>D.bl (p x))]=↑(.d (.bl (l.any p))):=by
 have:∀ l:⇑D,(l.map λx=>D.bl (p x)).mapM lJ=↑(l.map p):=λl=>by
  induction l with
  |nil=>rfl
  |cons x r a =>
   rw[Xc,mapM_cons,a];rfl
 show((l.map _).mapM lJ).map _=_
 simp_all
theorem Mz{l:Zh}{i:Nat}(h:i < l.length):cutD (l.map af) none ↑(i:Int)++cutD (l.map af) ↑((i:Int) + 1) none=(l.eraseIdx i).map af:=by
 rw[rD _ (_e _),WO,show((i:Int) + 1)=((i + 1:Nat):Int) by omega,iJ,List.eraseIdx_eq_take_drop_succ,gV,map_take,map_drop]
theorem MA{l:Zh}{i:Nat}(a:l.length<=8)(h:i < l.length):f9 .add (.tup (cutD (l.map af) none ↑(i:Int))) (.tup (cutD (l.map af) ↑((i:Int) + 1) none))=↑(.d (aq (l.eraseIdx i))):=by
 have c:(cutD (l.map af) none ↑(i:Int)).length<=8:=by rw[rD _ (_e _),õ,Ã];exact Í (_j _ _) a
 have e:(cutD (l.map af) ↑((i:Int) + 1) none).length<=8:=by rw[show((i:Int) + 1)=((i + 1:Nat):Int) by omega,iJ,Vq,Ã];exact Í (_o _ _) a
 rw[iK ∅,Mz h];rfl
theorem kX(k:Nat)(a:l.length<=8)(z:Z):aj T (k + 3) md [.d (aq l)] z=↑(.ok (.fr ((wa l).map aq)) z):=by
 refine W.ok (aI    rfl rfl (-0) ?_)
 refine(ae  (nK (n:=(l.map af).length) (by rw[Ã];exact VA a (_F (_v _)))) ?_ :)
 rw[show(l.map af).length=l.length from Ã _];refine ip (by rw[Ã,List.length_range'];exact bU (Í a (_d (VH _)))) (gO (λx=>aq (l.eraseIdx (zU x))) (λx c=>?_) ?_)
 .let(i,e,rfl):=Ç.mp c;have e :=by rw[<-WW] at e;exact û.mp e
  refine(ae (MA a e) ?_ :);exact#[rfl,rfl]
 .refine sd ?_;rw[à,<-WW]
  delta wa
  rw[à];rfl
def mQ(l:Zh):Zl:=l.map λ(n:Nat)=>(n:Int)
theorem wc(l:Zh):F7 (aq l)=↑(mQ l):=by
 show iV _=_;rw[(by delta mQ;rw[à];rfl:l.map af=(mQ l).map D.int),BR]
theorem rG:∀ a:⇑Zh,D5 (a.map aq)=↑(a.map mQ)
 |[]=>rfl
 |l::r=>by
  show(F7 _).bind _=_;rw[wc,rG r];rfl
theorem Kn{a b:Zh}(h:mQ a=mQ b):a=b:=by
 have:∀ l ,(mQ l).map Int.toNat=l:=λl=>by
  delta mQ
  rw[à];exact map_id l
 rw[<-this a,h,this b]
theorem BU(a:⇑Zh)(l:Zh):(a.map mQ).contains (mQ l)=a.contains l:=by
 rw[My,VR,VR,Ç];exact#[λ#[x,c,e]=>Kn e ▸ c,λh=>#[l,h,rfl]]
theorem sF(k:Nat)(a:ls.length<=256)(c:∀ l∈ls,l.length<=8)(z:Z):aj T (k + 4) kn [.d (.lst (ls.map aq))] z=↑(.ok (.fr ((bW ls).map aq)) z):=by
 refine W.ok (aI    rfl rfl (-0) ?_)
 refine(ae   (rG ls) ?_ :);refine ip (by grind) (gn (λx=>!(wa (bo x)).any λy=>ls.contains y) id (λx e=>?_) ?_)
 .let(l,f,rfl):=Ç.mp e;have g:=c l f;apply Wo (kX k g z);refine ip (by delta wa;grind) (gO (λy=>.bl (ls.contains (bo y))) (λy h=>?_) ?_)
  .let(x,_,rfl):=Ç.mp h;refine(ae (wc x) ?_ :);refine#[?_,rfl];rw[BU,aH];cases ls.contains x <;> rfl
  .refine(ae (Km _ λy=>ls.contains (bo y)) ?_ :);refine#[?_,rfl,λ_=>#[rfl,rfl]];rw[any_map,aH]
   congr 4
   funext y
   show ls.contains (bo (aq y))=_;rw[aH]
 .refine sd ?_;rw[map_id,VW];have:ls.filter ((λx=>!(wa (bo x)).any λy=>ls.contains y) ∘ aq)=bW ls:=VG λl _=>by show(!(wa (bo (aq l))).any λy=>ls.contains y)=_;rw[aH]
  rw[this]
section
variable {m:Int}{ps:Za}{pl aJ:Zh}
theorem Dg(g:aR m ps):(dM m ps pl).length<=256:=Í (Wb _ _) (eR g.len)
theorem Ko(g:aR m ps):(fu m ps pl).length<=256:=Í (Wb _ _) (eR g.len)
theorem rH(g:aR m ps)(h:l∈aW ps.length):l.length<=8:=Í (dE h) g.len
theorem oa(k:Nat)(g:aR m ps)(a:bH m pl)(z:Z):aj T (k + 10) ko [.d (cx m ps),.d (.tup (pl.map af))] z=↑(.ok (.fr ((bW (dM m ps pl)).map aq)) z) :=
 W.ok (aI    rfl rfl (-0) (Wo (zO k g a z) (Wo (sF _ (Dg g) (λl c=>rH g ((iM g).mp c).1) z) (sd rfl))))
theorem og(k:Nat)(g:aR m ps)(a:bH m pl)(z:Z):aj T (k + 10) kq [.d (cx m ps),.d (.tup (pl.map af))] z=↑(.ok (.fr ((bW (fu m ps pl)).map aq)) z) :=
 W.ok (aI    rfl rfl (-0) (Wo (Mx k g a z) (Wo (sF _ (Ko g) (λl c=>rH g ((ig g).mp c).1) z) (sd rfl))))
end
abbrev MB(l:Za):Int × Int:=dH (jt (l.map (·.1))) (jt (l.map (·.2)))
def Dh(v:Int × Int):Int × Int:=(v.2 - v.1,v.2)
def kY(c:Nat->Int × Int)(L:Zh):Int × Int:=MB (L.map c)
def mR(c:Nat->Int × Int)(p:⇑Zh):Za:=p.map λL=>Dh (kY c L)
def fv(c:Nat->Int × Int)(p:⇑Zh):Int × Int:=MB (mR c p)
def aY(c:Nat->Int × Int)(p:⇑Zh):Int × Int:=Dh (fv c p)
theorem um:∀ {l:Zl},(∀ x∈l,0 < x)->0 < jt l
 |[],_=>by decide|x::r,h=>mul_pos (h x È) (um λy a=>h y (Î _ a))
theorem zV{a:Type}{f g:a->Int}:∀ {l:⇑a},(∀ x∈l,0<=f x/\f x<=g x)->0<=jt (l.map f)/\jt (l.map f)<=jt (l.map g)
 |[],_=>#[show(0:Int)<=1 by decide,Int.le_refl _]
 |x::r,h=>by
  let(c,d):=h x È;let(e,i):=zV   λy j=>h y (Î _ j);exact#[mul_nonneg c e,mul_le_mul d i e (VS c d)]
theorem Rt.lk{t b:Int}(h:Rt v t b):Rt (Dh v) (b - t) b:=#[h.b0,by show gcd (v.2 - v.1) v.2=1;rw[gcd_comm,Int.gcd_self_sub_right,gcd_comm];exact h.one,by show(v.2 - v.1) * b=(b - t) * v.2;rw[sub_mul,sub_mul,h.eq,X4 v.2]]
theorem Rt.Uu{t b:Int}(h:Rt v t b)(a:0 < b)(c:0<=t)(d:t<=b)(e:b<=2 ^ n):Bd n v :=
 Fr.bd   #[h.pos a c,h.b0,h.one,by rw[h.eq,X4]] a d e
theorem Rt.small{t b:Int}(h:Rt v t b)(a:0 < b):v.2<=b:=by
 have e:=Rt.eqv h (Rt.low a) a;have:=(E8 (t:=t) a).2
 grind
theorem Kp{a:Type}{f:a->Int × Int}{t b:a->Int}{l:⇑a}(h:∀ x∈l,Rt (f x) (t x) (b x)/\0 < b x):Rt (MB (l.map f)) (jt (l.map t)) (jt (l.map b)):=by
 have p0:0 < jt ((l.map f).map _):=um λy c=>by
  rw[à] at c;let(x,d,rfl):=Ç.mp c;exact(h x d).1.b0
 apply(Rt.low p0).conv p0;rw[à];clear p0
 induction l with
 |nil=>rfl
 |cons x r g =>
  calc (f x).1 * jt _ * (b x * jt _)=((f x).1 * b x) * (jt (r.map ((·.1) ∘ f)) * jt (r.map b)):=by grind
   _=t x * jt _ * ((f x).2 * jt _):=by rw[(h x È).1.eq,g λy c=>h y (Î _ c)];grind
section
variable {c:Nat->Int × Int}{K:Nat}{p:⇑Zh}{L:Zh}
def On(c:Nat->Int × Int)(p:⇑Zh):Prop:=∀ L∈p,∀ n∈L,fU (c n)
theorem zW(h:∀ n∈L,fU (c n)):0<=qy c L/\qy c L<=jS c L:=zV   λn a=>#[(h n a).2.2.1,(h n a).2.2.2.1]
theorem uo(h:∀ n∈L,fU (c n)):Rt (kY c L) (qy c L) (jS c L):=Kp    λn a=>#[(h n a).rt,by exact ((h n a).1)]
theorem uu(h:On c p):Rt (fv c p) (qz c p) (iQ c p):=Kp    λL a=>#[(uo (h L a)).lk,(ja (h L a)).1]
theorem Di(h:On c p):Rt (aY c p) (iQ c p - qz c p) (iQ c p):=(uu h).lk
theorem wd(h:On c p):0<=qz c p/\qz c p<=iQ c p/\0 < iQ c p:=by
 let(a,b):=zV (f:=λL=>jS c L - qy c L) (g:=jS c)  λL d=>by have:=zW (h L d);omega
 exact#[a,b,um λy e=>by let(L,d,rfl):=Ç.mp e;exact(ja (h L d)).1]
theorem Kq:∀ {p:⇑Zh},On c p->iQ c p<=2 ^ (10 * p.flatten.length)
 |[],_=>by show(1:Int)<=2 ^ 0;decide
 |L::r,h=>by
  have b:=ja (h L È);rw[W9,Ó,Nat.mul_add,pow_add];exact mul_le_mul b.2 (Kq  λM a=>h M (Î _ a)) (Vz ((wd  λM a=>h M (Î _ a)).2.2)) (VS (Vz b.1) b.2)
theorem zX(a:K<=8)(h:On c p)(d:p.flatten.Nodup)(e:∀ L∈p,∀ n∈L,n < K):iQ c p<=2 ^ 80:=by
 have f :=by
  have:=VE d (λn g=>by
   let(L,i,g):=XO.mp g;exact û.mpr (e L i n g):p.flatten ⊆ ø K)
  rwa [Vu] at this
 apply VS (Kq h);exact_mod_cast (Nat.pow_le_pow_right (-0) ∅)
end
section
variable {m:Int}{ps cs:Za}{pl:Zh}{p:⇑Zh}
theorem Kr(a:cs.length=ps.length)(d:∀ c∈cs,fU c):∀ n < ps.length,fU (cf cs n):=λn e=>qv d (_c e (_a a))
theorem Ff(h:fU c):fU (c.2 - c.1,c.2):=by
 let(c1,c2,c3,c4,c5):=h;refine#[c1,c2,by grind,by grind,?_]
 simp_all
theorem P5(a:cs.length=ps.length)(d:∀ c∈cs,fU c):∀ n < ps.length,fU (lj (cf cs) n):=λn e=>Ff (Kr a d n e)
end
theorem zY:∀ a:⇑Zh,bu (a.map aq)/\cj (a.map aq)<=1
 |[]=>#[rfl,by decide]
 |l::r=>by
  let(c,d):=zY r;let(f,g):=nF _;rw[<-(by rw[à];rfl:l.map af=(l.map _).map D.int)] at f g;refine#[?_,?_]
  .show(bu _&&bu _)=true;rw[c,f];rfl
  .show Nat.max (cj _ + 1) _<=1
   simp_all
theorem BV(a:⇑Zh):iA (.lst (a.map aq)):=by
 let(c,d):=zY a
 delta iA
 rw[Á,Zw];refine#[c,?_];show cj _ + 1<=40;omega
structure Un(c:Int × Int):Prop where
 t0:0<=c.1
 tb:c.1<=c.2
 b0:0 < c.2
 one:gcd c.1 c.2=1
theorem Rt.un{t b:Int}(h:Rt v t b)(a:0 < b)(c:0<=t)(d:t<=b):Un v:=by
 exact#[h.pos a c,by have:0<=v.2 - v.1:=(h.lk.pos a ∅);omega,h.b0,h.one]
theorem Ks{l:Za}(h:∀ c∈l,Un c):0 < jt (l.map (·.2)):=um λy a=>by let(c,d,rfl):=Ç.mp a;exact(h c d).b0
theorem ir(k:Nat)(h:∀ c∈l,Un c)(a:jt (l.map (·.2))<=2 ^ 200)(z:Z):aj T (k + 8) jL [.d (.lst (l.map pr))] z=↑(.ok (.d (pr (MB l))) z):=by
 have f:=Ks h;refine W.ok (aI     rfl rfl (-0) ?_)
 refine eJ (λg i j=>j=z/\∃ (m:⇑_) (v:Int × Int) (t b:Int) (o:Option S),g=m.map pr/\(∀ c∈m,Un c)/\Rt v t b/\0<=t/\t<=b/\0 < b/\t * jt (m.map _)=jt (l.map (·.1))/\b * jt (m.map _)=jt (l.map (·.2))/\i=[↑(.d _),↑(.d (pr v)),o]) _ #[rfl,l,(1,1),1,1,none,rfl,h,#[by decide,by decide,rfl],by decide,by decide,by decide,one_mul _,one_mul _,(E3 (by show(de _&&true)=true;rw[vV];rfl)).trans rfl] ?_ ?_
 .rintro x r i j ⟨rfl,m,v,t,b,o,e,n,p,t0,q,s,u,w,rfl⟩;cases m with
  |nil=>cases e
  |cons c m =>
   cases e;have y:=n c È;have A :=λd B=>n d (Î _ B);have C:=Ks A;have E:b * (c.2 * jt _)=jt _:=w;have G:b * 1<=b * (c.2 * jt _):=Xb (mul_pos y.b0 C) (Vz s);have H:c.2 * 1<=c.2 * (b * jt _):=Xb (mul_pos s C) (Vz y.b0);rw[E,mul_one] at G;rw[<-mul_assoc,X4 c.2 b,mul_assoc,E,mul_one] at H;have bd:Bd 200 c:=#[y.t0,y.tb,y.b0,VS H a];refine Wo (Kb _ (p.Uu s t0 q (VS G a)) bd (-0) j) ?_
   have I:Rt c c.1 c.2:=#[y.b0,y.one,rfl];refine#[rfl,m,_,_,_,_,rfl,A,p.mul I,mul_nonneg t0 y.t0,mul_le_mul q y.tb y.t0 (Vz s),mul_pos s y.b0,?_,?_,rfl]
   .rw[mul_assoc];exact u
   .rw[mul_assoc];exact E
 .rintro i j ⟨rfl,m,v,t,b,o,e,n,p,t0,q,s,u,w,rfl⟩;cases m with
  |cons _ _=>cases e
  |nil =>
   have u:t * 1=jt (l.map (·.1)):=u;have w:b * 1=jt (l.map (·.2)):=w;rw[mul_one] at u w;subst u;rw[w] at p;rw[Rt.eqv p (Rt.low f) f];exact sd rfl
abbrev ai(p:⇑Zh):D:=.tup (p.map aq)
section
variable {m:Int}{ps cs:Za}{pl:Zh}{p ls:⇑Zh}{L:Zh}
theorem wg(h:∀ n∈L,fU (c n))(a:L.length<=8):jt ((L.map c).map (·.2))<=2 ^ 200:=by
 rw[à];apply VS (show jt _<=_ from(ja h).2);exact_mod_cast (Nat.pow_le_pow_right (-0) ∅)
theorem Dk(h:∀ n∈L,fU (c n)):∀ v∈L.map c,Un v:=λv a=>by
 let(n,d,rfl):=Ç.mp a;let(c1,c2,c3,c4,c5):=h n d;exact#[c3,c4,c1,c5]
theorem sG(k:Nat)(a:L.length<=8)(f:∀ n∈L,n < cs.length)(g:∀ c∈cs,fU c)(z:Z):aj T (k + 9) oI [.d (.tup (cs.map pr)),.d (aq L)] z=↑(.ok (.d (pr (kY (cf cs) L))) z):=by
 have h :=λn i=>qv g (f n i);refine W.ok (aI     rfl rfl (-0) ?_)
 refine ip (by grind) (gO (λx=>pr (cf cs (zU x))) (λx j=>?_) ?_)
 .let(n,i,rfl):=Ç.mp j;refine(ae (zM   (f n i)) ?_ :);exact#[rfl,rfl]
 .have e:(L.map af).map (λx=>pr (cf cs (zU x)))=(L.map (cf cs)).map pr:=by rw[à,à];rfl
  rw[e];exact Wo (ir k (Dk h) (wg h a) z) (sd rfl)
theorem zZ(k:Nat)(a:L.length<=8)(f:∀ n∈L,n < cs.length)(g:∀ c∈cs,fU c)(z:Z):aj T (k + 9) r9 [.d (.tup (cs.map pr)),.d (aq L)] z=↑(.ok (.d (pr (Dh (kY (lj (cf cs)) L)))) z):=by
 have h :=λn i=>Ff (qv g (f n i));refine W.ok (aI     rfl rfl (-0) ?_)
 refine ip (by rw[Ã];exact bU (Í a (_d (VH _)))) (gO (λx=>pr (lj (cf cs) (zU x))) (λx j=>?_) ?_)
 .let(n,i,rfl):=Ç.mp j;refine(ae (zM   (f n i)) ?_ :);exact Wo (i9 _ _ z) #[rfl,rfl]
 .have e:(L.map af).map (λx=>pr (lj (cf cs) (zU x)))=(L.map (lj (cf cs))).map pr:=by rw[à,à];rfl
  rw[e];exact Wo (ir k (Dk h) (wg h a) z) (Wo (i9 _ _ z) (sd rfl))
structure Lt(K:Nat)(p:⇑⇑Nat):Prop where
 aJ:∀ L∈p,L∈aW K
 ne:[] ∉ p
 nd:p.flatten.Nodup
theorem Lt.len(h:Lt K p):p.length<=K:=by
 have a:p.length<=p.flatten.length:=by
  have ne:=h.ne;clear h
  induction p with
  |nil=>exact Ò _
  |cons L r c =>
   have:=c λq=>ne (Î _ q);have :=List.length_pos_iff.mpr λe=>ne (e ▸ È)
   grind
 have d:=VE h.nd (λn f=>by
  let(L,g,f):=XO.mp f;exact û.mpr (aT (h.aJ L g) n f):p.flatten ⊆ ø K)
 grind
theorem z9(h:On c p):∀ v∈mR c p,Un v:=λv a=>by
 let(L,d,rfl):=Ç.mp a;have t:=zW (h L d);exact(uo (h L d)).lk.un (ja (h L d)).1 ∅ ∅
theorem wj(a:K<=8)(h:On c p)(l:Lt K p):jt ((mR c p).map (·.2))<=2 ^ 200:=by
 exact VS (by
  delta mR iQ
  rw[à];exact(zV   λL d=>#[Vz (uo (h L d)).b0,(uo (h L d)).small (ja (h L d)).1]).2) (VS (zX a h l.nd λL d=>aT (l.aJ L d)) (-0))
theorem mS(k:Nat)(a:cs.length<=8)(l:Lt cs.length p)(f:∀ c∈cs,fU c)(z:Z):aj T (k + 12) kz [.d (.tup (cs.map pr)),.d (ai p)] z=↑(.ok (.d (pr (aY (cf cs) p))) z):=by
 have g :=λL h n i=>qv f (aT (l.aJ L h) n i);have i:=l.len;refine W.ok (aI     rfl rfl (-0) ?_)
 refine ip (by grind) (gO (λx=>pr (Dh (kY (cf cs) (bo x)))) (λx j=>?_) ?_)
 .let(L,h,rfl):=Ç.mp j;rw[aH];exact Wo (sG _ (Í (dE (l.aJ L h)) a) (aT (l.aJ L h)) f z) (Wo (i9 _ _ z) #[rfl,rfl])
 .have e:(p.map aq).map (λx=>pr (Dh (kY (cf cs) (bo x))))=(mR (cf cs) p).map pr:=by
   delta mR
   rw[à,à];exact Vx λL _=>by show pr _=_;rw[aH];rfl
  rw[e];exact Wo (ir (k + 3) (z9 g) (wj a g l) z) (Wo (i9 (k + 8) _ z) (sd rfl))
theorem mT(k:Nat)(a:cs.length<=8)(l:Lt cs.length p)(f:∀ c∈cs,fU c)(z:Z):aj T (k + 12) oJ [.d (.tup (cs.map pr)),.d (ai p)] z=↑(.ok (.d (pr (fv (lj (cf cs)) p))) z):=by
 have g:=λL h n i=>Ff (qv f (aT (l.aJ L h) n i));refine W.ok (aI     rfl rfl (-0) ?_)
 refine ip (by rw[Ã];exact bU (Í (l.len) (Í a (_d (VH _))))) (gO (λx=>pr (Dh (kY (lj (cf cs)) (bo x)))) (λx j=>?_) ?_)
 .let(L,h,rfl):=Ç.mp j;rw[aH];exact Wo (zZ _ (Í (dE (l.aJ L h)) a) (aT (l.aJ L h)) f z) #[rfl,rfl]
 .have e:(p.map aq).map (λx=>pr (Dh (kY (lj (cf cs)) (bo x))))=(mR (lj (cf cs)) p).map pr:=by
   delta mR
   rw[à,à];exact Vx λL _=>by show pr _=_;rw[aH];rfl
  rw[e];exact Wo (ir _ (z9 g) (wj a g l) z) (sd rfl)
theorem rJ:∀ {l d:Zh},d.Nodup->(∀ x∈d,x∈l)->l.length<=d.length->l.Nodup
 |[],_,_,_,_=>.nil
 |x::r,d,a,h,c=>by
  by_cases e:x∈r
  .have:=VE a (λy f=>by grind:d ⊆ r)
   grind
  .refine Xi.mpr #[e,rJ (d:=d.filter (· != x)) (a.sublist Xv) (λy f=>?_) ?_]
   .grind
   .by_cases g:x∈d
    .have:=(Fb a g).length_eq
     grind
    .rw[BQ g]
     grind
theorem wk{l:Zh}(h:∀ n∈l,n < 8):((((ø 8).filter λi=>l.contains i).length:Int) == (l.length:Int))=decide l.Nodup:=by
 have a:((ø 8).filter λi=>l.contains i).Nodup:=WR _ nodup_range;have c:∀ n,n∈(ø 8).filter _↔n∈l:=λn=>by
  rw[YU,mem_range,VR];exact#[λq=>q.2,λq=>#[h n q,q]]
 rw[My,Zx,Zw];constructor
 .intro e;exact rJ a (λn d=>(c n).mp d) (WA (_a (_X e)))
 .intro f;rw[((W3 a f).mpr c).length_eq]
theorem yi:∀ p:⇑Zh,(p.map aq).mapM wY=↑(p.map λL=>L.map af)
 |[]=>rfl
 |L::r=>by
  rw[Xc,mapM_cons,yi r];rfl
theorem GL(h:p.flatten.length<=1000):IH (ai p)=↑(p.flatten.map af):=by
 show((p.map aq).mapM wY).bind _=_;rw[yi];show(if (p.map _).flatten.length<=most then ↑_ else none)=_;rw[List.map_flatten.symm,Zu (by rw[Ã];exact bU h)]
theorem Aa:∀ {l:Zh},(∀ n∈l,n < 8)->pN (l.map af)=↑l
 |[],_=>rfl
 |n::r,h=>by
  show(if (0:Int)<=(n:Int)/\(n:Int) < 8 then(pN _).map _ else none)=_;rw[Zu #[_e _,by exact _p (_n (h n È)) (_E _)],Aa λk a=>h k (Î _ a)];rfl
theorem qB(k:Nat)(a:∀ L∈p,∀ n∈L,n < 8)(c:p.flatten.length<=1000)(z:Z):aj T (k + 3) r6 [.d (ai p)] z=↑(.ok (.d (.bl (wH p))) z):=by
 have e:∀ n∈p.flatten,n < 8:=λn c=>by
  let(L,f,c):=XO.mp c;exact a L f n c
 refine W.ok (aI     rfl rfl (-0) ?_)
 refine(vG (.fr (p.flatten.map af)) [↑(.d (ai p)),↑(.fr (p.flatten.map af))] ?_ ?_ ?_ :)
 .refine(ae (GL c) ?_ :);exact#[rfl,rfl]
 .rfl
 refine(ae (o:=AZ [.lst _])  (by
  show(pN _).map _=_;rw[Aa e];rfl) ?_ :)
 apply sb (b:=((((ø 8).filter _).length:Int) == ((p.flatten.map af).length:Int)));rw[Ã,wk e];rfl
end
theorem Ab{a b:⇑D}(h:a.length + b.length<=most):f9 .add (.lst a) (.lst b)=↑(.fr (a++b)):=Zu h
theorem BW{a c:Type}(f:a->c):∀ {l m:⇑c},l.Perm m->∀ {r:⇑a},m=r.map f->∃ d:⇑a,d.Perm r/\l=d.map f:=λ{l m} h=>by
 induction h with
 |nil=>exact λ{r} e=>#[r,.refl _,e]
 |cons x h g =>
  intro r e;cases r with
  |nil=>cases e
  |cons y r =>
   injection e with i j;let(d,p,k):=g j;exact#[_,p.cons y,by simp_all]
 |swap x y l =>
  intro r e
  match r,e with
  |u::v::r,e =>
   injection e with i j;exact#[_,.swap _ _ _,by simp_all]
 |trans _ _ n o =>
  intro r e;let(q,s,i):=o e;let(w,p2,j):=n i;exact#[w,p2.trans s,j]
def cb:D->⇑Zh
 |.tup l=>l.map bo|_=>[]
theorem ck(p:⇑Zh):cb (ai p)=p:=by
 show(p.map aq).map bo=p;rw[à];exact(Vx λL _=>aH L).trans (map_id p)
theorem Vg:∀ L:Zh,pM 1 (aq L):=λL=>Ù.mpr λx a=>by let(n,_,rfl):=Ç.mp a;rfl
theorem UR(p:⇑Zh):pM 2 (ai p):=Ù.mpr λx a=>by let(L,_,rfl):=Ç.mp a;exact Vg L
theorem yj{l:⇑D}(h:∀ y∈l,∃ q,y=.tup q):(lK (.tup []::l)).head?=↑(.tup []):=by
 show(AV _ _).head?=_;have a :=λy c=>h y ((gf l).mem_iff.mp c);generalize lK l=m at a;cases m with
 |nil=>rfl
 |cons y r =>
  let(q,rfl):=a y È;unfold AV;rw[Zv (by cases q <;> exact ï)];rfl
theorem GN{P:⇑⇑Zh}(a:P.length<=50000){t:⇑⇑Zh}(c:P=[]::t):∃ d:⇑⇑Zh,d.Perm P/\d.head?=↑[]/\kO .sorted [.lst (P.map ai)]=↑(.fr (d.map ai)):=by
 let(d,p,e):=BW ai (gf _) rfl;refine#[d,p,?_,?_]
 .subst c;have f:(lK ((([]:⇑Zh)::t).map ai)).head?=↑(.tup []):=yj  λy g=>by let(q,_,rfl):=Ç.mp g;exact#[_,rfl]
  rw[e] at f;cases d with
  |nil=>cases f
  |cons q r =>
   cases q with
   |nil=>rfl|cons _ _=>cases f
 have h:bV (P.map ai)=false:=by
  subst c;rw[eq_false_iff];intro q;have:=Ù.mp q _ È;rw[Á] at this;exact absurd this.1 (-0)
 show(if (P.map ai).length < 64/\bV _=true then ↑(S.fr _) else(qX _).map S.fr)=_;rw[Zv (λq=>by rw[h] at q;cases q.2)]
 unfold qX;rw[Zu (by
  subst c;show(decide _&&((t.map ai).all _ || (t.map ai).all _))=true;rw[Zy (by rw[Ã];rw[ã] at a;omega),Xr,Wk]
  exact .inr (Ù.mpr λx i=>by let(q,_,rfl):=Ç.mp i;exact UR q)),e];rfl
section
variable {m:Int}{ps cs:Za}{pl:Zh}{p ls:⇑Zh}{L:Zh}{K:Nat}
theorem Pa.lt(h:Pa ls p)(a:∀ L∈ls,L∈aW K):Lt K p:=#[λL c=>a L (h.sub.subset c),h.ne,h.nd]
theorem Kt(h:Lt K p):p.flatten.length<=K:=by
 have a:=VE h.nd (λn c=>by
  let(L,d,c):=XO.mp c;exact û.mpr (aT (h.aJ L d) n c):p.flatten ⊆ ø K)
 rwa [Vu] at a
abbrev Fg(L:Zh)(x:D):D:=ai (cb x++[L])
abbrev bX(a:Nat):Sm:=s1 (.set (.v 1) (.bin .add v1 (.comp 1 [2] (.v 0) .seq (c1 v1) (c1 (.call a (c1 (.bin .add v0 (.tup (c1 v1)))))) (.bin .add v0 (.tup (c1 v1))))))
theorem qC(k:Nat)(c:∀ {p:⇑Zh},(∀ L∈p,∀ n∈L,n < 8)->p.flatten.length<=1000->∀ z:Z,aj T (k + 5) f [.d (ai p)] z=↑(.ok (.d (.bl (wH p))) z))(g:K<=8)(h:L∈aW K)(i:∀ M∈j,M∈aW K)(l:(j++[L]).Nodup)(ne:L.isEmpty=false){Q:O->Z->Prop}
  (q:Q (.nx [↑(.d (.lst (ls.map aq))),↑(.fr ((bR (j++[L])).map ai)),↑(.d (aq L))]) z):WS (oA T (k + 3 + 2)) o (bX f) [↑(.d (.lst (ls.map aq))),↑(.fr ((bR j).map ai)),↑(.d (aq L))] z Q E:=by
 have r:=dE h;have lt:∀ q∈bR j,Lt K q:=λq v=>(fN v).lt i;have w:bR (j++[L])=bR j++((bR j).filter λp=>wH (p++[L])).map (·++[L]):=by
  show foldl sE _ _=_;rw[foldl_append];show sE (bR j) L=_
  delta sE
  simp_all
 have A:=wb  g (λM B=>by
  rcases Ð.mp B with q | q
  .exact i M q
  simp_all) l
 rw[w,Ó] at A;have app:∀ q∈bR j,f9 _ _ _=↑(.d (ai _)):=λq v=>by
  have:=(lt q v).len;have e:=iK (a:=q.map aq) (b:=[aq L]) (by grind)
  rw[e];show ↑(S.d (.tup (q.map aq++[L].map aq)))=_;rw[<-gV]
 refine ip (by rw[Ã];exact Í (wb g i (l.sublist (Wc _ _))) (-0)) (gn (λx=>wH (cb x++[L])) (Fg L) (λx C=>?_) ?_)
 .let(q,v,rfl):=Ç.mp C;have fl:=Kt (lt q v);refine(ae (app q v) ?_ :);refine Wo (c (p:=q++[L]) (λM B n F=>?_) (by rw[Ys,Ó,W9,flatten_nil,ó];omega) z) #[by rw[ck],rfl,λ_=>?_]
  .rcases Ð.mp B with y | y
   .have:=aT ((lt q v).aJ M y) n F;exact Ñ this g
   .rw[Ë.mp y] at F;have:=aT h n F;exact Ñ this g
  .refine(ae (app q v) ?_ :);exact#[by show ai (q++[L])=ai (cb (ai q)++[L]);rw[ck],rfl]
 .have G:(((bR j).map ai).filter (λx=>wH (cb x++[L]))).map (Fg L)=(((bR j).filter λp=>wH (p++[L])).map (·++[L])).map ai:=by
   rw[VW,à,à];have:(bR j).filter ((λx=>wH (cb x++[L])) ∘ ai)=(bR j).filter λp=>wH (p++[L]):=VG λq _=>by show wH (cb (ai q)++[L])=_;rw[ck]
   rw[this];exact Vx λq _=>by show ai (cb (ai q)++[L])=_;rw[ck];rfl
  rw[G];refine(ae (Ab (a:=(bR j).map ai) (b:=(((bR j).filter λp=>wH (p++[L])).map (·++[L])).map ai) (by rw[Ã,Ã];exact Í A (-0))) ?_ :)
  rw[w,gV] at q;exact q
theorem wm(c:K<=8)(f:∀ L∈ls,L∈aW K)(g:ls.Nodup){i:⇑⇑Zh}(j:kO .sorted [.lst ((bR ls).map ai)]=↑(.fr (i.map ai)))(k:Nat)(z:Z):aj T (k + 6) dv [.d (.lst (ls.map aq))] z=↑(.ok (.fr (i.map ai)) z):=by
 refine W.ok (aI     rfl rfl (-0) ?_)
 refine eJ (λl n q=>q=z/\∃ (s u:⇑_) (o:Option S),s++u=ls/\l=u.map aq/\n=[↑(.d _),↑(.fr ((bR s).map ai)),o]) _ #[rfl,[],ls,none,rfl,rfl,(E3 (by show(de _&&true)=true;rw[bO];rfl)).trans rfl] ?_ ?_
 .rintro x r n q ⟨rfl,s,u,o,hd,e,rfl⟩;cases u with
  |nil=>cases e
  |cons L u =>
   cases e;have A:s++[L]++u=ls:=by simp_all
   refine ib  (λh=>?_) λh=>?_
   .have h:=ZA h;apply qC k (λa b z=>qB _ a b z) c (f L (by rw[<-hd];exact Ô _ È)) (λM y=>f M (by rw[<-hd];exact ä _ y)) (g.sublist (by rw[<-A];exact Wc _ _)) (by cases L with | nil=>exact absurd h (-0) | cons _ _=>rfl)
    exact#[rfl,s++[L],u,_,A,rfl,rfl]
   .have h:=of_decide_eq_false h;rw[Ã] at h;have ne:L.isEmpty=true:=by
     cases L with
     |nil=>rfl|cons _ _=>exact absurd (show(0:Int) < _ from by rw[ã];exact _C (_e _) (_n (Xs _))) h
    have C:bR (s++[L])=bR s:=by
     show foldl sE _ _=_;rw[foldl_append];exact Zu ne
    refine#[rfl,s++[L],u,↑(.d (aq L)),A,rfl,?_];rw[C];rfl
 .rintro n q ⟨rfl,s,u,o,hd,e,rfl⟩;cases u with
  |cons _ _=>cases e
  |nil =>
   rw[ó] at hd;subst hd;refine(ae j ?_ :);exact sd rfl
theorem Fh(a:K<=8)(c:∀ L∈ls,L∈aW K)(d:ls.Nodup):∃ e:⇑⇑Zh,e.Perm (bR ls)/\e.head?=↑[]/\kO .sorted [.lst ((bR ls).map ai)]=↑(.fr (e.map ai)):=by
 let(t,f):=Kl ls;exact GN (Í (wb a c d) (-0)) f
end
theorem Un.bs(h:Un v)(a:v.2<=2 ^ n):Bs n v:=by
 have c:=h.t0;have d:=h.tb;exact#[by omega,h.b0,by omega]
section
variable {m:Int}{ps cs:Za}{pl:Zh}{p ls:⇑Zh}{L:Zh}{K:Nat}
theorem rK(a:K<=8)(h:On c p)(l:Lt K p):Bs 100 (aY c p)/\Bs 100 (fv c p):=by
 let(n0,d,e):=wd h;have g:iQ c p<=2 ^ 100:=VS (zX a h l.nd λL f=>aT (l.aJ L f)) (-0)
 exact#[((Di h).un e ∅ ∅).bs (VS ((Di h).small e) g),((uu h).un e n0 d).bs (VS ((uu h).small e) g)]
theorem wo(g:aR m ps):(∀ L∈bW (dM m ps pl),L∈aW ps.length)/\(bW (dM m ps pl)).Nodup/\(∀ L∈bW (fu m ps pl),L∈aW ps.length)/\(bW (fu m ps pl)).Nodup:=by
 have a:=by
  have:∀ k,k < 9->(fq k).Nodup:=by decide +kernel
  exact this _ (by have:=g.len;exact _b this)
 exact#[λL c=>((iM g).mp (yh c)).1,a.sublist (List.filter_sublist.trans Xv),λL c=>((ig g).mp (yh c)).1,a.sublist (List.filter_sublist.trans Xv)]
theorem Fi(a:cs.length=ps.length)(d:∀ c∈cs,fU c)(l:Lt ps.length p):On (cf cs) p/\On (lj (cf cs)) p:=#[λL e n f=>Kr a d n (aT (l.aJ L e) n f),λL e n f=>P5 a d n (aT (l.aJ L e) n f)]
theorem GO(g:aR m ps)(a:bH m pl)(e:cs.length=ps.length)(f:∀ c∈cs,fU c){P:⇑⇑Zh}(lt:∀ q∈P,Lt ps.length q)(h:P.length<=21147)(run:∀ (k:Nat) (z:Z),aj T (k + 6) dv [.d (.lst ((bW (dM m ps pl)).map aq))] z=↑(.ok (.fr (P.map ai)) z)){i:Nat}{p:⇑Zh}(j:fg (P.map (aY (cf cs))) (P.map (aY (cf cs))).length=↑i)(n:P[i]?=↑p)(k:Nat)(z:Z):aj T (k + 20) aN [.d (cx m ps),.d (.tup (cs.map pr)),.d (.tup (pl.map af))] z=↑(.ok (.d (ai p)) z):=by
 have r:=g.len;have s:=dN (k + 15)   (λc u=>by let(q,v,rfl):=Ç.mp u;exact(rK r (Fi e f (lt q v)).1 (lt q v)).1) (-0) z
 rw[j] at s;refine W.ok (aI     rfl rfl (-0) (Wo (bG _   g.Am z (mL (by simp_all) f)) (Wo (oa _ g a z) (Wo (run _ z) ?_))))
 refine ip (by rw[Ã];exact Í h (-0)) (gO (λx=>pr (aY (cf cs) (cb x))) (λx w=>?_) ?_)
 .let(q,v,rfl):=Ç.mp w;have l:=lt q v;rw[<-e] at l;exact Wo (mS _ (Í (WA e) r) l f z) #[by rw[ck],rfl]
 .have y:(P.map ai).map (λx=>pr (aY (cf cs) (cb x)))=(P.map (aY (cf cs))).map pr:=by
   rw[à,à];exact Vx λq _=>by show pr (aY (cf cs) (cb (ai q)))=_;rw[ck];rfl
  rw[y];refine Wo s ?_;refine(ae (o:=iP (.lst (P.map ai)) (~~~i)) (mK (by rw[å,n];rfl)) ?_ :)
  exact sd rfl
theorem GP(g:aR m ps)(a:bH m pl)(e:cs.length=ps.length)(f:∀ c∈cs,fU c){P:⇑⇑Zh}(lt:∀ q∈P,Lt ps.length q)(h:P.length<=21147)(run:∀ (k:Nat) (z:Z),aj T (k + 6) dv [.d (.lst ((bW (fu m ps pl)).map aq))] z=↑(.ok (.fr (P.map ai)) z)){i:Nat}{p:⇑Zh}(j:fg (P.map (aY (lj (cf cs)))) (P.map (aY (lj (cf cs)))).length=↑i)(n:P[i]?=↑p)(k:Nat)(z:Z):aj T (k + 20) aQ [.d (cx m ps),.d (.tup (cs.map pr)),.d (.tup (pl.map af))] z=↑(.ok (.d (ai p)) z):=by
 have r:=g.len;have s:=dN (k + 15)   (λc u=>by let(q,v,rfl):=Ç.mp u;exact(rK r (Fi e f (lt q v)).2 (lt q v)).1) (-0) z
 rw[j] at s;refine W.ok (aI     rfl rfl (-0) (Wo (bG _   g.Am z (mL (by simp_all) f)) (Wo (og _ g a z) (Wo (run _ z) ?_))))
 refine ip (by rw[Ã];exact Í h (-0)) (gO (λx=>pr (aY (lj (cf cs)) (cb x))) (λx w=>?_) ?_)
 .let(q,v,rfl):=Ç.mp w;have l:=lt q v;rw[<-e] at l;exact Wo (mT (k + 7) (Í (WA e) r) l f z) (Wo (i9 (k + 16) _ z) #[by rw[ck];rfl,rfl])
 .have y:(P.map ai).map (λx=>pr (aY (lj (cf cs)) (cb x)))=(P.map (aY (lj (cf cs)))).map pr:=by
   rw[à,à];exact Vx λq _=>by show pr (aY (lj (cf cs)) (cb (ai q)))=_;rw[ck];rfl
  rw[y];refine Wo s ?_;refine(ae (o:=iP (.lst (P.map ai)) (~~~i)) (mK (by rw[å,n];rfl)) ?_ :)
  exact sd rfl
end
section
variable {m:Int}{ps cs:Za}{pl:Zh}{p q ls:⇑Zh}{L:Zh}{K:Nat}
theorem GQ(k:Nat)(a:cs.length=ps.length)(e:∀ c∈cs,fU c)(f:ps.length<=8)(g:Lt ps.length p)(h:Lt ps.length q)(i:∀ (k:Nat) (z:Z),aj T (k + 20) aN [.d (cx m ps),.d (.tup (cs.map pr)),.d (.tup (pl.map af))] z=↑(.ok (.d (ai p)) z))(j:∀ (k:Nat) (z:Z),aj T (k + 20) aQ [.d (cx m ps),.d (.tup (cs.map pr)),.d (.tup (pl.map af))] z=↑(.ok (.d (ai q)) z))(z:Z) :
  aj T (k + 23) iH [.d (cx m ps),.d (.tup (cs.map pr)),.d (.tup (pl.map af))] z=↑(.ok (.d (.tup [pr (aY (cf cs) p),pr (fv (lj (cf cs)) q)])) z):=by
 rw[<-a] at g h;exact W.ok (aI     rfl rfl (-0) (Wo (i _ z) (Wo (mS _ (Í (WA a) f) g e z) (Wo (j _ z) (Wo (mT _ (Í (WA a) f) h e z) (sd rfl))))))
end
section
variable {m:Int}{ps cs:Za}{pl:Zh}{p q ls:⇑Zh}{L:Zh}{K:Nat}{c:Nat->Int × Int}
theorem Lt.sub(h:Lt K p)(s:q.Sublist p):Lt K q:=#[λL a=>h.aJ L (s.subset a),λe=>h.ne (s.subset e),by
 have d:=nO.mp h.nd;exact nO.mpr #[d.1.sublist s,λL a=>d.2 L (s.subset a)]]
end
theorem eq_self(h:iA x)(hs:CG .seq x=false):fB .eq x x=↑true:=by
 show(if iA x&&iA x then ↑_ else Oy x x)=↑true;rw[h];cases x with
 |cq=>rfl|bl b=>show ↑(b == b)=_;rw[beq_self_eq_true]|int i=>show ↑(i == i)=_;rw[beq_self_eq_true]|str s=>show ↑(s == s)=_;rw[beq_self_eq_true]|tup l=>cases hs
 |lst l=>cases hs
 |dct=>rfl
theorem BX:∀ {l:⇑D}{d:D},d∈iC l l->∃ x∈l,d=.tup [x,x]
 |x::r,d,h=>by
  rcases ì.mp h with h | h
  .exact#[x,È,h]
  .let(u,a,e):=BX h;exact#[u,Î _ a,e]
mutual
noncomputable def flat:Nat->D->Bool
 |_,.cq=>true|_,.bl _=>true|_,~~~_=>true|_,.str _=>false|0,.tup _=>false|d + 1,.tup l=>decide (l.length<=1000)&&yk d l|_,.lst _=>false|_,.dct=>false
noncomputable def yk:Nat->⇑D->Bool
 |_,[]=>true|d,x::r=>flat d x&&yk d r
end
theorem yl:∀ {d:Nat}{l:⇑D}{x:D},yk d l->x∈l->flat d x
 |d,y::r,x,h,a=>by
  unfold yk at h;rw[Á] at h;rcases ì.mp a with rfl | a
  .exact h.1
  .exact yl h.2 a
theorem Ac:∀ (d k:Nat) (x:D) (z:Z),flat d x=true->aj T (k + d + 3) fk [.d x,.d x] z=↑(.ok (.d (.bl true)) z):=by
 have one:∀ (k) (x) (z),iA x=true->CG _ x=false->aj T (k + 3) fk [.d x,.d x] z=↑(.ok _ z):=λk x z h hs=>by
  refine W.ok (aI    rfl rfl (-0) (ie hs ?_))
  refine(ae (eq_self h hs) ?_);cases x with
  |tup l=>cases hs
  |lst l=>cases hs
  |_=>exact sb rfl
 intro d
 induction d with
 |zero =>
  intro k x z h;cases x with
  |cq=>exact one k _ z rfl rfl|bl b=>exact one k _ z rfl rfl|int i=>exact one k _ z rfl rfl|_=>cases h
 |succ d ih =>
  intro k x z h;cases x with
  |cq=>exact one _ _ z rfl rfl|bl b=>exact one _ _ z rfl rfl|int i=>exact one _ _ z rfl rfl
  |tup l =>
   unfold flat at h;rw[Á,Zw] at h;refine W.ok (aI    rfl rfl (-0) ?_)
   apply ie (b:=!((l.length:Int) == (l.length))) (by simp)
   refine ip  (Í (qj _ _) (bU h.1)) (gO (λ_=>.bl true) (λq hq=>?_) (ae (kH _ _) ?_ :))
   .let(x,hx,rfl):=BX hq;exact Wo (ih k x z (yl h.2 hx)) #[rfl,rfl]
   .exact sb  (Ù.mpr λ_ _=>rfl)
  |_=>cases h
theorem BY:∀ {l:⇑D},(∀ x∈l,flat d x)->yk d l
 |[],_=>rfl
 |x::r,h=>by
  unfold yk;rw[h x È,BY λy a=>h y (Î _ a)];rfl
theorem jU(h:l.length<=1000)(a:∀ x∈l,flat d x):flat (d + 1) (.tup l):=by
 unfold flat;rw[Zy h,BY a];rfl
theorem wq:flat d (~~~i):=rfl
theorem ym{d:Nat}{l:Zh}(h:l.length<=1000):flat (d + 1) (.tup (l.map af))=true :=
 jU (by simp_all) λx a=>by
  let(i,_,rfl):=Ç.mp a;exact wq
theorem Fj:flat (d + 1) (pr p):=jU (by decide:2<=1000) λx a=>by
 simp[VP,Vp,ZE] at a;rcases a with rfl | rfl <;> exact wq
abbrev pf(a:Za)(i:Nat):Int × Int:=a.getD i (0,0)
section
variable {m:Int}{ps cs:Za}{pl:Zh}
theorem P6(h:i < ps.length):pf ps i∈ps:=by
 rw[pf,Ì,ß h];exact V3 h
theorem aR.ab(g:aR m ps)(a:n < ps.length):tA ps n < tB ps n/\tB ps n < m.toNat/\pf ps n=((tA ps n:Int),(tB ps n:Int)):=by
 have:=g.tie _ (P6 a);grind
end
def iN(F:Zh)(a b:Nat):Zh:=if a∈F/\b ∉ F then F++[b] else F
theorem BZ(h:x∈F):x∈iN F a b:=by
 delta iN
 split
 .exact ä _ h
 .exact h
theorem Ad(F:Zh)(a b:Nat):(iN F a b=F/\(a∈F->b∈F))\/F.length < (iN F a b).length:=by
 delta iN
 split
 .simp_all
 simp_all
def GR(m:Nat)(F:Zh):Prop:=F.Nodup/\∀ x∈F,x < m
theorem gw:∀ {m:Nat}{F:Zh},GR m F->F.length<=m
 |0,[],_=>Ò _|0,x::_,h=>absurd (h.2 x È) (Yq _)
 |m + 1,F,h=>by
  have a:=gw #[h.1.erase m,λx c=>by
   exact VU (YQ (h.2 x (List.mem_of_mem_erase c))) ((List.Nodup.mem_erase_iff h.1).mp c |>.1)]
  grind
theorem qD(h:GR m F)(c:b < m):GR m (iN F a b):=by
 delta iN
 split
 .rename_i d;refine#[Y3.mpr #[h.1,⋯,λx f y g=>?_],λx f=>?_]
  .rw[Ë.mp g];exact λe=>d.2 (e ▸ f)
  .rcases Ð.mp f with f | f
   .exact h.2 x f
   simp_all
 .exact h
theorem Ku{F:Zh}{a b:Nat}{f:Nat->Int}{v:Int}(h:∀ x∈F,f x=v)(e:f a=f b):∀ x∈iN F a b,f x=v:=by
 delta iN
 split
 .intro x c;rcases Ð.mp c with c | c
  .exact h x c
  simp_all
 .exact h
section
variable (ps:Za)
def MC(F:Zh)(n:Nat):Zh:=iN (iN F (tA ps n) (tB ps n)) (tB ps n) (tA ps n)
def GU(a:Zh)(F:Zh):Zh:=a.foldl (MC ps) F
def dR(aJ:Zh):Nat->Zh->Zh
 |0,F=>F|j + 1,F=>dR aJ j (GU ps aJ F)
variable {ps:Za}
theorem P7(F:Zh)(n:Nat):(MC ps F n=F/\(tA ps n∈F↔tB ps n∈F))\/F.length < (MC ps F n).length:=by
 delta MC
 rcases Ad F _ _ with ⟨a,c⟩ | a
 .rw[a];rcases Ad F _ _ with ⟨d,e⟩ | d
  .exact .inl #[d,c,e]
  .exact .inr d
 .rcases Ad _ _ _ with ⟨d,_⟩ | d
  .rw[d];exact .inr a
  .exact .inr (Nat.lt_trans a d)
theorem Dl:∀ (a F:Zh),(GU ps a F=F/\∀ n∈a,(tA ps n∈F↔tB ps n∈F))\/F.length < (GU ps a F).length
 |[],F=>.inl #[rfl,λ_ h=>nomatch h]
 |n::r,F=>by
  show(GU ps r _=F/\_)\/F.length < (GU ps r _).length;rcases P7  F n with ⟨c,d⟩ | c
  .rw[c];rcases Dl r F with ⟨e,f⟩ | e
   .simp_all
   .exact .inr e
  .rcases Dl r _ with ⟨e,_⟩ | e
   .rw[e];exact .inr c
   .exact .inr (Nat.lt_trans c e)
theorem Fl:∀ {a F:Zh},GR m F->(∀ n∈a,tA ps n < m/\tB ps n < m)->GR m (GU ps a F)
 |[],_,h,_=>h|n::r,F,h,c=>Fl  (F:=MC ps F n) (qD (qD h (c n È).2) (c n È).1) λk d=>c k (Î _ d)
theorem Nv{f:Nat->Int}{v:Int}:∀ {a F:Zh},(∀ x∈F,f x=v)->(∀ n∈a,f (tA ps n)=f (tB ps n))->∀ x∈GU ps a F,f x=v
 |[],_,h,_=>h|n::r,F,h,c=>Nv  (F:=MC ps F n) (Ku (Ku h (c n È)) (c n È).symm) λk d=>c k (Î _ d)
theorem Fm:∀ {a F:Zh}{x:Nat},x∈F->x∈GU ps a F
 |[],_,_,h=>h|n::r,F,x,h=>Fm  (F:=MC ps F n) (BZ (BZ h))
theorem wt(a:∀ n∈c,tA ps n < m/\tB ps n < m):∀ {j:Nat}{F:Zh},GR m F->GR m (dR ps c j F)
 |0,_,h=>h|j + 1,_,h=>wt a (j:=j) (Fl h a)
theorem Dm{f:Nat->Int}{v:Int}{aJ:Zh}(a:∀ n∈aJ,f (tA ps n)=f (tB ps n)):∀ {j:Nat}{F:Zh},(∀ x∈F,f x=v)->∀ x∈dR ps aJ j F,f x=v
 |0,_,h=>h|j + 1,_,h=>Dm a (j:=j) (Nv h a)
theorem wu:∀ {j:Nat}{F:Zh}{x:Nat},x∈F->x∈dR ps a j F
 |0,_,_,h=>h|j + 1,_,_,h=>wu (j:=j) (Fm h)
theorem Ae:∀ (j:Nat) (F:Zh),(∀ n∈aJ,(tA ps n∈dR ps aJ j F↔tB ps n∈dR ps aJ j F))\/F.length + j<=(dR ps aJ j F).length
 |0,F=>.inr (Ò _)
 |j + 1,F=>by
  show(∀ n∈aJ,(tA ps n∈dR ps aJ j _↔tB ps n∈dR ps aJ j _))\/F.length + (j + 1)<=(dR ps aJ j _).length;rcases Dl  aJ F with ⟨h1,h2⟩ | h1
  .refine .inl ?_;rw[h1,(λi=>by
    induction i with
    |zero=>rfl|succ i ih=>show dR ps aJ i _=F;rw[h1];exact ih:∀ i,dR ps aJ i F=F)];exact h2
  .rcases Ae  j _ with h2 | h2
   .exact .inl h2
   .exact .inr (Í (_R (Nat.add_lt_add_right h1 _)) h2)
theorem yn{pl a:Zh}(g:aR m ps)(c:bH m pl)(d:∀ n∈a,n < ps.length):(∀ p∈pl,p∈dR ps a m.toNat [pl.getD 0 0])↔bE ps m.toNat pl a:=by
 have k:∀ p∈pl,p < m.toNat:=λp h=>by have:=c.lt p h;omega
 rw[qt g.Kh k d];constructor
 .exact λh f l p o=>Dm l (λx q=>by rw[Ë.mp q]) p (h p o)
 .intro h p o;have cl:∀ n∈a,(tA ps n∈dR ps a m.toNat [pl.getD 0 0]↔tB ps n∈dR ps a m.toNat [pl.getD 0 0]):=by
   rcases Ae   m.toNat _ with r | r
   .exact r
   .have:=gw (wt (λn i=>g.Kh n (d n i)) (j:=m.toNat) (F:=[pl.getD 0 0]) #[⋯,λx q=>by rw[Ë.mp q];exact (c.p0)])
    simp only[ã,WD] at r;omega
  have s:=h (λx=>if x∈dR ps a m.toNat _ then 1 else 0) (λn i=>by
   by_cases q:tA ps n∈dR ps a m.toNat [pl.getD 0 0]
   .rw[Zu q,Zu ((cl n i).mp q)]
   .rw[Zv q,Zv λu=>q ((cl n i).mpr u)]) p o
  rw[Zu (wu (Ë.mpr rfl))] at s
  grind
end
def B1(k:Nat):Zh->Zh
 |[]=>[k]|y::r=>if y < k then y::B1 k r else k::y::r
def sJ:Zh->Zh
 |[]=>[]|k::r=>B1 k (sJ r)
theorem yo(k:Nat):∀ l,(B1 k l).Perm (k::l)
 |[]=>.refl _
 |y::r=>by
  unfold B1;split
  .exact((yo k r).cons y).trans (.swap _ _ _)
  .exact .refl _
theorem oR:∀ l,(sJ l).Perm l
 |[]=>.refl _|k::r=>(yo k _).trans ((oR r).cons k)
theorem wx(k:Nat):∀ l:Zh,pL (af k) (l.map af)=(B1 k l).map af
 |[]=>rfl
 |y::r=>by
  unfold B1;show(if MySort.aU [(y:Int)] [(k:Int)] then af y::pL _ _ else af k::af y::r.map af)=_;rw[Kf,wx k r]
  grind
theorem rM:∀ l:Zh,iW (l.map af)=(sJ l).map af
 |[]=>rfl
 |k::r=>by
  show pL _ _=_;rw[rM r,wx];rfl
theorem B3(h:l.length < 64):kO .sorted [.lst (l.map af)]=↑(.fr ((sJ l).map af)):=by
 show(if (l.map af).length < 64/\bV _=true then ↑_ else _)=_;rw[Zu #[by simp_all,by
  refine Ù.mpr λx a=>?_;let(p,_,rfl):=Ç.mp a;refine Ù.mpr λy c=>?_;let(q,_,rfl):=Ç.mp c;exact jQ p q],rM]
theorem qE{n:Nat}{l:Zh}:(lI (af n) (l.map af)).map (!·)=↑(!decide (n∈l)):=by rw[hY];rfl
def Fo:D->Nat
 |~~~i=>i.toNat|_=>0
section
variable {m:Int}{ps:Za}{pl aJ:Zh}
abbrev Qj(m:Int)(ps:Za)(aJ:Zh)(p0:Nat)(F:Zh)(a c e f:Option S):Env:=[↑(.d (cx m ps)),↑(.d (.tup (aJ.map af))),↑(.d (af p0)),↑(.fr (F.map af)),a,c,e,f]
theorem B4:F.map af++[af b]=(F++[b]).map af:=⋯
theorem sL(k:Nat)(g:aR m ps)(c:∀ n∈aJ,n < ps.length){p0:Nat}(h0:p0 < m.toNat)(z:Z):aj T (k + 3) se [.d (cx m ps),.d (.tup (aJ.map af)),.d (af p0)] z=↑(.ok (.d (.tup ((sJ (dR ps aJ m.toNat [p0])).map af))) z):=by
 have m6:=g.m6;have m1:=g.m1;refine W.ok (aI    rfl rfl (-0) ?_)
 refine(vG (.fr [af p0]) (Qj m ps aJ p0 [p0] none none none none) ?_ ?_ ?_)
 .exact#[rfl,rfl]
 .rfl
 refine(ae (kU  ∅ ∅) ?_)
 refine eJ (λf i j=>j=z/\∃ (F:Zh) (o p q s:Option S),GR m.toNat F/\dR ps aJ f.length F=dR ps aJ m.toNat _/\i=Qj m ps aJ p0 F o p q s) _ #[rfl,_,none,none,none,none,#[⋯,λx hx=>by rw[Ë.mp hx];exact h0],by rw[Ã,Vu],rfl] ?_ ?_
 .rintro x r i j ⟨rfl,F,o,p,q,s,u,e,rfl⟩;refine eJ (λf i v=>v=j/\∃ (l G:Zh) (o p q s:Option S),f=l.map af/\(∀ n∈l,n < ps.length)/\GR m.toNat G/\GU ps l G=GU ps aJ F/\i=Qj m ps aJ p0 G o p q s) _ #[rfl,aJ,F,_,p,q,s,rfl,c,u,rfl,(E3 (Row.t aJ).ba).trans rfl] ?_ ?_
  .rintro y r' i v ⟨rfl,l,G,o,p,q,s,w,A,B,C,rfl⟩;cases l with
   |nil=>cases w
   |cons n l =>
    cases w;have E:=A n È;have H:=g.Kh n E;have len:=gw B;refine(ae (show iP _ _=↑(pr ((tA ps n),(tB ps n))) from by rw[Kg E];exact congrArg (λx=>↑_) ((g.ab E).2.2)) ?_ :)
    refine EN (λi I=>I=v/\∃ (o p:Option S),i=Qj m ps aJ p0 (iN G (tA ps n) (tB ps n)) o p ↑(.d (af (tA ps n))) ↑(.d (af (tB ps n)))) ?_ ?_
    .have J:∀ h:¬ (tA ps n∈G/\tB ps n ∉ G),iN G _ _=G:=λh=>Zv h;refine(ae (hY  ) ?_ :);refine ib  (λK=>?_) λK=>#[rfl,_,_,by rw[J λh=>of_decide_eq_false K h.1];rfl]
     refine(ae (qE  ) ?_ :);refine ib  (λL=>?_) λL=>#[rfl,_,_,by rw[J λh=>by rw[Zz h.2] at L;cases L];rfl]
     refine(ae (add_l (a:=G.map af) (b:=[af _]) (by rw[Ã];show G.length + 1<=1000;omega)) ?_ :)
     rw[B4,show iN G _ _=G++[tB ps n] from Zu #[ZA K,by simpa using L]]
     exact#[rfl,_,_,rfl]
    .rintro i I ⟨rfl,o,p,rfl⟩;have N:=qD (a:=tA ps n)  B H.2;have vW:=gw N;have P:∀ (i) (U) (o p q s:Option S),U=MC ps G n->i=Qj m ps aJ p0 U o p q s->(I=I/\∃ (X G:Zh) (o p q s:Option S),List.map af l=X.map af/\(∀ n∈X,n < ps.length)/\GR m.toNat G/\GU ps X G=GU ps aJ F/\i=Qj m ps aJ p0 G o p q s):=λi U o p q s e he=>#[rfl,l,U,o,p,q,s,rfl,λk hk=>A k (Î _ hk),by rw[e];exact qD N H.1,by rw[e];exact C,he]
     delta MC at P
     generalize iN G _ _=Y at P N vW;have J:∀ h:¬ (tB ps n∈Y/\tA ps n ∉ Y),Y=iN Y _ _:=λh=>(Zv h).symm;refine(ae (hY  ) ?_ :);refine ib  (λK=>?_) λK=>P _ Y _ _ _ _ (J λh=>of_decide_eq_false K h.1) rfl;refine(ae (qE  ) ?_ :);refine ib  (λL=>?_) λL=>P _ Y _ _ _ _ (J λh=>by rw[Zz h.2] at L;cases L) rfl
     refine(ae (add_l (a:=Y.map af) (b:=[af _]) (by rw[Ã];show Y.length + 1<=1000;omega)) ?_ :)
     rw[B4];exact P _ _ _ _ _ _ (Zu #[ZA K,by simpa using L]).symm rfl
  .rintro i v ⟨rfl,l,G,o,p,q,s,w,A,B,C,rfl⟩;cases l with
   |cons n l=>cases w
   |nil=>exact#[rfl,G,_,_,_,_,B,by rw[show G=GU ps aJ F from C];exact e,rfl]
 .rintro i j ⟨rfl,F,o,p,q,s,u,e,rfl⟩;have len:=gw u;refine(ae (B3 (l:=F) ∅) ?_)
  rw[<-e];exact sd rfl
theorem ij(k:Nat)(g:aR m ps)(a:bH m pl)(c:∀ n∈aJ,n < ps.length)(z:Z):aj T (k + 4) i4 [.d (cx m ps),.d (.tup (aJ.map af)),.d (.tup (pl.map af))] z=↑(.ok (.d (.bl (bE ps m.toNat pl aJ))) z):=by
 have e:=a.len g.m6;refine W.ok (aI    rfl rfl (-0) ?_)
 refine(ae (zK a.ne) ?_ :);apply Wo (sL k g c a.p0 z);refine ip (by grind) (gn (λx=>!decide (Fo x∈dR ps aJ m.toNat [pl.getD 0 0])) (λx=>x) (λy f=>?_) ?_)
 .let(p,i,rfl):=Ç.mp f;refine(ae (qE  ) ?_ :);refine#[?_,rfl,λ_=>#[rfl,rfl]];rw[show decide _=decide (Fo (af p)∈dR ps aJ m.toNat _) from by
   rw[My,Zw,Zw,(oR _).mem_iff];rfl]
 .rw[YB,VW];refine(ae (nJ (gH _)) ?_ :);refine sb ?_;rw[My,<-yn g a c,YY,YZ,XE];constructor
  .intro h p j;have l:¬ (!decide (p∈dR ps aJ m.toNat [pl.getD 0 0]))=true:=h p j;simpa using l
  .intro h p j;show ¬ (!decide (p∈dR ps aJ m.toNat [pl.getD 0 0]))=true;simpa using h p j
end
theorem Af:∀ a b:Zh,lg (a.map af) (b.map af)=decide (a=b)
 |[],[]=>rfl|[],_::_=>rfl|_::_,[]=>rfl
 |x::r,y::q=>by
  show((x:Int) == (y:Int)&&lg _ _)=_;rw[Af r q,My,Á,Zx,Zw,Zw,List.cons.injEq]
  grind
theorem uw(a b:Zh):fB .ne (aq a) (aq b)=↑(decide (a≠b)):=by
 have c:iA (aq a)=true:=gH a;have d:iA (aq b)=true:=gH b;show(Lw _ _).map _=_
 delta Lw
 rw[c,d];show ↑(!lg _ _)=_;rw[Af,decide_not]
theorem Nw{a ρ':Env}(c:lQ s)(d:iX p s a=↑ρ')(q:P ρ'):cD (one [s]) λs=>cD (iX p s (eW s a)) P:=by
 show cD _ P;rw[zy c];exact ae d q
def sY(l:Zh)(x:D):Bool:=decide (bo x≠l)&&subB (bo x) l
theorem ik(k:Nat)(c:ls.length<=256)(f:∀ l∈ls,l.length<=8)(z:Z):aj T (k + 3) hU [.d (.lst (ls.map aq))] z=↑(.ok (.fr ((mP ls).map aq)) z):=by
 refine W.ok (aI    rfl rfl (-0) ?_)
 refine eJ (λm p q=>q=z/\∃ (i j:⇑_) (s u:Option S),i++j=ls/\m=j.map aq/\p=[↑(.d _),↑(.fr ((i.filter λl=>(ls.filter λo=>decide (o≠l)&&subB o l).isEmpty).map aq)),s,u]) _ #[rfl,[],ls,none,none,rfl,rfl,(E3 (by show(de _&&true)=true;rw[bO];rfl)).trans rfl] ?_ ?_
 .rintro x r p q ⟨rfl,i,j,s,u,hd,e,rfl⟩;cases j with
  |nil=>cases e
  |cons l j =>
   cases e;refine ip (by grind) (gn (sY l) (λx=>x) (λx w=>?_) ?_)
   .let(o,y,rfl):=Ç.mp w;have A:=f o y;refine(ae (uw o l) ?_ :);have B:sY l (aq o)=(decide (o≠l)&&subB o l):=by delta sY;rw[aH]
    refine ib  (λC=>?_) λC=>#[by rw[B,C];rfl,rfl,λ_=>#[rfl,rfl]]
    refine ip (by grind) (gn (λx=>!decide (zU x∈l)) (λx=>x) (λx w=>?_) ?_)
    .let(n,_,rfl):=Ç.mp w;refine(ae (o:=(lI (af n) (l.map af)).map (!·)) (a:=!decide (n∈l)) (by rw[hY];rfl) ?_ :)
     exact#[rfl,rfl,λ_=>#[rfl,rfl]]
    .rw[YB,VW];refine(ae (nJ (gH _)) ?_ :);refine#[?_,rfl,λ_=>#[rfl,rfl]];rw[B,C,Xr]
     congr 2
     rw[My,YY,YZ,XE,rE];refine forall_congr' λn=>forall_congr' λ_=>?_;show ¬ (!decide (n∈l))=true↔_;cases h:decide (n∈l) <;> simp_all
   .rw[YB];have E:((ls.map aq).filter (sY l))=(ls.filter λo=>decide (o≠l)&&subB o l).map aq:=by
     rw[VW]
     congr 1
     refine VG λo _=>?_;show sY l (aq o)=_
     delta sY
     rw[aH]
    rw[E];refine(Nw (ρ':=[↑(.d (.lst (ls.map aq))),↑(.fr ((i.filter λl=>(ls.filter λo=>decide (o≠l)&&subB o l).isEmpty).map aq)),↑(.d (aq l)),↑(.fr ((ls.filter λo=>decide (o≠l)&&subB o l).map aq))]) (show lQ (.fr ((ls.filter λo=>decide (o≠l)&&subB o l).map aq))=true from bO _) ?_ ?_ :)
    .rfl
    refine(ae (nJ (BV _)) ?_ :);have F:(i++[l])++j=ls:=by rw[Ø];exact hd
    have G:((ls.filter λo=>decide (o≠l)&&subB o l).map aq).isEmpty=(ls.filter λo=>decide (o≠l)&&subB o l).isEmpty:=YY;refine ib (b:=((ls.filter λo=>decide (o≠l)&&subB o l).map aq).isEmpty) (λC=>?_) λC=>?_
    .rw[G] at C;refine ip #[gv _,by rw[Ã];exact VA (Í (Wb _ _) (by grind:i.length<=256)) (-0)] ?_
     refine#[rfl,i++[l],j,↑(.d (aq l)),↑(.fr ((ls.filter λo=>decide (o≠l)&&subB o l).map aq)),F,rfl,?_];rw[filter_append,gV,Yt,Zu C];rfl
    .rw[G] at C;refine#[rfl,i++[l],j,↑(.d (aq l)),↑(.fr ((ls.filter λo=>decide (o≠l)&&subB o l).map aq)),F,rfl,?_];rw[filter_append,gV,Yt,Zv (by rw[C];exact ï),List.filter_nil,map_nil,ó]
 .rintro p q ⟨rfl,i,j,s,u,hd,e,rfl⟩;cases j with
  |cons _ _=>cases e
  |nil =>
   rw[ó] at hd;subst hd;exact sd rfl
section
variable {m:Int}{ps cs:Za}{pl:Zh}{p q ls:⇑Zh}{L:Zh}{K:Nat}
theorem qF(k:Nat)(c:∀ L∈p,∀ n∈L,n < 8)(f:p.flatten.length<=1000)(z:Z):aj T (k + 3) kA [.d (ai p)] z=↑(.ok (.d (.bl (wH p))) z):=by
 have g:∀ n∈p.flatten,n < 8:=λn f=>by
  let(L,h,f):=XO.mp f;exact c L h n f
 refine W.ok (aI     rfl rfl (-0) ?_)
 refine eJ (λj l s=>s=z/\∃ (u v:⇑_) (o:Option S),u++v=p/\j=v.map aq/\l=[↑(.d _),↑(.fr (u.flatten.map af)),o]) _ #[rfl,[],p,none,rfl,rfl,(E3 (by show(de _&&true)=true;rw[bO];rfl)).trans rfl] ?_ ?_
 .rintro x r l s ⟨rfl,u,v,o,hd,e,rfl⟩;cases v with
  |nil=>cases e
  |cons L v =>
   cases e;refine(ae (Ab (a:=u.flatten.map af) (b:=L.map af) (by rw[Ã,Ã];exact bU (by grind))) ?_ :)
   refine#[rfl,u++[L],v,↑(.d (aq L)),by simp_all,rfl,?_]
   rw[Ys,W9,flatten_nil,ó,gV];rfl
 .rintro l s ⟨rfl,u,v,o,hd,e,rfl⟩;cases v with
  |cons _ _=>cases e
  |nil =>
   rw[ó] at hd;subst hd;refine(ae (o:=AZ [.lst (u.flatten.map af)]) (a:=.d (~~~((ø 8).filter λi=>u.flatten.contains i).length)) (by
    show(pN (u.flatten.map af)).map _=_;rw[Aa g];rfl) ?_ :)
   refine sb (b:=((((ø 8).filter λi=>u.flatten.contains i).length:Int) == ((u.flatten.map af).length:Int))) ?_;rw[Ã,wk g];rfl
theorem mU(c:K<=8)(f:∀ L∈ls,L∈aW K)(g:ls.Nodup){i:⇑⇑Zh}(j:kO .sorted [.lst ((bR ls).map ai)]=↑(.fr (i.map ai)))(k:Nat)(z:Z):aj T (k + 6) jh [.d (.lst (ls.map aq))] z=↑(.ok (.fr (i.map ai)) z):=by
 refine W.ok (aI     rfl rfl (-0) ?_)
 refine eJ (λl n s=>s=z/\∃ (u v:⇑_) (o:Option S),u++v=ls/\l=v.map aq/\n=[↑(.d _),↑(.fr ((bR u).map ai)),o]) _ #[rfl,[],ls,none,rfl,rfl,(E3 (by show(de _&&true)=true;rw[bO];rfl)).trans rfl] ?_ ?_
 .rintro x r n s ⟨rfl,u,v,o,hd,e,rfl⟩;cases v with
  |nil=>cases e
  |cons L v =>
   cases e;have B:u++[L]++v=ls:=by simp_all
   refine(ae (uw L []) ?_ :);by_cases h:L=[]
   .apply ie  (Zz λq=>q h);refine#[rfl,u++[L],v,↑(.d (aq L)),B,rfl,?_];rw[(by
     show foldl sE _ _=_;rw[foldl_append];exact Zu (by rw[h];rfl):bR (u++[L])=bR u)];rfl
   .refine it (b:=decide (L≠[])) (Zy h) ?_;refine qC k (λa b z=>qF (k + 2) a b z) c (f L (by rw[<-hd];exact Ô _ È)) (λM A=>f M (by rw[<-hd];exact ä _ A)) (g.sublist (by rw[<-B];exact Wc _ _)) (by cases L with | nil=>exact absurd rfl h | cons _ _=>rfl) ?_
    exact#[rfl,u++[L],v,_,B,rfl,rfl]
 .rintro n s ⟨rfl,u,v,o,hd,e,rfl⟩;cases v with
  |cons _ _=>cases e
  |nil =>
   rw[ó] at hd;subst hd;refine(ae j ?_ :);exact sd rfl
end
def wI(b:Bool)(cs:Za):Nat->Int × Int:=if b then cf cs else lj (cf cs)
def mV(b:Bool)(a:Za)(p:⇑Zh):Int × Int:=if b then aY (cf a) p else fv (lj (cf a)) p
theorem rN{i:Int}{n:Nat}(a:0<=i)(h:i<=2 ^ n):i.natAbs<=2 ^ n:=by grind
section
variable {m:Int}{ps cs:Za}{pl:Zh}{p q ls:⇑Zh}{L:Zh}{K:Nat}{c:Nat->Int × Int}{b:Bool}
theorem Kv(a:K<=8)(d:cs.length=K)(e:∀ c∈cs,fU c):∀ n < K,fU (wI b cs n):=λn f=>by
 cases b with
 |true=>exact qv e (_c f (_a d))|false=>exact Ff (qv e (_c f (_a d)))
theorem Dp(h:∀ n∈L,fU (c n))(a:L.length<=8):(qy c L).natAbs<=2 ^ 100/\(jS c L).natAbs<=2 ^ 100/\(jS c L - qy c L).natAbs<=2 ^ 100:=by
 let(d,e):=zW h;let(f,bb):=ja h;have g:jS c L<=2 ^ 100:=VS bb (by
  exact_mod_cast (Nat.pow_le_pow_right (-0) ∅))
 exact#[rN d (VS e g),rN (Vz f) g,rN ∅ ∅]
theorem Kw(a:K<=8)(d:On c p)(l:Lt K p):(qz c p).natAbs<=2 ^ 100/\(iQ c p).natAbs<=2 ^ 100/\(iQ c p - qz c p).natAbs<=2 ^ 100:=by
 let(n0,e,f):=wd d;have g:iQ c p<=2 ^ 100:=VS (zX a d l.nd λL h=>aT (l.aJ L h)) (-0)
 grind
abbrev SQ(cs:Za)(p:⇑Zh)(b:Bool)(t u:Int)(a e f g h:Option S):Env:=[↑(.d (.tup (cs.map pr))),↑(.d (ai p)),↑(.d (.bl b)),↑(.d (~~~t)),↑(.d (~~~u)),a,e,f,g,h]
theorem eB(k:Nat)(a:K<=8)(hc:cs.length=K)(ha:∀ c∈cs,fU c)(l:Lt K p)(z:Z):aj T (k + 6) fJ [.d (.tup (cs.map pr)),.d (ai p),.d (.bl b)] z=↑(.ok (.d (pr (mV b cs p))) z):=by
 have f:=Kv (b:=b) a hc ha;have g:On _ p:=λL h n i=>f n (aT (l.aJ L h) n i);generalize ec:wI b cs=c at f g;refine W.ok (aI     rfl rfl (-0) ?_)
 refine eJ (λj o s=>s=z/\∃ (u v:⇑_) (w y A B C:Option S),u++v=p/\j=v.map aq/\o=SQ cs p b (qz c u) (iQ c u) w y A B C) _ #[rfl,[],p,none,none,none,none,none,rfl,rfl,(E3 (by show(de _&&true)=true;rw[bO];rfl)).trans rfl] ?_ ?_
 .rintro x r o s ⟨rfl,u,v,w,y,A,B,C,hd,e,rfl⟩;cases v with
  |nil=>cases e
  |cons L v =>
   cases e;have h:L∈p:=by rw[<-hd];exact Ô _ È
   have l8:=dE (l.aJ L h);have lk:=aT (l.aJ L h);have sub:u.Sublist p:=by rw[<-hd];exact Wc _ _
   have E:=Kw a (λM hM=>g M (sub.subset hM)) (l.sub sub);refine eJ (λj o F=>F=s/\∃ (G H:Zh) (B C:Option S),G++H=L/\j=H.map af/\o=SQ cs p b (qz c u) (iQ c u) ↑(.d (aq L)) ↑(.d (~~~(qy c G))) ↑(.d (~~~(jS c G))) B C) _ #[rfl,[],L,_,_,rfl,rfl,(E3 (by show(de (L.map af)&&true)=true;rw[gv];rfl)).trans rfl] ?_ ?_
   .rintro x r o F ⟨rfl,G,H,B,C,hd2,e,rfl⟩;cases H with
    |nil=>cases e
    |cons n H =>
     cases e;have I:n∈L:=by rw[<-hd2];exact Ô _ È
     have J:=lk n I;have N:G.length<=8:=by have:=congrArg List.length hd2;rw[Ó] at this;exact so (Ñ (Ñ (_c (_b (VO _ _)) this) l8) a)
     have P:∀ n∈G,fU (c n):=λn i=>f n (lk n (by rw[<-hd2];exact ä _ i))
     have b2:=Dp P N;have U:=f n J;have b3:=Dp (L:=[n]) (c:=c) (λn' h'=>by rw[Ë.mp h'];exact U) (by show 1<=8;decide)
     have et:qy c [n]=(c n).1:=mul_one _;have eb:jS c [n]=(c n).2:=mul_one _;rw[et,eb] at b3;have e1:qy c (G++[n])=qy c G * (c n).1:=by delta qy;rw[gV,qx];exact congrArg _ (mul_one _)
     have e2:jS c (G++[n])=jS c G * (c n).2:=by
      show jt _=jt _ * _;rw[gV,qx];exact congrArg _ (mul_one _)
     have X:=(#[rfl,G++[n],H,↑(.d (af n)),↑(.d (pr (cf cs n))),by rw[Ø];exact hd2,rfl,rfl]:F=F/\∃ (d3 r3:Zh) (B C:Option S),d3++r3=L/\H.map af=r3.map af/\SQ cs p b (qz c u) (iQ c u) ↑(.d (aq L)) _ _ _ _=SQ cs p b _ _ _ ↑(.d (~~~(qy c d3))) ↑(.d (~~~(jS c d3))) B C)
     rw[e1,e2] at X;refine(ae (zM (cs:=cs) (n:=n) (_c J (_a hc))) ?_ :)
     subst ec;cases b with
     |true =>
      refine(ae (gS  (-0) b2.1 b3.1) ?_ :)
      refine(ae (gS  (-0) b2.2.1 b3.2.1) ?_ :)
      exact X
     |false =>
      refine(ae (gS  (-0) b2.1 b3.1) ?_ :)
      refine(ae (gS  (-0) b2.2.1 b3.2.1) ?_ :)
      exact X
   .rintro o F ⟨rfl,G,H,B,C,hd2,e,rfl⟩;cases H with
    |cons _ _=>cases e
    |nil =>
     rw[ó] at hd2;subst hd2;have b2:=Dp (g G h) (Í l8 a)
     refine(ae (gS  (-0) E.1 b2.2.2) ?_ :)
     refine(ae (gS  (-0) E.2.1 b2.2.1) ?_ :)
     have e1:qz c (u++[G])=qz c u * (jS c G - qy c G):=by delta qz;rw[gV,qx];exact congrArg _ (mul_one _)
     have e2:iQ c (u++[G])=iQ c u * jS c G:=by delta iQ;rw[gV,qx];exact congrArg _ (mul_one _)
     rw[<-e1,<-e2];exact#[rfl,_,v,_,_,_,_,_,by rw[Ø];exact hd,rfl,rfl]
 .rintro o s ⟨rfl,u,v,w,y,A,B,C,hd,e,rfl⟩;cases v with
  |cons _ _=>cases e
  |nil =>
   rw[ó] at hd;subst hd;have E:=Kw a g l;let(n0,nb,Y):=wd g;subst ec;cases b with
   |true =>
    rw[show mV true cs u=dH _ _ from Rt.eqv (Di g) (Rt.low Y) Y];exact Wo (jo _ _ _ s Y (E7  (-0) E.2.1)) (sd rfl)
   |false =>
    rw[show mV false cs u=dH _ _ from Rt.eqv (uu g) (Rt.low Y) Y];exact Wo (jo _ _ _ s Y (E7  (-0) E.2.1)) (sd rfl)
end
section
variable {m:Int}{ps cs:Za}{pl:Zh}{p q ls:⇑Zh}{L:Zh}{K:Nat}{c:Nat->Int × Int}{b:Bool}{P:⇑⇑Zh}
abbrev Ca(v w:Int × Int):Prop:=v.1 * w.2 < w.1 * v.2
def kZ(f:⇑Zh->Int × Int)(P:⇑⇑Zh)(n:Nat):⇑Zh:=match fg (P.map f) n with
 |↑i=>P.getD i []|none=>[]
theorem Fp{f:⇑Zh->Int × Int}{i:Nat}(h:i < P.length):lf (P.map f) i=f (P.getD i []):=by simp_all
theorem B5{f:⇑Zh->Int × Int}(a:P.head?=↑[])(h:n < P.length):kZ f P (n + 1)=if Ca (f (kZ f P n)) (f (P.getD n [])) then P.getD n [] else kZ f P n:=by
 cases e:fg _ n with
 |none =>
  have n0:n=0:=by
   rcases Nat.eq_zero_or_pos n with q | q
   .exact q
   .let(i,d):=ui (l:=P.map f) q;rw[e] at d;cases d
  subst n0;have g:P.getD 0 []=[]:=by
   cases P with
   |nil=>rfl|cons x r=>cases a;rfl
  have d:kZ f P (0 + 1)=P.getD 0 []:=rfl;rw[d,g];split <;> rfl
 |some i =>
  have k:kZ f P n=P.getD i []:=by delta kZ;rw[e]
  delta kZ at k ⊢
  rw[k];unfold fg;rw[e];dsimp only;rw[Fp (Ñ (sD e) (so h)),Fp h]
  by_cases q:Ca (f (P.getD i [])) (f (P.getD n []))
  .rw[Zu q,Zu q]
  .rw[Zv q,Zv q]
theorem Nx(b:Bool)(p q:⇑Zh):(if b then decide (Ca (mV b cs p) (mV b cs q)) else decide (Ca (mV b cs q) (mV b cs p)))=decide (Ca (aY (wI b cs) p) (aY (wI b cs) q)):=by
 cases b with
 |true=>rfl
 |false =>
  show decide (Ca (fv _ q) (fv _ p))=decide (Ca (Dh (fv (lj _) p)) (Dh (fv (lj _) q)));generalize fv _ q=v;generalize fv _ p=w;apply decide_eq_decide.mpr;show v.1 * w.2 < w.1 * v.2↔(w.2 - w.1) * v.2 < (v.2 - v.1) * w.2
  grind
theorem Fq(a:K<=8)(d:cs.length=K)(e:∀ c∈cs,fU c)(l:Lt K p):Bs 100 (mV b cs p):=by
 have f:On (wI b cs) p:=λL g n h=>Kv a d e n (aT (l.aJ L g) n h);cases b with
 |true=>exact(rK a f l).1|false=>exact(rK a f l).2
abbrev Qk(cs:Za)(ls:⇑Zh)(b:Bool)(p:⇑Zh)(a e f:Option S):Env:=[↑(.d (.tup (cs.map pr))),↑(.d (.lst (ls.map aq))),↑(.d (.bl b)),↑(.d (ai p)),↑(.d (pr (mV b cs p))),a,e,f]
theorem sM(k:Nat)(a:K<=8)(g:∀ L∈ls,L∈aW K)(j:ls.Nodup)(l:cs.length=K)(o:∀ c∈cs,fU c)(s:P.Perm (bR ls))(hd:P.head?=↑[])(es:kO .sorted [.lst ((bR ls).map ai)]=↑(.fr (P.map ai)))(z:Z):aj T (k + 9) fo [.d (.tup (cs.map pr)),.d (.lst (ls.map aq)),.d (.bl b)] z=↑(.ok (.d (ai (kZ (aY (wI b cs)) P P.length))) z):=by
 have lt:∀ q∈P,Lt K q:=λq u=>(fN (s.mem_iff.mp u)).lt g;have v:Lt K []:=#[(λL h=>nomatch h),(λh=>nomatch h),List.Pairwise.nil];have w:∀ n≤P.length,Lt K (kZ _ P n):=λn y=>by
  delta kZ
  cases e:fg (P.map (aY (wI b cs))) n with
  |none=>exact v
  |some i =>
   grind
 refine W.ok (aI     rfl rfl (-0) ?_)
 apply Wo (eB   _ a l o v z);apply Wo (mU a g j es _ z);refine eJ (λxs A B=>B=z/\∃ (C E:⇑_) (F G H:Option S),C++E=P/\xs=E.map ai/\A=Qk cs ls b (kZ (aY (wI b cs)) P C.length) F G H) _ #[rfl,[],P,none,none,none,rfl,rfl,?_] ?_ ?_
 .exact rfl
 .rintro x r A B ⟨rfl,C,E,F,G,H,hd2,e,rfl⟩;cases E with
  |nil=>cases e
  |cons q E =>
   cases e;have u:q∈P:=by rw[<-hd2];exact Ô _ È
   have y:C.length < P.length:=by rw[<-hd2,Ó,ã];exact _K (_v _)
   have eq:P.getD C.length []=q:=by rw[<-hd2,Ì,Vm (Ò _),sub_self];rfl
   have I:=B5 (f:=aY (wI b cs)) hd y;rw[eq] at I;have J:=Fq (b:=b) a l o (w C.length (so y))
   have b2:=Fq (b:=b) a l o (lt q u);have sl:=Nx (cs:=cs) b (kZ (aY (wI b cs)) P C.length) q;have N:C++[q]++E=P:=by rw[Ø];exact hd2
   have ln:(C++[q]).length=C.length + 1:=Ó;rw[<-ln] at I;have U:∀ F G H ,B=B/\∃ (X Y:⇑_) (p5 p6 p7:Option S),X++Y=P/\E.map ai=Y.map ai/\Qk cs ls b (kZ (aY (wI b cs)) P _) F G H=Qk cs ls b (kZ _ P X.length) p5 p6 p7:=λF G H=>#[rfl,_,E,F,G,H,N,rfl,rfl];rw[I] at U;refine Wo (eB   _ a l o (lt q u) B) ?_;refine(ae (gS  (-0) J.t b2.b) ?_ :)
   refine(ae (gS  (-0) b2.t J.b) ?_ :)
   cases b with
   |true =>
    refine ib  (λh=>?_) λh=>?_
    .rw[Zu (ZA (sl.symm.trans h))] at U;exact U _ _ _
    .rw[Zv (of_decide_eq_false (sl.symm.trans h))] at U;exact U _ _ _
   |false =>
    refine(ae (gS  (-0) b2.t J.b) ?_ :)
    refine(ae (gS  (-0) J.t b2.b) ?_ :)
    refine ib  (λh=>?_) λh=>?_
    .rw[Zu (ZA (sl.symm.trans h))] at U;exact U _ _ _
    .rw[Zv (of_decide_eq_false (sl.symm.trans h))] at U;exact U _ _ _
 .rintro A B ⟨rfl,C,E,F,G,H,hd2,e,rfl⟩;cases E with
  |cons _ _=>cases e
  |nil =>
   rw[ó] at hd2;subst hd2;exact sd rfl
end
theorem yp:∀ {a b:⇑D},bu (a++b)=(bu a&&bu b)
 |[],b=>rfl
 |x::a,b=>by
  show(dz x&&bu (a++b))=((dz x&&bu a)&&bu b);rw[yp,Bool.and_assoc]
theorem yq:∀ {a b:⇑D},cj (a++b)=Nat.max (cj a) (cj b)
 |[],b=>(Nat.zero_max _).symm
 |x::a,b=>by
  show Nat.max _ (cj (a++b))=Nat.max _ _;rw[yq];exact(Nat.max_assoc _ _ _).symm
theorem B6{a b:⇑D}(c:f7 a)(d:f7 b):f7 (a++b):=by
 delta f7 at c d ⊢
 rw[Á,Zw] at c d ⊢;rw[yp,yq,c.1,d.1];exact#[rfl,Nat.max_le.mpr #[c.2,d.2]]
theorem Su(h:f7 l):iA (.tup l):=by
 delta f7 at h
 delta iA
 rw[Á,Zw] at h ⊢;exact#[h.1,by exact XC h.2]
theorem Kx(h:dz x)(a:deep x<=39):f7 [x]:=by
 delta f7
 rw[Á,Zw];refine#[by show(dz x&&true)=true;rw[h];rfl,?_]
 show Nat.max _ 0<=39
 simp_all
theorem Fs(h:l.length≠n):gG n (.tup l)=false:=by
 delta gG
 simp_all
theorem Ag{a b:⇑D}(h:EX x=false):gG n (.tup (a++[x]++b))=false:=by
 delta gG
 simp_all
theorem MD{l:Za}:fB .ne (.tup (l.map pr)) (.tup [])=↑(!(l.map pr).isEmpty):=by
 show(Lw _ _).map _=_
 delta Lw
 rw[Mr];cases l <;> rfl
theorem wy(k:Nat)(x:D)(z:Z):aj T (k + 3) qd [.d x] z=↑(.ok (.d (.bl (jn x))) z):=by
 refine W.ok (aI    rfl rfl (-0) ?_)
 cases x with
 |_=>exact sd rfl
theorem GV(h:jn x):∃ i,x= ~~~i:=by
 cases x with
 |int i=>exact#[i,rfl]|_=>cases h
theorem sO(c:D->Bool):∀ {l:⇑D},f7 l->f7 (l.filter c):=λ{l} h=>by
 delta f7 at h ⊢
 rw[Á,Zw] at h ⊢
 induction l with
 |nil=>exact h
 |cons x r a =>
  have d:(dz x&&bu r)=true:=h.1;have e:Nat.max _ _<=39:=h.2;rw[Á] at d;rw[Nat.max_le] at e;have a:=a #[d.2,e.2];rw[Yt];split
  .refine#[?_,?_]
   .show(dz x&&bu _)=true;rw[d.1,a.1];rfl
   .exact Nat.max_le.mpr #[e.1,a.2]
  .exact a
theorem Ny(h:f7 l):iA (.lst l):=Su h
def sZ:D->Bool
 |.tup l=>f7 l&&decide (l.length<=1000)|_=>true
theorem Dq(h:sZ x):short x:=by
 cases x with
 |tup l =>
  delta sZ at h
  rw[Á] at h;exact h.2
 |_=>rfl
theorem g6:∀ {l:⇑D},(∀ x∈l,jn x)->∃ a:Zl,l=a.map D.int
 |[],_=>#[[],rfl]
 |x::r,h=>by
  let(i,rfl):=GV (h x È);let(a,rfl):=g6 λy c=>h y (Î _ c);exact#[i::a,rfl]
theorem nk:∀ {ns:Zl},(∀ x∈ns,0<=x)->∃ l:Zh,ns.map D.int=l.map af
 |[],_=>#[[],rfl]
 |x::r,h=>by
  let(i,rfl):=Xp (h x È);let(l,e):=nk λy a=>h y (Î _ a);exact#[_,by rw[Xc,Xc,e];rfl]
theorem wz:∀ {l:Zh},(∀ x∈l,x < 8)->oz (l.map af)=↑l
 |[],_=>rfl
 |x::r,h=>by
  show(if 0<=(x:Int)/\(x:Int) < 8 then(oz _).map _ else none)=_;rw[Zu (⟨_e _,_p (_n (h x È)) (_E _)⟩),wz λy c=>h y (Î _ c)];rfl
def dedup(l:Zh):Zh:=(ø 8).filter λi=>l.contains i
theorem Ky(h:∀ x∈l,x < 8)(c:l.Pairwise (· < ·)):dedup l=l:=by
 have d:(dedup l).Pairwise _:=WR _ WQ;apply Ws  (λa b _ _ e d=>_m (so e) (so d)) d c
 refine(W3 (d.imp λh=>Û h) (c.imp λh=>Û h)).mpr λx=>?_
 delta dedup
 simp_all
theorem yt:∀ {l:Zh},lg (l.map af) (l.map af)
 |[]=>rfl
 |x::r=>by
  show((x:Int) == (x:Int)&&lg _ _)=true;rw[beq_self_eq_true,yt];rfl
theorem Kz:∀ {l:Zh},jP (l.map af)->l.Pairwise (· < ·)
 |[],_=>.nil|[_],_=>.cons (λ_ h=>nomatch h) .nil
 |x::y::r,h=>by
  have h:(decide _&&jP _)=true:=h;rw[Á,Zw] at h;have a:=Kz  h.2;refine .cons (λz hz=>?_) a;rcases ì.mp hz with rfl | hz
  .exact _i h.1
  .exact Ñ (_i h.1) (so ((V5.mp a).1 z hz))
theorem GW(a:∀ p∈c,p < 8):kO .sset [.tup (c.map af)]=↑(.fr ((dedup c).map af)):=by
 show(oz _).map _=_;rw[wz a];rfl
theorem GY(k:Nat)(c:m<=8)(h:sZ x)(z:Z):∃ b,aj T (k + 4) gB [.d (~~~m),.d x] z=↑(.ok (.d (.bl b)) z)/\(b=false->nW m x=false)/\(b->∃ l,x=.tup l):=by
 have f:∀ {x:D},(∀ l,x≠.tup l)->CG _ x=false->∃ b,aj T (k + 4) gB [.d (~~~m),.d x] z=↑(.ok (.d _) z)/\(b=false->nW m x=false)/\(b=true->∃ l,x=.tup l):=λ{x} g j=>by
  refine#[false,W.ok (aI    rfl rfl (-0) ?_),λ_=>?_,λh=>nomatch h]
  .apply it  (by rw[j];rfl)
   exact sd rfl
  .cases x with
   |tup l=>exact absurd rfl (g l)|_=>rfl
 cases x with
 |tup l =>
  delta sZ at h
  rw[Á,Zw] at h;by_cases hw:(l.filter λx=>!jn x)=[]
  .let(r,rfl):=g6 (λx q=>by
    simpa using (Y4.mp hw x q));by_cases s:((r.map D.int).filter λx=>!bK x m)=[]
   .have u :=λx q=>by
     have:=Y4.mp s _ (Ç.mpr #[x,q,rfl]);unfold bK at this;simpa using this
    let(v,e):=nk λx q=>(u x q).1;have w:∀ p∈v,p < 8:=λp y=>by
     let(i,A,B):=Ç.mp (by rw[e];exact Ç.mpr #[p,y,rfl]);have g:=u i A;have C :=by injection B
     omega
    refine#[lg (v.map af) ((dedup v).map af),W.ok (aI (ps:=2) (ns:=2) (b:=eP) rfl rfl (-0) ?_),λE=>?_,λ_=>#[_,rfl]]
    .refine ip (bU h.2) (gn (λx=>!jn x) (λx=>x) (λx q=>?_) ?_)
     .exact Wo (wy k x z) #[rfl,rfl,λ_=>#[rfl,rfl]]
     .rw[hw];refine ip (bU h.2) (gn (λx=>!bK x m) (λx=>x) (λx q=>?_) ?_)
      .let(i,A,rfl):=Ç.mp q;have g:=u i A;refine it (b:=decide ((0:Int)<=i)) (Zy g.1) ?_;refine#[?_,rfl,λ_=>#[rfl,rfl]];show S.d (.bl (!decide (i < m)))=S.d (.bl (!(decide (0<=i)&&decide (i < m))));rw[Zy g.1];rfl
      .rw[s,e];refine(ae (o:=kO .sset [.tup (v.map af)]) (GW w) ?_ :);refine(ae (o:=eqQ (.lst (v.map af)) (.lst ((dedup v).map af))) (a:=lg (v.map af) ((dedup v).map af)) (by delta eqQ;rw[gH,gH];rfl) ?_ :)
       exact sd rfl
    .cases y:nW m (.tup (r.map D.int)) with
     |false=>rfl
     |true =>
      exfalso;rw[e] at y
      delta nW at y
      rw[Á,Á] at y;have F:=Kz y.1.2;rw[Ky w F,yt] at E;cases E
   .refine#[false,W.ok (aI (ps:=2) (ns:=2) (b:=eP) rfl rfl (-0) ?_),λ_=>?_,λh=>nomatch h]
    .refine ip (bU h.2) (gn (λx=>!jn x) (λx=>x) (λx q=>?_) ?_)
     .exact Wo (wy k x z) #[rfl,rfl,λ_=>#[rfl,rfl]]
     .rw[hw];refine ip (bU h.2) (gn (λx=>!bK x m) (λx=>x) (λx q=>?_) ?_)
      .let(i,A,rfl):=Ç.mp q;refine ib (b:=decide ((0:Int)<=i)) (λg=>?_) λg=>?_
       .refine#[?_,rfl,λ_=>#[rfl,rfl]];show S.d (.bl (!decide (i < m)))=S.d (.bl (!(decide (0<=i)&&decide (i < m))));rw[g];rfl
       .refine#[?_,rfl,λ_=>#[rfl,rfl]];show S.d (.bl (!false))=S.d (.bl (!(decide (0<=i)&&decide (i < m))));rw[g];rfl
      .rw[YB];refine(ae (ne_nil (Ny (sO _ h.1))) ?_ :);refine it (b:=!((r.map D.int).filter λx=>!bK x m).isEmpty) ?_ ?_
       .cases G:(r.map D.int).filter λx=>!bK x m with
        |nil=>exact absurd G s|cons _ _=>rfl
       .exact sd rfl
    .show((r.map D.int).all (λx=>bK x m)&&jP (r.map D.int)&&!(r.map D.int).isEmpty)=false;have:(r.map D.int).all (λx=>bK x m)=false:=by
      cases H:(r.map D.int).all (λx=>bK x m) with
      |false=>rfl|true=>exact absurd (Y4.mpr λx q=>by rw[Ù.mp H x q];decide) s
     rw[this];rfl
  .refine#[false,W.ok (aI (ps:=2) (ns:=2) (b:=eP) rfl rfl (-0) ?_),λ_=>?_,λh=>nomatch h]
   .refine ip (bU h.2) (gn (λx=>!jn x) (λx=>x) (λx q=>?_) ?_)
    .exact Wo (wy k x z) #[rfl,rfl,λ_=>#[rfl,rfl]]
    .rw[YB];refine(ae (ne_nil (Ny (sO _ h.1))) ?_ :);refine it (b:=!(l.filter λx=>!jn x).isEmpty) ?_ ?_
     .cases G:l.filter λx=>!jn x with
      |nil=>exact absurd G hw|cons _ _=>rfl
     .exact sd rfl
   .show(l.all (λx=>bK x m)&&jP l&&!l.isEmpty)=false;have:l.all (λx=>bK x m)=false:=by
     cases H:l.all (λx=>bK x m) with
     |false=>rfl
     |true=>exact absurd (Y4.mpr λx q=>by
       let(i,rfl,_):=gu (Ù.mp H x q);exact λh=>nomatch h) hw
    rw[this];rfl
 |_=>exact f (λl h=>nomatch h) rfl
theorem qG(l:Zh)(a c:Zq):∃ d:Zh,cutD (l.map af) a c=d.map af/\d.length<=l.length:=by
 delta cutD
 refine#[_,by rw[<-map_drop,<-map_take],?_]
 rw[õ,Vq];exact Í (_j _ _) (_o _ _)
theorem Ah{a b:Zh}(c:a.length<=10)(d:b.length<=10)(e:(dz x&&decide (deep x<=39))):sZ (.tup (a.map af++[x]++b.map af)):=by
 rw[Á,Zw] at e;show(f7 _&&decide _)=true;rw[B6 (B6 (jT a) (Kx e.1 e.2)) (jT b)];apply Zy;rw[Ó,vW,Ã,Ã];omega
theorem wA{a:Zh}(c:a.length<=100):sZ (.tup (a.map af)):=by
 show(f7 _&&decide _)=true;rw[jT a]
 grind
theorem GZ(l:Zh):(dz (.tup (l.map af))&&decide (deep (.tup (l.map af))<=39)):=by
 let(a,c):=nF _;show(bu _&&decide (cj _ + 1<=39))=true;rw[(by rw[à];rfl:l.map af=(l.map _).map D.int),a,c];rfl
theorem wC(k:Nat)(c:0<=m)(f:m<=8){pl:Zh}(g:pl.length<=8)(hz:ZI z):W (aj T (k + 4) eZ [.z,.d (~~~m),.d (.tup (pl.map af))]) z (λs h=>ZI h/\∃ x,s=.d x/\sZ x) NE:=by
 have i:(pl.map af).length=pl.length:=Ã _;apply zF hz (ps:=3)   rfl rfl (-0)
 refine(bN k _ hz ∅ ∅).imp λs h #[j,a,e,a1]=>?_
 subst e;refine(bN k _ j ∅ ∅).imp λs l #[o,w,e,p]=>?_
 subst e;refine(bN k 10 o (-0) (-0)).imp λs q #[r,v,e,v1]=>?_
 subst e;refine(E1 (n:=v) (λx=>dz x&&decide (deep x<=39)) ?_ ?_ ?_ :)
 .show v < 10;exact _i v1
 .have hs:(dz (.str "0")&&decide (deep (.str "0")<=39))=true:=by decide +kernel
  show List.all [D.int w,~~~m,~~~(-1),.bl true,.cq,.str "0",.tup [~~~0],.bl false,~~~((10:Int) ^ (29:Int).toNat),~~~0] (λx=>dz x&&decide (deep x<=39))=true;refine Ù.mpr λy A=>?_;simp only[VP,Vp,ZE] at A;rcases A with rfl | rfl | rfl | rfl | rfl | rfl | rfl | rfl | rfl | rfl
  .rfl
  .rfl
  .rfl
  .rfl
  .rfl
  .exact hs
  .rfl
  .rfl
  .rfl
  .rfl
 .intro x B;let(C,E,c1):=qG pl none ↑(a:Int);let(F,G,c2):=qG pl ↑(a:Int) none;let(H,I,c3):=qG pl ↑((a:Int) + 1) none;let(J,K,c4):=qG pl ↑(-1) none;have N:f9 .add (.tup (cutD (pl.map af) none ↑(a:Int))) (.tup [x])=↑(.d (.tup (C.map af++[x]))):=by rw[E];exact iK (by rw[Ã];show _ + 1<=_;omega)
  refine(ae N ?_ :);refine(ae (show f9 .add (.tup (C.map af++[x])) (.tup (cutD (pl.map af) ↑(a:Int) none))=↑(.d (.tup (C.map af++[x]++F.map af))) from by rw[G];exact iK (by rw[vW,Ã,Ã];omega)) ?_ :)
  refine(ae N ?_ :);refine(ae (show f9 .add (.tup (C.map af++[x])) (.tup (cutD (pl.map af) ↑((a:Int) + 1) none))=↑(.d (.tup (C.map af++[x]++H.map af))) from by rw[I];exact iK (by rw[vW,Ã,Ã];omega)) ?_ :)
  refine(ae (show f9 .add (.tup (cutD (pl.map af) none ↑(a:Int))) (.tup (cutD (pl.map af) ↑((a:Int) + 1) none))=↑(.d (.tup (C.map af++H.map af))) from by rw[E,I];exact iK (by rw[Ã,Ã];omega)) ?_ :)
  refine(ae (show f9 .add (.tup (pl.map af)) (.tup (cutD (pl.map af) ↑(-1) none))=↑(.d (.tup (pl.map af++J.map af))) from by rw[K];exact iK (by rw[Ã,Ã];omega)) ?_ :)
  refine(bN k 11 r (-0) (-0)).imp λs P #[U,u,e,X]=>?_
  subst e;refine(E1 (L:=[.tup (C.map af++[x]++F.map af),.tup (C.map af++[x]++H.map af),.tup (C.map af++H.map af),.lst (pl.map af),.tup (pl.map af).reverse,.tup (pl.map af++J.map af),.cq,.dct,~~~0,.tup [.tup (pl.map af)],.tup []]) (n:=u) sZ ?_ ?_ ?_ :)
  .show u < 11;exact _i X
  .rw[<-gV,<-gV,<-List.map_reverse];simp only[V4,all_nil,Bool.and_true,Á];refine#[Ah (Í c1 (Í g (_d (VH _)))) (Í c2 (Í g (_d (VH _)))) B,Ah (Í c1 (Í g (_d (VH _)))) (Í c3 (Í g (_d (VH _)))) B,wA (by rw[Ó];omega),rfl,wA (by rw[Xd];exact Í g (_d (VH _))),wA (by rw[Ó];omega),rfl,rfl,rfl,Ah (a:=[]) (b:=[]) (-0) (-0) (GZ pl),rfl]
  .exact λy A=>#[U,y,rfl,A]
theorem xf(k:Nat)(a:1<=m)(c:m<=6){pl:Zh}(e:pl.length<=6)(hz:ZI z):W (aj T (k + 4) eZ [.z,.d (~~~m),.d (.tup (pl.map af))]) z (λs f=>ZI f/\∃ x,s=.d x/\sZ x) NE:=wC k (Vz a) ∅ (Í e (_d (VH _))) hz
theorem KA(k:Nat)(a:m<=6)(h:sZ x)(z:Z):∃ b,aj T (k + 4) gB [.d (~~~m),.d x] z=↑(.ok (.d (.bl b)) z)/\(b=false->nW m x=false)/\(b->∃ l,x=.tup l):=GY k ∅ h z
section
variable {m:Int}{ps cs:Za}{pl:Zh}
theorem sP(k:Nat)(c:ps.length<=8)(l:Zh)(z:Z):aj T (k + 3) mm [.d (cx m ps),.d (aq l)] z=↑(.ok (.d (aq (cW ps.length l))) z):=by
 refine W.ok (aI     rfl rfl (-0) ?_)
 refine(ae  (nK (n:=(ps.map pr).length) (by rw[Ã];exact VA c (_F (_v _)))) ?_ :)
 rw[show(ps.map pr).length=ps.length from Ã _];refine ip (by grind) (gn (λx=>match x with | ~~~i=>!l.contains i.toNat | _=>false) id (λx e=>?_) ?_)
 .let(n,f,rfl):=Ç.mp e;refine(ae (o:=(lI _ _).map _) (a:=!l.contains n) (by rw[hY,YS];rfl) ?_ :)
  exact#[rfl,rfl,λ_=>#[rfl,rfl]]
 .have g:List.map id (filter (λx=>match x with | ~~~i=>!l.contains i.toNat | _=>false) ((range' 0 ps.length).map af))=(cW ps.length l).map af:=by
   rw[map_id,VW,<-WW];rfl
  rw[g];exact sd rfl
theorem qH(k:Nat)(g:aR m ps)(a:bH m pl)(z:Z):aj T (k + 6) fH [.d (cx m ps),.d (.tup (pl.map af))] z=↑(.ok (.fr ((bW (dM m ps pl)).map aq)) z):=by
 have c:=g.len;refine W.ok (aI     rfl rfl (-0) ?_)
 apply Wo (mM  rfl _   (by simp_all) z)
 rw[Ã];refine ip (by rw[Ã];exact bU (Í (eR c) (-0))) (gn (λx=>bE ps m.toNat pl (bo x)) (λx=>x) (λx e=>?_) ?_)
 .let(l,f,rfl):=Ç.mp e;refine Wo (ij _ g a (uh c f) z) #[?_,rfl,λ_=>#[rfl,rfl]];rw[aH]
 .have h:((fq ps.length).map aq).filter (λx=>bE ps m.toNat pl (bo x))=(dM m ps pl).map aq:=by
   rw[VW]
   congr 1
   refine VG λl _=>?_;show bE ps m.toNat pl _=_;rw[aH]
  rw[YB,h];refine Wo (ik (k + 2) (Dg g) (λl f=>rH g ((iM g).mp f).1) z) (sd ?_);rw[Fc g a]
theorem qI(k:Nat)(g:aR m ps)(a:bH m pl)(z:Z):aj T (k + 6) fI [.d (cx m ps),.d (.tup (pl.map af))] z=↑(.ok (.fr ((bW (fu m ps pl)).map aq)) z):=by
 have c:=g.len;refine W.ok (aI     rfl rfl (-0) ?_)
 apply Wo (mM  rfl _   (by simp_all) z)
 rw[Ã];refine ip (by rw[Ã];exact bU (Í (eR c) (-0))) (gn (λx=>!bE ps m.toNat pl (cW ps.length (bo x))) (λx=>x) (λx e=>?_) ?_)
 .let(l,f,rfl):=Ç.mp e;refine Wo (sP _ c l z) (Wo (ij _ g a (λn h=>kI h) z) #[?_,rfl,λ_=>#[rfl,rfl]]);rw[aH]
 .have i:((fq ps.length).map aq).filter (λx=>!bE ps m.toNat pl (cW ps.length (bo x)))=(fu m ps pl).map aq:=by
   rw[VW]
   congr 1
   refine VG λl _=>?_;show(!bE ps m.toNat pl (cW ps.length (bo (aq l))))=_;rw[aH]
  rw[YB,i];refine Wo (ik (k + 2) (Ko g) (λl f=>rH g ((ig g).mp f).1) z) (sd ?_);rw[Fd g a]
theorem Ft(k:Nat)(g:aR m ps)(a:nW m x=false)(hs:short x)(z:Z):aj T (k + 11) ko [.d (cx m ps),.d x] z=↑(.er 2 z) :=
 W.er (aI     rfl rfl (-0) (We (W.er (aI     rfl rfl (-0) (Wo (cV _ z g.Am) (We (kW _  z a hs) #[rfl,aV z])))) #[rfl,aV z]))
theorem Fu(k:Nat)(g:aR m ps)(a:nW m x=false)(hs:short x)(z:Z):aj T (k + 11) kq [.d (cx m ps),.d x] z=↑(.er 2 z) :=
 W.er (aI     rfl rfl (-0) (We (W.er (aI     rfl rfl (-0) (Wo (cV _ z g.Am) (We (kW _  z a hs) #[rfl,aV z])))) #[rfl,aV z]))
end
section
variable {m:Int}{ps cs:Za}{x y w:D}
theorem Nz(k:Nat)(hw:jN w=false)(z:Z):aj T (k + 14) aN [.d w,.d y,.d x] z=↑(.er 0 z) :=
 W.er (aI     rfl rfl (-0) (We (jO _ hw y z) #[rfl,aV z]))
theorem NA(k:Nat)(g:aR m ps)(a:gG ps.length y=false)(z:Z):aj T (k + 14) aN [.d (cx m ps),.d y,.d x] z=↑(.er 6 z) :=
 W.er (aI     rfl rfl (-0) (We (eA _   g.Am z (by simp_all)) #[rfl,aV z]))
theorem NB(k:Nat)(g:aR m ps)(a:cs.length=ps.length)(e:∀ c∈cs,fU c)(f:nW m x=false)(hs:short x)(z:Z):aj T (k + 14) aN [.d (cx m ps),.d (.tup (cs.map pr)),.d x] z=↑(.er 2 z) :=
 W.er (aI     rfl rfl (-0) (Wo (bG _   g.Am z (mL (by simp_all) e)) (We (Ft _ g f hs z) #[rfl,aV z])))
theorem Sv(k:Nat)(hw:jN w=false)(z:Z):aj T (k + 14) aQ [.d w,.d y,.d x] z=↑(.er 0 z) :=
 W.er (aI     rfl rfl (-0) (We (jO _ hw y z) #[rfl,aV z]))
theorem Sw(k:Nat)(g:aR m ps)(a:gG ps.length y=false)(z:Z):aj T (k + 14) aQ [.d (cx m ps),.d y,.d x] z=↑(.er 6 z) :=
 W.er (aI     rfl rfl (-0) (We (eA _   g.Am z (by simp_all)) #[rfl,aV z]))
theorem Sx(k:Nat)(g:aR m ps)(a:cs.length=ps.length)(e:∀ c∈cs,fU c)(f:nW m x=false)(hs:short x)(z:Z):aj T (k + 14) aQ [.d (cx m ps),.d (.tup (cs.map pr)),.d x] z=↑(.er 2 z) :=
 W.er (aI     rfl rfl (-0) (Wo (bG _   g.Am z (mL (by simp_all) e)) (We (Fu _ g f hs z) #[rfl,aV z])))
theorem KC(k:Nat)(h:aj T (k + 14) aN [.d w,.d y,.d x] z=↑(.er e z)):aj T (k + 15) iH [.d w,.d y,.d x] z=↑(.er e z) :=
 W.er (aI     rfl rfl (-0) (We h #[rfl,aV z]))
end
theorem P8(h:cs≠[]):EX (.tup (cs.map pr))=false:=by
 match cs,h with
 |[_],_=>rfl|[_,_],_=>rfl|_::_::_::_,_=>rfl
theorem P9{u:Nat}(a:(u:Int) < (L.length:Nat))(h:∀ q∈L,K q):cD (iP (.lst L) (~~~u)) K:=by
 have a:=_i a
 exact ae (mK (ß a)) (h _ (V3 a))
abbrev US(n:Nat):Sm:=rec ff (λ_ r=>tl r) n
theorem KD{a b:⇑D}(h:a.length + b.length<=most):f9 .add (.lst a) (.lst b)=↑(.fr (a++b)):=Zu h
theorem Fv(k:Nat)(a:1<=L.length)(c:L.length<=100)(h:∀ q∈L,gG n q=false)(hz:ZI z):WS (oA T (k + 1 + 2)) false (US 5) [↑.z,f,g,i,↑(.fr L)] z (λo j=>ZI j/\∃ y,o=.rt (.d y)/\gG n y=false) NE:=by
 refine(bN k _ hz (_C (_e _) (_n (_r a))) ∅).imp λs l #[m,u,e,p]=>?_
 subst e;exact P9 p λq r=>#[m,q,rfl,h q r]
theorem KG(k:Nat){c:Za}(f:c.length<=8){x:D}(g:EX x=false){a:Nat}{L0:List D}(h:L0.length=5)(i:∀ q∈L0,gG c.length q=false){z:Z}(hz:ZI z):WS (oA T (k + 1 + 2)) false (US 4) [some .z,some (.d (.tup (c.map pr))),some (.d (.int a)),some (.d x),some (.fr L0)] z (λo j=>ZI j/\∃ y,o=.rt (.d y)/\gG c.length y=false) NE:=by
 have l:(c.map pr).length=c.length:=Ã _;refine(ae (MD ) ?_ :);by_cases m:c=[]
 .refine ie  (by rw[m];rfl) ?_
  exact Fv k (so (VA (_h _ _) (_l h))) (Í (WA h) (_d (VH _))) i hz
 .have n:0 < c.length:=List.length_pos_iff.mpr m;refine it (b:=!(c.map pr).isEmpty) (by rw[ò,eq_false_iff,ne_eq,YY,YZ];exact m) ?_
  refine(bN k ((c.map pr).length:Nat) hz ∅ ∅).imp λs p #[r,b,e,u]=>?_
  subst e;have v:cutD (c.map pr) none (some (b:Int))=(c.map pr).take b:=by rw[rD _ (_e _),WO]
  have w:(cutD (c.map pr) none (some (b:Int))).length<=8:=by rw[v,õ];exact Í (Í (_j _ _) (WA l)) f
  have A:(cutD (c.map pr) (some ((b:Int) + 1)) none).length<=8:=by
   rw[show cutD (c.map pr) (some ((b:Int) + 1)) none=(c.map pr).drop (b + 1) from iJ _ (b + 1),Vq];omega
  have B:cutD (c.map pr) (some 1) none=(c.map pr).drop 1:=iJ _ 1;have C:(cutD (c.map pr) (some 1) none).length<=8:=by rw[B,Vq];omega
  have E:gG c.length (.tup (cutD (c.map pr) (some 1) none))=false:=by rw[B];exact Fs (by rw[Vq,l];exact Û (_A n))
  have b2:gG c.length (.tup (cutD (c.map pr) none (some (b:Int))++[x]++cutD (c.map pr) (some ((b:Int) + 1)) none))=false:=Ag g;have b3:gG c.length (.tup ([D.tup (c.map pr)]++cutD (c.map pr) (some 1) none))=false:=Ag (a:=[]) (P8 m);have F:=iK (a:=cutD (c.map pr) none (some (b:Int))) (b:=[x]) (by show _ + 1<=_;omega)
  have G:=iK (a:=cutD (c.map pr) none (some (b:Int))++[x]) (b:=cutD (c.map pr) (some ((b:Int) + 1)) none) (by rw[vW];omega)
  have H:=iK (a:=[D.tup (c.map pr)]) (b:=cutD (c.map pr) (some 1) none) (by show 1 + _<=_;omega)
  generalize cutD (c.map pr) none (some (b:Int))++[x]++cutD (c.map pr) (some ((b:Int) + 1)) none=I at b2 G;generalize [D.tup (c.map pr)]++cutD (c.map pr) (some 1) none=J at b3 H;refine(vG (.fr (L0++ÿ 5 (.tup I)++[D.tup (cutD (c.map pr) (some 1) none),D.tup J])) [some .z,some (.d (.tup (c.map pr))),some (.d (.int b)),some (.d x),some (.fr (L0++ÿ 5 (.tup I)++[D.tup (cutD (c.map pr) (some 1) none),D.tup J]))] ?_ ?_ ?_ :)
  .refine(ae F ?_ :);refine(ae G ?_ :);refine(ae (KD (a:=L0) (b:=ÿ 5 (.tup I)) (by rw[h,XX];decide)) ?_ :)
   refine(ae H ?_ :);refine(ae (KD (a:=L0++ÿ 5 (.tup I)) (b:=[D.tup (cutD (c.map pr) (some 1) none),D.tup J]) (by rw[Ó,h,XX];show 12<=most;decide)) ?_ :)
   exact#[rfl,rfl]
  .rfl
  .have K:(L0++ÿ 5 (D.tup I)++[D.tup (cutD (c.map pr) (some 1) none),D.tup J]).length=12:=by rw[Ó,Ó,h,XX];rfl
   refine Fv k (so (VA (_h _ _) (_l K))) (Í (WA K) (_d (VH _))) (λq L=>?_) r
   rcases Ð.mp L with L | L
   .rcases Ð.mp L with L | L
    .exact i q L
    .rw[(List.mem_replicate.mp L).2];exact b2
   .simp only[VP,Vp,ZE] at L;rcases L with rfl | rfl
    .exact E
    .exact b3
theorem wD(k:Nat){cs:Za}(c:cs.length<=8)(hz:ZI z):W (aj T (k + 4) iI [.z,.d (.tup (cs.map pr))]) z (λs f=>ZI f/\∃ x,s=.d x/\gG cs.length x=false) NE:=by
 have g:(cs.map pr).length=cs.length:=Ã _;refine zF hz     rfl rfl (-0) ?_
 refine WS.mono (Q:=λo f=>ZI f/\∃ y,o=.rt (.d y)/\gG cs.length y=false) ?_ (λo f h=>by let(i,y,rfl,j):=h;exact#[i,y,rfl,j]) λ_ _ h=>h
 refine(bN k (((cs.map pr).length:Int) + 1) hz ∅ ∅).imp λs f #[l,a,e,a1]=>?_
 subst e;refine(bN k 13 l (-0) (-0)).imp λs m #[p,v,e,v1]=>?_
 subst e;refine(E1 (n:=v) (λx=>!EX x) ?_ ?_ ?_ :)
 .show v < 13;exact _i v1
 .decide +kernel
 .intro x r;rw[ò] at r;have u:cutD (cs.map pr) none ↑(a:Int)=(cs.map pr).take a:=by rw[rD _ (_e _),WO]
  have w:(cutD (cs.map pr) none ↑(a:Int)).length<=8:=by rw[u,õ];exact Í (Í (_j _ _) (WA g)) c
  have lc:(cutD (cs.map pr) ↑(a:Int) none).length<=8:=by rw[iJ _ a,Vq];omega
  refine(ae (iK (a:=cutD (cs.map pr) none ↑(a:Int)) (b:=[x]) (by show _ + 1<=_;omega)) ?_ :)
  refine(ae (iK (a:=cutD (cs.map pr) none ↑(a:Int)++[x]) (b:=cutD (cs.map pr) ↑(a:Int) none) (by rw[vW];omega)) ?_ :)
  refine(ae (iK (a:=cs.map pr) (b:=[.tup [~~~1,~~~2]]) (by show _ + 1<=_;omega)) ?_ :)
  refine(KG k c r (a:=a) (L0:=[D.tup (cutD (cs.map pr) none ↑(a:Int)++[x]++cutD (cs.map pr) ↑(a:Int) none),.tup (cs.map pr++[.tup [~~~1,~~~2]]),.lst (cs.map pr),.cq,.dct]) rfl (λq A=>?_) p :);simp only[VP,Vp,ZE] at A;rcases A with rfl | rfl | rfl | rfl | rfl
  .exact Ag r
  .exact Fs (by rw[vW,g];exact XD (Xs _))
  .rfl
  .rfl
  .rfl
theorem fQ(h:wZ f g=↑ss)(i:WE (Q.dH F) a (ss.map some) z (λ_ _=>False) (λd j=>d=c/\j=z))(k:c < 12)(l:dQ F f r z=↑(cs,z)):dQ F f ((g,a)::r) z=↑(c::cs,z):=by
 have e:=W.er (bz.mp i);unfold dQ
 simp_all
theorem Ai(h:dQ F a ls z=↑(cs,z))(f:WE F e a z (λl g=>cD (pl l) λd=>g=z/\fB .ne (.lst (cs.map w4)) d=↑false) NE)(i:WS F j r a z Q E):W (lO F ls e (ex F j t) (ex F j r) a) z Q E:=by
 let(l,k,m):=bz.mp f;cases l with
 |er c g=>exact m.elim
 |ok l g =>
  let(d,n,rfl,p):=dJ (show cD _ _ from m);let(o,q,s):=ma.mp i;refine#[o,?_,s]
  delta lO
  rw[h];simp[Zd,k,Zf,n,Ze,p];exact q
theorem KH(a:i < c.length)(h:dQ F (c.set i none) ls z=↑(cs,z))(f:WE F e (c.set i none) z (λl g=>cD (pl l) λd=>g=z/\fB .ne (.lst (cs.map w4)) d=↑false) NE)(j:WS F k r (c.set i none) z Q E):WS F k (.lams i ls none e t r) c z Q E:=by
 show W (if i < c.length then lO F ls e _ _ _ else Zg) z Q E;rw[Zu a];exact Ai h f j
theorem Fw(b:Bool)(f:i < g.length)(k:j < g.length)(m:WE F a (g.set i none) z (λl n=>cD ((pl l).bind lJ) λc=>c=b/\n=z) NE)
  (o:b->∃ p,dQ F ((g.set i none).set j ↑(.d (.bl true))) ls z=↑(p,z)/\WE F e ((g.set i none).set j ↑(.d (.bl true))) z (λl n=>cD (pl l) λd=>n=z/\fB .ne (.lst (p.map w4)) d=↑false) NE) (q:WS F s r ((g.set i none).set j ↑(.d (.bl b))) z Q E):WS F s (.lams i ls ↑(j,a) e t r) g z Q E:=by
 show W (if i < g.length then(if j < (g.set i none).length then Zd _ _ else Zg) else Zg) z Q E;rw[Zu f,Zu (by simp_all),gm]
 refine(bz.mp m).imp λl n h=>?_;let(c,u,rfl,rfl):=dJ h;refine(wG  λb=>Iff.rfl).mp (ae u ?_);cases c with
 |true =>
  let(p,v,w):=o rfl;exact Ai v w q
 |false =>
  exact ma.mp q
section
variable {m:Int}{ps cs:Za}{pl:Zh}{p q:List Zh}{P:List (List Zh)}
theorem B7(a:P.head?=↑[]):∃ i,fg (P.map f) (P.map f).length=↑i/\P[i]?=↑(kZ f P P.length):=by
 let(i,e):=ui (by
  cases P with
  |nil=>cases a
  |cons _ _=>exact succ_pos _:0 < (P.map f).length);have d:=sD e;refine#[i,e,?_];have:kZ f P P.length=P.getD i []:=by
  delta kZ
  rw[Ã] at e;rw[e]
 simp_all
theorem ME(g:aR m ps)(a:bH m pl)(e:cs.length=ps.length)(f:∀ c∈cs,fU c):∃ p,Lt ps.length p/\(∀ (k:Nat) (z:Z),aj T (k + 9) fo [.d (.tup (cs.map pr)),.d (.lst ((bW (dM m ps pl)).map aq)),.d (.bl true)] z=↑(.ok (.d (ai p)) z))/\∀ (k:Nat) (z:Z),aj T (k + 20) aN [.d (cx m ps),.d (.tup (cs.map pr)),.d (.tup (pl.map af))] z=↑(.ok (.d (ai p)) z):=by
 have h:=g.len;let(j,l,_,_):=wo  g;let(P,n,o,r):=Fh h j l;have lt:∀ q∈P,Lt ps.length q:=λq s=>(fN (n.mem_iff.mp s)).lt j;let(i,v,w):=B7  o;exact#[_,lt _ (ë w),λk z=>sM  k h j l e f n o r z,GO g a e f lt (by rw[n.length_eq];exact wb h j l) (wm h j l r) v w]
theorem MF(g:aR m ps)(a:bH m pl)(e:cs.length=ps.length)(f:∀ c∈cs,fU c):∃ p,Lt ps.length p/\(∀ (k:Nat) (z:Z),aj T (k + 9) fo [.d (.tup (cs.map pr)),.d (.lst ((bW (fu m ps pl)).map aq)),.d (.bl false)] z=↑(.ok (.d (ai p)) z))/\∀ (k:Nat) (z:Z),aj T (k + 20) aQ [.d (cx m ps),.d (.tup (cs.map pr)),.d (.tup (pl.map af))] z=↑(.ok (.d (ai p)) z):=by
 have h:=g.len;let(_,_,j,l):=wo  g;let(P,n,o,r):=Fh h j l;have lt:∀ q∈P,Lt ps.length q:=λq s=>(fN (n.mem_iff.mp s)).lt j;let(i,v,w):=B7  o;exact#[_,lt _ (ë w),λk z=>sM  k h j l e f n o r z,GP g a e f lt (by rw[n.length_eq];exact wb h j l) (wm h j l r) v w]
abbrev Sy(a:Zl)(j:Nat)(m:Int)(ps cs:Za)(pl:Zh)(c e f g h i k:Option S):Env:=[↑(.d (.lst (a.map D.int))),↑(.d (~~~j)),↑.z,↑(.d (cx m ps)),↑(.d (.tup (cs.map pr))),↑(.d (.tup (pl.map af))),c,e,f,g,h,i,k]
abbrev UT(n:Nat):Sm:=match EW with
 |.seq (.fr _ _ _ b) _=>rec b (λ_ r=>tl r) n|_=>.nil
inductive LA (ns:⇑Int):Env->Prop
 |mk {o1 o2 o3 o4 o5 o6 o7 o8 o9 o10 o11 o12:Option S}:LA ns [↑(.d (.lst (ns.map D.int))),o1,o2,o3,o4,o5,o6,o7,o8,o9,o10,o11,o12]
theorem KI(k:Nat)(g:aR m ps)(a:cs.length=ps.length)(e:∀ c∈cs,fU c)(hw:jN f=false)(i:gG ps.length y=false)(n:sZ x){Q:O->Z->Prop}
  (q:∀ o:Env,LA ns o->Q (.nx o) z) :
  WS (oA T (k + 37 + 2)) true (UT 11) (Sy ns j m ps cs pl r s u (some (.d f)) (some (.d y)) (some (.d x)) v) z Q E:=by
 have hs:=Dq n;let(b,w,A,B):=KA _ g.m6 n z;have C:nW m x=false->∀ o ,wZ o _=some [.d _,.d _,.d x]->dQ (oA T (k + 37 + 2)) o [([3,4,11],.call aN (c3 v0 v1 v2)),([3,4,11],.call aQ (c3 v0 v1 v2)),([3,4,11],.call iH (c3 v0 v1 v2))] z=some _:=λF o c1 =>
  fQ c1 (We (NB _ g a e F hs z) #[rfl,rfl]) (-0) (fQ c1 (We (Sx _ g a e F hs z) #[rfl,rfl]) (-0) (fQ c1 (We (KC _ (NB _ g a e F hs z)) #[rfl,rfl]) (-0) rfl))
 refine KH  (by show 12 < 13;decide) (fQ  rfl (We (Nz _ hw z) #[rfl,rfl]) (-0) (fQ  rfl (We (Sv _ hw z) #[rfl,rfl]) (-0) (fQ  rfl (We (KC _ (Nz _ hw z)) #[rfl,rfl]) (-0) rfl))) #[rfl,rfl] ?_
 refine KH  (by show 12 < 13;decide) (fQ  rfl (We (NA _ g i z) #[rfl,rfl]) (-0) (fQ  rfl (We (Sw _ g i z) #[rfl,rfl]) (-0) (fQ  rfl (We (KC _ (NA (k + 22) g i z)) #[rfl,rfl]) (-0) rfl))) #[rfl,rfl] ?_
 cases b with
 |false =>
  refine Fw true (by show 12 < 13;decide) (by show 10 < 13;decide) (Wo w #[rfl,rfl]) (λ_=>#[[2,2,2],C (A rfl) _ rfl,rfl,rfl]) ?_
  exact q _ .mk
 |true =>
  let(l,rfl):=B rfl;have eq:fB .eq (.tup l) (.tup [])=some l.isEmpty:=by
   show eqQ (.tup l) (.tup [])=_
   delta eqQ
   split
   .cases l <;> rfl
   .rfl
  refine Fw l.isEmpty (by show 12 < 13;decide) (by show 10 < 13;decide) (Wo w ?_) (λh=>#[[2,2,2],C (by cases l with | nil=>rfl | cons _ _=>cases h) _ rfl,rfl,rfl]) ?_
  .refine(ae eq ?_ :);exact#[rfl,rfl]
  .exact q _ .mk
theorem B8(a:ps.length<=8)(l:Lt ps.length p):flat 2 (ai p):=by
 have c:=l.len;refine jU (by grind) λx d=>?_
 let(L,e,rfl):=Ç.mp d;exact ym (Í (dE (l.aJ L e)) (Í a (_d (VH _))))
theorem KJ:flat 2 (.tup [pr v,pr w]):=jU (by decide:2<=1000) λx a=>by
 simp[VP,Vp,ZE] at a;rcases a with rfl | rfl
 .exact Fj
 .exact Fj
theorem NC(k:Nat)(g:aR m ps)(a:bH m pl)(f:cs.length=ps.length)(i:∀ c∈cs,fU c){ns:Zl}(hz:ZI z){Q:O->Z->Prop}
  (h:∀ (z:Z) (l:Env),LA ns l->Q (.nx l) z):WS (oA T (k + 37 + 2)) true (UT 3) (Sy ns j m ps cs pl n o r u v w A) z Q E:=by
 have B:=g.len;let(p,C,F,c1):=ME g a f i;let(q,G,H,c2):=MF g a f i;refine(vG (.d (ai p)) (Sy ns j m ps cs pl ↑(.d (ai p)) o r u v w A) ?_ ?_ ?_ :)
 .exact Wo (qH _ g a z) (Wo (F _ z) #[rfl,rfl])
 .rw[zy (show lQ (.d (ai p))=true from bO _)];rfl
 refine(vG (.d (ai q)) (Sy ns j m ps cs pl ↑(.d (ai p)) ↑(.d (ai q)) r u v w A) ?_ ?_ ?_ :)
 .exact Wo (qI _ g a z) (Wo (H _ z) #[rfl,rfl])
 .rw[zy (show lQ (.d (ai q))=true from bO _)];rfl
 refine Wo (c1 _ z) (Wo (Ac 2 _ _ z (B8 B C)) ?_);refine Wo (c2 _ z) (Wo (Ac 2 _ _ z (B8 B G)) ?_);refine(vG (.d (.tup [pr (aY (cf cs) p),pr (fv (lj (cf cs)) q)])) (Sy ns j m ps cs pl ↑(.d (ai p)) ↑(.d (ai q)) ↑(.d (.tup [pr (aY (cf cs) p),pr (fv (lj (cf cs)) q)])) u v w A) ?_ ?_ ?_ :)
 .exact Wo (eB (b:=true) (k + 33) B f i C z) (Wo (eB (b:=false) (k + 33) B f i G z) #[rfl,rfl])
 .rw[zy rfl];rfl
 refine Wo (GQ (k + 16) f i B C G c1 c2 z) (Wo (Ac 2 (k + 34) _ z KJ) ?_);refine(GI (k + 35) hz).imp λs I #[J,K,e,hw]=>?_;subst e;refine(wD (k + 35) (cs:=cs) (Í (WA f) B) J).imp λs z2 #[L,y,e,N]=>?_
 subst e;refine(xf (k + 35) g.m1 g.m6 (a.len g.m6) L).imp λs U #[X,x,e,Y]=>?_;subst e;exact KI k g f i hw (by rw[<-f];exact N) Y (h U)
end
abbrev G0(L:Int):Int:=if (if (3:Int) < L then 3 else L) > 1 then(if (3:Int) < L then 3 else L) else 1
theorem KL(b:Bool)(v:Nat)(h:v < 2):∃ a:Int,iP (.lst [~~~7,~~~(7 + (if b=true then 1 else 0))]) (~~~v)=↑(~~~a)/\0<=a/\a<=8:=by
 rcases (by omega:v=0\/v=1) with rfl | rfl
 .exact#[7,rfl,by decide,by decide]
 .cases b with
  |true=>exact#[8,rfl,by decide,by decide]|false=>exact#[7,rfl,by decide,by decide]
theorem Qa(k:Nat)(a:Zl):aj T (k + 40) J1 [.d (.lst (a.map D.int))] none=some (.ok (.d (.bl true)) none):=by
 refine W.ok (aI     rfl rfl (-0) ?_)
 have c:0<=G0 ((a.map D.int).length:Int)/\G0 ((a.map D.int).length:Int) < 100000:=by grind
 refine(ae (kU  c.1 c.2) ?_ :);refine eJ (λf h z=>(∀ x∈f,∃ j:Nat,x=.int j)/\LA a h) _ #[λx l=>?_,.mk] ?_ ?_
 .let(i,_,rfl):=Ç.mp l;exact#[i,rfl]
 .rintro x r h n ⟨l,⟨⟩⟩;let(j,rfl):=l x È;let(o,sb,p,q):=BL _ a j n;refine Wo q ?_;refine(bN _ 2 p (-0) (-0)).imp λs u #[w,v,e,v1]=>?_
  subst e;let(y,A,B,C):=KL ((j:Int) == 0) v (_i v1)
  refine(ae A ?_ :);refine(ya (k + 34) w B C).imp λs E #[F,m,G,e,g,_]=>?_;subst e;refine(n9 (k + 34) (m:=m) (ts:=G.map pr) F (by rw[Ã];exact g.len)).imp λs H #[I,cs,e,J,K]=>?_
  subst e;rw[Ã] at J;refine(qr (k + 35) (t:=.tup (G.map pr)) g.m1 g.m6 I).imp λs L #[N,pl,e,P]=>?_;subst e;refine(NC k g P J K N λU h X=>?_ :);exact#[λx Y=>l x (Î _ Y),X]
 .rintro h n ⟨_,⟨⟩⟩;exact#[rfl,rfl]
theorem pure:∀ a:Zl,a.length<=63->aj (tabOf rows) 40 J1 [.d (.lst (a.map D.int))] none=↑(.ok (.d (.bl true)) none):=λa _=>by
 exact Qa 0 a
end K3
namespace K3
open PySem L2 Q
theorem ok:rows.all (zr (jK rows) nums):=by decide +kernel
theorem bd:gy rows:=by
 repeat' first | exact trivial | refine#[?_,?_] | exact λ_ _ _ _ _ _ a c=>by let(_,rfl):=UN c;rfl | exact λ_ _ _ _ _ _ a c=>by let(_,_,rfl):=Vc c;rfl | exact λ_ _ _ _ _ _ a c=>by let(_,_,_,rfl):=Vd c;rfl
theorem hR:C2 rows ["law"] [("_law_refused",top 85)]:=λr a c=>by
 have h:=Ù.mp (show rows.all (λr=>!r.lm || (["law"]:Zj).contains r.nm)=true from by decide +kernel) r a
 rw[c] at h;exact#[VN.mp h,top 85,308,.head _,rfl,rfl,λ_ _ _ _ _ _ d e=>by let(_,rfl):=UN e;rfl]
def asks:iF:=l9 rows nums ["law"] [("_law_refused",top 85)]
def prg:Program:=VQ
def vq:Program:=view prg [88]
def loose:Zj:=prg.boundNames.filter λx=>!(x == ("law":Str))
def UU:=asks.ds.drop 33
def runM(w:ú)(a:OsState):=(iY PySem.W.through (PySem.W.stepOk 11 ↑↥6) (PySem.W.stepT (denote treeTable) prg w) 20000 (EL w a) (PySem.W.topStub prg)).map (λs=>UU.map λd=>vE (fragOf s.abs.heap) d.1)
def runN(_:ú):=some (UU.map λd=>Bt d.1 d.2)
def runL(w:ú)(a:OsState):=(iY PySem.W.through (PySem.W.stepOk 11 ↑↥6) (PySem.W.stepT (denote treeTable) prg w) 20000 (EL w a) (PySem.W.topStub prg)).map (λs =>
   (PySem.W.staticsOk (importedModules prg.main.body) (PySem.W.boot_heap w.params) s.abs.heap&&PySem.W.namesBound prg s.abs.heap&&PySem.W.gensDone s.abs&&PySem.W.laidKept (PySem.W.boot_heap w.params) s.abs.heap,
    PySem.W.openSeen vq loose (importedModules prg.main.body) (λ_=>true) true s.abs,({ asks with ds:=asks.ds.take 33 }:iF).obs s.abs))
def runR(w:ú):=↑(true,PySem.W.openGood vq loose,({ asks with ds:=asks.ds.take 33 }:iF).PJ w)
def _root_.PySem.W.Fast.tw12773329532064945992:PySem.Program:=VQ
theorem _root_.PySem.W.Fast.te12773329532064945992:VQ=PySem.W.Fast.tw12773329532064945992:=rfl
def _root_.PySem.W.Fast.tw1729117012335880883:⇑Q.Row:=rows
theorem _root_.PySem.W.Fast.te1729117012335880883:rows=PySem.W.Fast.tw1729117012335880883:=rfl
theorem twins:(λ(_:runL=runL/\runR=runR/\runM=runM/\runN=runN)=>true) #[rfl,rfl,rfl,rfl]:=by k_qdec
theorem run_eq:∀ (w:ú) (os:OsState),PySem.W.Fast.tw14075725262101462980 w os=PySem.W.Fast.tw18139657281711212703 w:=λw os=>by kernel_rfl
theorem MG:∀ (w:ú) (os:OsState),PySem.W.Fast.tw87755624848951762 w os=PySem.W.Fast.tw11937498545222698396 w:=λw os=>by kernel_rfl
theorem left:PySem.W.LeftO VQ vq loose (λ_=>true) asks.hook.obs asks.hook.val 20000:=Mh (by kernel_rfl) rfl (λ_=>by kernel_rfl) λw os=>GC (è 33 asks.ds)
 ((congrFun (congrFun PySem.W.Fast.te14075725262101462980 w) os).trans ((run_eq w os).trans (congrFun PySem.W.Fast.te18139657281711212703 w).symm))
 ((congrFun (congrFun PySem.W.Fast.te87755624848951762 w) os).trans ((MG w os).trans (congrFun PySem.W.Fast.te11937498545222698396 w).symm))
end K3
open PySem PySem.W PyProof.Rows
set_option maxRecDepth 100000 in
set_option maxHeartbeats 0 in
theorem PySem.Challenge.cw_tiechances_k61_best_papers_holds : PySem.Challenge.rw_tiechances_k61_best_papers.Holds := by
 w_on;o_law
 refine holds_open (q:=K3.vq) (loose:=K3.loose) (Xt:=λ_=>true) (XP:=λ_ _=>True) (Yf:=K3.asks.hook.obs) (Ya:=K3.asks.hook.val) (YP:=K3.asks.hook.says) K3.left K3.asks.hook.of K3.asks.hook.keeps (λ_ _=>trivial) (λ_ _ _ _ _=>trivial) (by rfl) (by rfl) (by rfl) (λs _=>recFacts_of rfl) rfl (by first | assumption | decide +kernel) (by decide +kernel) ⟨rfl,rfl,rfl,rfl,rfl,by decide +kernel⟩ ?hw ?hc
 case hw=>w_witness2
 case hc=>exact Q.JX (l:=PySem.Challenge.rw_tiechances_k61_best_papers) (n:=63) (k:=40) (x:="_law_script") rfl (-0) rfl ⟨rfl,by decide,by decide⟩ (Q.Ml (k:=37) (iL:=64) K3.ok K3.bd rfl rfl rfl (-0) K3.hR K3.pure)