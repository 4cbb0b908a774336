import PyProof.Rows.All
import Wide.FinOn
import OpenK.KQuick
import KE.KNest
import OpenK.KRaise
import KE.LcSums
import Lean
import PyProof.EqAt
import PyProof.EqKinds
import PyProof.TupleCall
import KE.KSortTup
import OpenK.KOwn
import PyProof.ExcBaseAll.ValueError
import KE.KIsAll
import PyProof.ExcAttrAll.ValueError
import PyProof.NsDelKeeps
import PyProof.RulesAs
import KE.KTryMore
import KE.KLam
import KE.KNestM
import OpenK.KEqL
import PyProof.Rows.EqDataRows
import PyProof.NeKinds
import PyProof.FactsAll.dict
import PyProof.FactsAll.subtypes
import PyProof.ListRange
import PyProof.TupleOfGen
import PyProof.TupleOfSeq
import KE.KTupSum
import PyProof.Rows.SumAny
import PyProof.Rows.SetFrom
import KE.KRevSl
import PyProof.WalksMore
import PyProof.SetRoads
import KE.KDictLaws
import KE.KTupDict
import PySem.Challenge.RW_tiechances_k05_shares_told
set_option tactic.hygienic false
local macro_rules
|`(tactic|let($a,$b,*):=$e)=>do
  let c<-([a].toArray++b.getElems).mapM fun|`(_)=>`(rcasesPat|_)|x=>`(rcasesPat|$(⟨x⟩):ident)
  `(tactic|obtain⟨$[$c],*⟩:=$e)
local macro_rules
|`(#[$x,*])=>`(⟨$x,*⟩)
local macro_rules
|`(∅)=>`(by omega)
|`(-0)=>`(by decide)
local macro_rules
|`(tactic|omega)=>`(tactic|lia)
local macro_rules
|`(↑$x)=>`(some $x)
|`(⇑$x)=>`(List $x)
|`(↥$x)=>`(.ref $x)
|`(~~~$x)=>`(.int $x)
|`(⋯)=>`(by simp)
open Nat renaming lt_succ_of_le->_a,le_add_left->_d,le_of_not_lt->_g,le_of_lt_succ->_h,le_antisymm->_i,add_right_comm->_j,lt_of_lt_of_eq->_l,lt_of_le_of_ne->_m,sub_le->_n,not_lt_of_le->_p,le_of_succ_le->_q,sub_lt_sub_left->_r,sub_lt->_t,eq_of_le_of_lt_succ->_v,add_sub_of_le->_w,min_le_right->_y,lt_of_succ_le->_E,le_sub_one_of_lt->_F,lt_add_left->_G,sub_sub_self->_H,sub_one_lt_of_lt->_I,add_zero->_J,add_left_cancel->_L,add_right_cancel->_M
open Eq renaming symm->_b,trans->_A
open Int renaming natCast_nonneg->_c,le_trans->_o,lt_of_lt_of_le->_s,le_refl->_x,le_of_eq->_C,lt_of_not_ge->_D
theorem _Y{i j:Nat}(h:i<j):(i+j)/2<j:=Nat.div_lt_of_lt_mul (Nat.two_mul j▸Nat.add_lt_add_right h j)
theorem _z{i j:Nat}(h:¬j<=i):(i+j)/2<j:=_Y (Nat.lt_of_not_le h)
theorem _O{i j:Nat}(h:i<=j):i<=(i+j)/2:=(Nat.le_div_iff_mul_le (by decide)).2 (Nat.mul_two i▸Nat.add_le_add_left h i)
theorem _X{a b c:Nat}(h:c+a<=b):a<=b-c:=Nat.le_sub_of_add_le (Nat.add_comm c a▸h)
theorem _N{a b c:Nat}(h:b-c<=a):b<=c+a:=Nat.sub_le_iff_le_add'.1 h
theorem _T{a b c:Nat}(h:b+c=a):a-b=c:=h▸Nat.add_sub_cancel_left ..
theorem _B{a b:Nat}(h:¬a<b)(k:¬a=b):b<a:=Nat.lt_of_le_of_ne (Nat.le_of_not_lt h) (Ne.symm k)
theorem _Q{a b c:Nat}(h:b<a)(k:a<=c):a-b-1<c-b:=Nat.sub_one_lt_of_le (Nat.sub_pos_of_lt h) (Nat.sub_le_sub_right k _)
theorem _U{a b c:Nat}(h:c=a+1+b):a+b<c:=h▸Nat.add_lt_add_right (Nat.lt_succ_self _) _
theorem _e{a b:Nat}(h:¬0<a-b):a<=b:=Nat.le_of_sub_eq_zero (Nat.eq_zero_of_not_pos h)
theorem _K{a b:Nat}(h:a=b):a-b<1:=h▸(Nat.sub_self a).symm▸Nat.one_pos
theorem _W{a:Int}{n m:Nat}(h:n<a)(k:a<=m):n<m:=Int.ofNat_lt.1 (Int.lt_of_lt_of_le h k)
theorem _k{m n:Nat}(h:n<m):(n:Int)<m:=Int.ofNat_lt.2 h
theorem _f{m n:Nat}(h:(n:Int)<m):n<m:=Int.ofNat_lt.1 h
theorem _V{m n:Nat}(h:(n:Int)<=m):n<=m:=Int.ofNat_le.1 h
theorem _u{a b c d:Nat}(h:a+b<=c+d):a+1+b<=c+(d+1):=by omega
theorem _P{a b c:Nat}(h:a+b<=c):min b (c-a)=b:=Nat.min_eq_left (_X h)
theorem _S{a b c:Nat}(h:¬b<=a)(k:c<=a):a+1+(b-c-1-(a-c))=b:=by omega
theorem _R{a b:Nat}(h:b<a):b+(a-b-1)=a-1:=by omega
open PySem renaming wpAny_bind->À,Value->Ä,wpAny_pure->Å,Shared->Ç,Addr->È,Expr->Ö,wpAny->Ü,model->ß,mem_of_lookup->ä,Program->å,mainGlobals->è,World->î,Scope->ò,Heap->ö,wpAny_holding->û,bootBuiltins->ý,Around->þ,sizeLine_eq->gV,wpAny_call_entry->My,wpAny_newObj_type->Uj,wpAny_callSpecial?_slot->Uk,starEach->Ul,codeAny_builtin->Uu,Stmt->Uv,intKind->Uy,FuncData->UA,wpAny_field->UH,Paired->UJ,wpAny_setState_of->UK,SetTable->UL,rawInt->UM,compareOp->UP,wpAny_mono->UQ,binaryOp->UT,call_meets->UU,wpAny_truthy_bool->UW,codeAny_mono->U4,wpAny_setField_rec->U8,builtinsNs->U9,swappedStores->Vf,wpAny_typeOf->Vh,cLine->Vj,Builtin->Vq,IsTupleKey->Vv,wpAny_seqItems->Vy,wpAny_Call_Name_kw->VJ,foldedSetIterable->VU,Env->VV,assignEach->VX,wpAny_pyIter_tuple->Wd,IsPair->Wj,wpAny_passesOwn->Wl,NameKind->Wn,Arguments->Wr,wpAny_rule->WA,wpAny_loadName_local->WB,tupleKind->WG,codeAmong->WH,wpAny_binaryOp_repeat_ref->WL,wpAny_newList->WY,wpAny_getItem_list_slice->WZ,plainId_quiet->W0,getItem->W4,codeAny->W5,wpAny_call->Xa,typeIs_int->Xb,swapsWith->Xd,seqIndex_of->Xf,wpAny_sequenceKey->Xq,wpAny_getItem_list_neg->Xr,carriedByValue->Xv,Operator->Xw,noFill_tuple_add->XO,wpAny_attempt->XW,callerA->XY,sliceBounds->X0,codeAny_call_builtin->X1,wpAny_execs_nil->X9,IsPart->Yc,wpAny_loadName_cell->Yg,TriplesOk->Yr,wpAny_runValue->Yt,wpAny_Name->Yu,sysModules->Yv,isSubtype_type->YB,wpAny_storeSet_of->YS,wpAny_pyIter_list->YT,BindsTo->YW,wpAny_comprehension_free->YX,seq_tuple_add->YZ,rangeSize_one->Y0,foldedForSure->Y1
open Bool renaming and_eq_true->Á,not_eq_true'->ç,false_ne_true->ê,eq_iff_iff->UY,or_eq_true->Vd,false_eq_true->VF,not_eq_false'->Wf,true_and->Xx,and_true->Xy
open PySem.Heap renaming get?_push_of_some->Â,get?_push_size->Ì,lt_size->à,get?_update_self->VG,SameBut->V6,size_push->Wy,get?_update_other->W7,get?_push_ne->Yp
open PySem.W renaming Frag->Ã,codeHdIn->Ue,kas_item->Uh,kas_desc->Va,tabObj->Vo,kas_place->Vu,kia_one->V2,kas_rev->Wg,kas_asc->Wh,keepIn->Wi,excIn->Wv,nsIn->XH,kitOne->XQ,mg_none_of->Yi,kas_descPart->Ym,boot_heap->Yq,kas_sort->YA,kla_fn->YI
open List renaming length_map->Æ,mem_cons_of_mem->É,mem_cons_self->Í,getElem?_set_ne->Ï,mem_map->Ð,getD_eq_getElem?_getD->Ñ,all_eq_true->Ó,mem_singleton->Ô,getElem?_eq_getElem->Õ,getElem?_set_self->Ø,getElem?_map->Ú,mem_of_getElem?->Û,getElem?_eq_some_iff->Ý,length_cons->Þ,size_toArray->á,mem_cons->ã,map_map->æ,range->ë,replicate->ì,length_range->ó,length_set->ô,length_append->õ,mem_append->ù,mem_append_right->ÿ,not_mem_nil->Ub,mem_range->Uc,filterMap_cons->Ud,map_append->Um,map_congr_left->Uo,all_eq_true->Uq,mem_cons->Ur,map_cons->Ux,getElem?_append_right->Uz,lookup_cons->UE,length_nil->UG,getElem_mem->UN,drop_eq_getElem_cons->UO,length_take->US,length_filter_le->U6,all_cons->U7,pairwise_lt_range->Vc,idxOf_lt_length_of_mem->Ve,mem_append_left->Vi,perm_ext_iff_of_nodup->Vm,pairwise_cons->Vn,length_replicate->Vp,append_assoc->Vt,range'->Vw,take_of_length_le->Vz,filter_eq_nil_iff->VC,length_drop->VE,getElem?_append_left->VI,getElem?_replicate->VW,contains_iff_mem->V0,lookup->V3,nil_append->V8,append_nil->Wa,replicate_succ->Wt,getElem?_range->Wz,nodup_cons->WI,zip_cons_cons->WK,mem_filterMap->WT,getElem?_drop->WU,getElem?_cons_zero->WW,drop_eq_nil_of_le->W6,length_reverse->Xg,filter_congr->Xh,getElem?_eq_none->Xm,range'_succ->Xn,mem_range->XA,forIn_cons->XB,mem_iff_getElem->XD,getElem?_append->XE,eq_nil_of_length_eq_zero->XF,pairwise_map->X7,filter_map->Yj,nodup_append->Yo,filter_cons->YC,drop_length->YD,getElem_idxOf->YJ,pairwise_singleton->YL,isEmpty_iff->YM,forIn_nil->YV,reverse_cons->Y9
open Option renaming bind_eq_some_iff->Ê,map_eq_some_iff->Ë,map->WD,map_eq_some_iff->XX,ne_none_iff_exists'->XZ
open Nat renaming le_refl->Î,lt_of_lt_of_le->Ò,ne_of_lt->Ù,le_trans->â,lt_irrefl->Ui,lt_succ_of_lt->Uw,le_of_lt->Vb,zero_le->Vl,lt_succ_self->Vs,ne_of_gt->Vx,lt_of_le_of_lt->V7,le_add_right->V9,succ_le_succ->Xe,zero_add->X3,max->X4,not_lt_zero->Yx,min_eq_left->Yy,mul_comm->YU,le_of_eq->Y5
open PyProof.Rows renaming slot_tuple_getitem->é,callWith_type1->Ua,seqObj->UD,SortSt->U2,IntsAre->Wu,SortKind->W3,args_tuple_getitem->Xc,envOfC->Xu,AllBare->Xz,IsTup->XM,listItems_at->Yl,args_list_sort->YE,tupleItemsOf_->YY
open Option.some renaming inj->í,injEq->V1
open ForInStep renaming yield->ï,done->ø
open PySem.Value renaming none->ð,ref->tv,type->UZ,int->VD,isInt->WO,bool->Xl
open Ne renaming symm->ñ
open False renaming elim->ú
open PySem.NameKind renaming free->ü,cell->U5
open Array renaming getElem?_toList->Ug,getElem?_eq_getElem->Vg,extract->VQ,length_toList->WM,getD_eq_getD_getElem?->XU,map_extract->Yz,toList_inj->YG,toList_append->YH
open PySem.Challenge renaming pw_tiechances_k05_shares_told->Us
open PySem.Obj renaming mapSeq->Ut,putSet->Y4
open List.Perm renaming eq_of_pairwise->UB
open PySem.Builtin.Range renaming rangeSize->UC,small->YF
open PySem.F renaming called_set->UI,type_list_append->VL,slot_list_append->VM,args_tuple_add_2->VN,slot_int_rmul->VR,plainAttrs_list->VS,entry_tuple_add->VT,slot_tuple_add->VY,args_tuple_mul_2->Wb,entry_tuple_mul->Wq,slot_tuple_iterator_next->Wx,slot_tuple_mul->WC,args_int_rmul_2->YO,slot_tuple_lt->YQ,called_tuple->Y3,slot_int_index->Y6,entry_int_rmul->Y7
open List.Pairwise renaming filter->UR
open Int renaming toNat_natCast->UX,eq_ofNat_of_zero_le->VB,toNat_of_nonneg->VO,emod_lt_of_pos->VZ,mul_le_mul_of_nonneg_left->V5,le_of_lt->Ww,emod_eq_of_lt->WN,emod_nonneg->W2,lt_of_le_of_lt->Yd,gcd_zero_right->Ye
open PySem.Heap.SameBut renaming update->U3
open PySem.AutoSeq1 renaming wpAny_loadPart'->Vk,wpAny_loadPart'->VA
open PySem.Calls renaming call_function_entry->VH,spliced_nil->Wc,spliced_cons->WJ,Name_function_global->X5
open PySem.Str renaming ofString->VP
open PyProof.Rows.KeyOrd renaming kle_refl->V4,kle_of_klt->Yb
open PySem.Heap.IsSliceOf renaming new->Wk
open PySem.Builtin.Slice renaming slicePlaces->Ws,sliceAdjust->Yw
open True renaming intro->WQ
open PySem.SetTable renaming below->WR,grown->XJ,insertAt->X2
open PyProof.Rows.F renaming plain_set_update_loop->W8,entry_set_update_loop->W9
open PyProof.Rows.SortSt renaming mk'->Xi
open Prod.mk renaming injEq->Xj
open Array.Perm renaming refl->Xk
open PySem.Around renaming under_plainId->Xo,frames_deeper->Xp
open PySem.pickOrder renaming go->Xs
open Or renaming inl->XC,inr->YK
open Iff renaming rfl->XG
open PySem.Builtin.List renaming listTooLong->XN
open PySem.W.Looks renaming ld->XR
open Classical renaming byContradiction->XT
open PySem.Builtin.Tuple renaming tupleItemsOf->X6,tupleExact->Yh
open PySem.Code renaming quiet_builtin->X8
open PySem.Paired renaming length->Yk
open PySem.P renaming add_list->Yn
open Sum renaming inr->Ys,inl->Y2
open PySem.W.KasT renaming ret->YN
open PySem.PyData renaming depthAll->YR
open PySem.Builtin.Frozenset renaming updateFrom->Y8
theorem Zv{h:Decidable c}(k:c){t e:α}:ite c t e=t:=if_pos k
theorem Zw{h:Decidable c}(k:¬c){t e:α}:ite c t e=e:=if_neg k
theorem Zx[Decidable p]:(decide p)=p:=decide_eq_true_eq
theorem Zy{c:Type u}[BEq c][LawfulBEq c]{a b:c}:a==b↔a=b:=beq_iff_eq
theorem Zz[h:Decidable p](k:p):decide p:=decide_eq_true k
theorem ZA[h:Decidable p](k:¬p):decide p=false:=decide_eq_false k
theorem ZC[h:Decidable p](k:decide p):p:=of_decide_eq_true k
theorem ZD{c:Type u}[BEq c][LawfulBEq c]{a b:c}(h:a==b):a=b:=eq_of_beq h
theorem ZE{h:Decidable p}:decide p=false↔¬p:=decide_eq_false_iff_not
theorem ZF(p:Prop):(p\/False)=p:=or_false p
abbrev Zh:=⇑Nat
abbrev Zi:=⇑Int
abbrev Zj:=⇑PySem.Str
abbrev Zk:=⇑Ä
abbrev Zl:=Option È
abbrev Zm:=⇑Ö
abbrev Zn:=Option Ä
abbrev Zo:=⇑È
abbrev Zp:=Array Ä
abbrev Zq:=Option Int
abbrev Zr:=Array Nat
abbrev Zs:=Option Bool
abbrev Zt:=Option Ö
abbrev Zu:=Option Nat
local macro_rules
|`(command|def $i:declId $s:optDeclSig $v)=>`(noncomputable def $i:declId $s:optDeclSig $v)
|`(command|abbrev $i:declId $s:optDeclSig $v)=>`(noncomputable abbrev $i:declId $s:optDeclSig $v)
open PySem.Heap (lt_size size_push)
open List (range filterMap_cons mem_cons_self mem_cons_of_mem mem_append_left mem_append_right append_nil of_mem_zip replicate mem_of_getElem? length_append length_map length_replicate length_take size_toArray length_drop length_set reverse_cons foldl replicate_succ flatten_cons append_assoc foldl_cons lookup_cons forIn_cons toArray forIn_nil mem_cons not_mem_nil range' map_toArray map_cons map_nil length_nil nil_append take_of_length_le length_range zip_cons_cons length_cons ext_getElem? length_reverse all_eq_true cons_append getElem_mem mem_filter mem_range map_congr_left length_filter_le map_id all_nil mapM_cons pairwise_map pairwise_lt_range all_cons filter_congr contains_iff_mem idxOf_lt_length_of_mem map_take drop_length drop_eq_getElem_cons perm_ext_iff_of_nodup head? filter_cons nodup_range map_id' filter_map isEmpty_map isEmpty_iff getElem_idxOf)
open PySem.W (hideAll hideAll_get of_hideAll callWith_K cellsFrom_some fnOf codeRec_of ki_setAt ki_setBack krv_pick kitx_none kitx_bool kitx_int kitx_str kitx_tuple kitx_list kitx_dict kitAny kia_tup envX kla_fn kla_eval codeHd_of_K kla_obj mg_none_of mg_of view)
open Array (length_toList toList size_map map_extract push extract setIfInBounds toList_append toArray_toList)
open Nat (ne_of_gt zero_le le_succ succ_le_succ le_add_right not_lt_zero ble beq mul_comm lt_succ_of_lt lt_succ_self min_eq_left rec)
open Int (mul_one toNat_natCast toNat_of_nonneg emod_nonneg emod_lt_of_pos gcd eq_ofNat_of_zero_le emod_eq_of_lt mul_pos add_zero)
open PyProof.Rows (lt_int zipApart_new)
open PySem.Builtin.Slice (sliceAdjust slicePlaces sliceApplied)
open PySem.Builtin.Tuple (tupleItemsOf tupleExact tupleCompareSizes tupleTooMany tupleIsExact)
open Bool (and_eq_true false_eq_true not_eq_true' or_eq_true not_eq_false')
open Option (getD_none map_some map_eq_some_iff)
open PySem.Builtin.SmallTypes (nextOf)
set_option bootstrap.genMatcherCode false
set_option compiler.extract_closed false
set_option genInjectivity false
set_option genSizeOf false
set_option autoImplicit true
set_option relaxedAutoImplicit true
set_option Elab.async false
set_option linter.all false
set_option maxRecDepth 100000
namespace L2
open PySem PySem.Spec PyProof.Rows
abbrev Key:=Sum Int Str
def Ku:Key->Ä->Bool
 |.inl k,v=>WO k v|.inr x,v=>Ä.isStrOf x v
def Q8(w:î):Key->Int
 |.inl k=>hashInt k|.inr x=>hashStr w x
theorem cx:∀ {k:Key}{v:Ä},Ku k v->(∃ i t,k=Y2 i/\v=VD i t)∨(∃ x t,k=Ys x/\v=Ä.str x t)
 |.inl i,v,h=>by
  let(t,e):=Value.isInt_shape   h;exact .inl #[i,t,rfl,e]
 |.inr x,v,h=>by
  let(t,e):=Value.isStrOf_shape   h;exact .inr #[x,t,rfl,e]
theorem Le(a b:Int):decide ((Y2 a:Key)=Y2 b)=(a == b):=by grind
theorem Lf(a b:Str):decide ((Ys a:Key)=Ys b)=decide (a=b):=by grind
theorem Lg(a:Int)(b:Str):decide ((Y2 a:Key)=Ys b)=false:=ZA (λq=>nomatch q)
theorem Lh(a:Str)(b:Int):decide ((Ys a:Key)=Y2 b)=false:=ZA (λq=>nomatch q)
def dX(c:å)(w:î):PySem.KeyKind c w Key where
 is:=Ku
 hash:=Q8 w
 inj:=λv a b d f=>by
  rcases cx d with ⟨i,t,rfl,rfl⟩ | ⟨x,t,rfl,rfl⟩
  .rcases cx f with ⟨j,u,rfl,e⟩ | ⟨y,u,rfl,e⟩
   .injection e with g _;rw[g]
   .exact nomatch e
  .rcases cx f with ⟨j,u,rfl,e⟩ | ⟨y,u,rfl,e⟩
   .exact nomatch e
   .injection e with g _;rw[g]
 byValue:=λk v h=>by
  rcases cx h with ⟨i,t,rfl,rfl⟩ | ⟨x,t,rfl,rfl⟩ <;> rfl
 pyHash:=λl h=>by
  rcases cx l with ⟨i,t,rfl,rfl⟩ | ⟨x,t,rfl,rfl⟩
  .exact wpAny_pyHash_int h
  .exact wpAny_pyHash_str h
 eqBool:=λm l h=>by
  rcases cx m with ⟨i,t,rfl,rfl⟩ | ⟨x,t,rfl,rfl⟩
  .rcases cx l with ⟨j,u,rfl,rfl⟩ | ⟨y,u,rfl,rfl⟩
   .rw[Le] at h;exact wpAny_eqBool_int h
   .rw[Lg] at h;exact SeqAt.EqAt.int_str i t y u _ _ _ _ h
  .rcases cx l with ⟨j,u,rfl,rfl⟩ | ⟨y,u,rfl,rfl⟩
   .rw[Lh] at h;exact SeqAt.EqAt.str_int x t j u _ _ _ _ h
   .rw[Lf] at h;exact wpAny_eqBool_str h
 «strs»:=λk x t v h=>by
  rcases cx h with ⟨i,u,rfl,e⟩ | ⟨y,u,rfl,e⟩
  .exact nomatch e
  .injection e with g _;subst g;cases v <;> rfl
inductive V where
 |cD | bl (b:Bool) | int (i:Int) | str (x:Str) | byt (b:Array UInt8) | fb (b:UInt64) | ref (a:Addr) | ty (n:String)
def RelV:V->Ä->Prop
 |.cD,u=>u=ð|.bl b,u=>u=Xl b|~~~i,u=>∃ t,u=VD i t|.str x,u=>∃ t,u=Ä.str x t|.byt b,u=>∃ t,u=Ä.bytes b t|.fb b,u=>∃ t,u=Ä.float b t|↥a,u=>u=tv a|.ty n,u=>u=UZ n
abbrev Vals:⇑V->Zk->Prop:=UJ RelV
theorem Vals.length{xs:⇑V}(r:Vals xs us):xs.length=us.length:=Yk r
theorem Vals.get:∀ {a:⇑V}{b:Zk}{i:Nat}{x:V},Vals a b->a[i]?=↑x->∃ u,b[i]?=↑u/\RelV x u
 |_,_,_,_,.nil,e=>by simp at e|_,_,0,_,.cons r _,e=>by simp at e;subst e;exact#[_,rfl,r]
 |_,_,i + 1,x,.cons _ t,e=>by
  let(u,c,d):=Vals.get   t (e);exact#[u,c,d]
theorem Vals.set{x:V}(r:RelV x u):∀ {a:⇑V}{b:Zk} (i:Nat),Vals a b->Vals (a.set i x) (b.set i u)
 |_,_,_,.nil=>.nil|_,_,0,.cons _ t=>.cons r t|_,_,i + 1,.cons q t=>.cons q (Vals.set r i t)
theorem Vals.append:∀ {a b:⇑V}{c d:Zk},Vals a c->Vals b d->Vals (a++b) (c++d):=by
 intro a b c d h s
 induction h with
 |nil=>exact s|cons r _ i=>exact .cons r i
theorem Vals.take:∀ {a:⇑V}{b:Zk} (n:Nat),Vals a b->Vals (a.take n) (b.take n)
 |_,_,0,_=>.nil|_,_,_ + 1,.nil=>.nil|_,_,n + 1,.cons r t=>.cons r (Vals.take n t)
theorem Vals.drop:∀ {a:⇑V}{b:Zk} (n:Nat),Vals a b->Vals (a.drop n) (b.drop n)
 |_,_,0,r=>r|_,_,_ + 1,.nil=>.nil|_,_,n + 1,.cons _ t=>Vals.drop n t
def N6:Option V->Zn->Prop
 |↑v,↑u=>RelV v u|none,none=>True|_,_=>False
def KV{a:Type}:⇑(a × V)->⇑(a × Ä)->Prop:=UJ λ(p:a × V) (q:a × Ä)=>p.1=q.1/\RelV p.2 q.2
def kV:Key->V
 |.inl i=>~~~i|.inr x=>.str x
inductive HO where
 |lst (xs:⇑V)
 |tup (xs:⇑V)
 |dK (kvs:⇑(Key × V)) | dT (kvs:⇑(⇑Key × V))
 |set (S:Int->Bool) (n:Nat)
 |ins (C dx:Addr) (fs:⇑(Str × V))
 |own (x:Addr)
 |xd (fs:⇑(Str × V))
 |met (f x:Addr)
 |D9 (lo hi:Int)
 |frz (o:Obj) (u:HO)
 |cK (ps:Array Value)
 |ext (φ:Heap->Prop)
abbrev Hp:=È->Option HO
def upd(H:Hp)(a:È)(o:HO):Hp:=λb=>if b=a then ↑o else H b
theorem ao:upd H a o a=↑o:=by delta upd;rw[Zv rfl]
theorem ag{H:Hp}(h:b≠a):upd H a o b=H b:=by delta upd;rw[Zw h]
theorem ax{H:Hp}{a b:È}{o:HO}(h:H a=↑o)(c:H b=none):a≠b:=by
 intro e;simp_all
section
variable (P:å) (w:î)
def bY(H:Hp)(h:ö)(a:È):HO->Prop
 |.lst b=>b.length<=sizeLine/\∃ (c:Zk) (n:Nat),Vals b c/\h.get? a=↑{ cls:=.type "list",data:=.seq c.toArray n }|.tup b=>b.length<=sizeLine/\∃ c:Zk,Vals b c/\XM h a c.toArray|.dK d=>d.length<=sizeLine/\(a == Yv)=false/\∃ e,KV d e/\h.DictOf (dX P w) a e
 |.dT d=>d.length<=sizeLine/\(a == Yv)=false/\∃ b:⇑(⇑Key × È × Ä),
   UJ (λ(p:⇑Key × V) (q:⇑Key × È × Ä)=>p.1=q.1/\H q.2.1=↑(.tup (p.1.map kV))/\RelV p.2 q.2.2) d b /\
   ∃ o g i,h.get? a=↑o/\o.ExactDict/\o.data=.dict g i/\g.toList=b.map (entryOfKey (WG (dX P w)))/\(b.map (·.1)).Nodup
 |.set S n=>h.SetOf (Uy P w) a S n
 |.ins C j fs=>H j=↑(.own a)/\fs.length<=1000/\j≠a/\h.get? a=↑(PySem.W.instObj C j) /\
   ∃ k,h.Ns1 j k/\(∀ f,N6 (fs.lookup f) (k f))/\PySem.Within k (fs.map (·.1))
 |.own _=>∃ o,h.get? a=↑o|.xd fs=>∃ k,h.Ns1 a k/\∀ f,N6 (fs.lookup f) (k f)|.D9 l m=>∃ t u v,h.get? a=↑{ cls:=.type "range",data:=.fields [.int l t,.int m u,.int 1 v].toArray }|.frz o u=>h.get? a=↑o/\bY H h a u|.cK r=>h.get? a=↑{ cls:=.none,data:=.fields r }|.met f x=>h.get? a=↑(PySem.W.methodObj ↥f ↥x)|.ext s=>s h/\(∃ o,h.get? a=↑o)/\∀ y z:ö,s y->(∀ o,y.get? a=↑o->z.get? a=↑o)->s z
def jm(H:Hp)(h:ö):Prop:=∀ a o,H a=↑o->bY P w H h a o
end
section
variable {P:å}{w:î}{H H':Hp}{h h':ö}{a:È}{o:HO}
theorem bY.lt(x:bY P w H h a o):a < h.objs.size:=by
 cases o with
 |lst b=>let(_,_,_,_,e):=x;exact à e
 |tup b=>let(_,_,_,p):=x;exact p.lt
 |dK c=>let(_,_,_,_,o,_,_,e,_):=x;exact à e
 |dT c=>let(_,_,_,_,o,_,_,e,_):=x;exact à e
 |set S n=>let(o,_,_,_,e,_):=x;exact à e
 |ins C d fs=>let(_,_,_,e,_):=x;exact à e
 |own y=>let(_,e):=x;exact à e
 |xd fs=>obtain⟨_,⟨_,_,_,e,_⟩,_⟩:=x;exact à e
 |D9 g i=>let(_,_,_,e):=x;exact à e
 |frz j u=>let(e,_):=x;exact à e
 |cK k=>exact à (show h.get? a=↑_ from x)|met f y=>exact à (show h.get? a=↑_ from x)|ext l=>obtain⟨_,⟨_,e⟩,_⟩:=x;exact à e
theorem UJ.Aj{F G:α->β->Prop}:∀ {c:⇑α}{d:⇑β},UJ F c d->(∀ a b,F a b->G a b)->UJ G c d:=by
 intro c d h f
 induction h with
 |nil=>exact .nil|cons r _ i=>exact .cons (f _ _ r) i
theorem bY.iR(x:bY P w H h a o)(k:∀ b u,(b=a∨H b=↑(.own a))->h.get? b=↑u->h'.get? b=↑u)
  (g:∀ b,H b=↑(.own a)->H' b=↑(.own a)) (i:∀ b j,H b=↑(.tup j)->H' b=↑(.tup j)):bY P w H' h' a o:=by
 induction o with
 |lst j=>let(z,l,n,r,e):=x;exact#[z,l,n,r,k _ _ (.inl rfl) e]
 |tup j=>let(z,l,r,m,e,c):=x;exact#[z,l,r,m,k _ _ (.inl rfl) e,c]
 |dK s=>let(z,y,A,r,m,B,E,e,c):=x;exact#[z,y,A,r,m,B,E,k _ _ (.inl rfl) e,c]
 |dT s =>
  let(z,y,j,r,m,B,E,e,c):=x;exact#[z,y,j,UJ.Aj r λp q z=>#[z.1,i _ _ z.2.1,z.2.2],m,B,E,k _ _ (.inl rfl) e,c]
 |set S n=>let(m,B,E,t,e,c):=x;exact#[m,B,E,t,k _ _ (.inl rfl) e,c]
 |ins C F fs =>
  obtain⟨d,z,ne,e,G,⟨I,B,E,J,c⟩,r⟩:=x;exact#[g _ d,z,ne,k _ _ (.inl rfl) e,G,#[I,B,E,k _ _ (.inr d) J,c],r]
 |own y=>let(m,e):=x;exact#[m,k _ _ (.inl rfl) e]
 |xd fs=>obtain⟨G,⟨I,B,E,e,c⟩,r⟩:=x;exact#[G,#[I,B,E,k _ _ (.inl rfl) e,c],r]
 |D9 K L=>let(t,u,v,e):=x;exact#[t,u,v,k _ _ (.inl rfl) e]
 |frz m u N=>let(e,q):=x;exact#[k _ _ (.inl rfl) e,N q]
 |cK U =>
  exact k a _ (.inl rfl) x
 |met f y =>
  exact k a _ (.inl rfl) x
 |ext X=>obtain⟨p,⟨o,e⟩,Y⟩:=x;exact#[Y _ _ p λo q=>k _ _ (.inl rfl) q,#[o,k _ _ (.inl rfl) e],Y]
theorem jm.lt(x:jm P w H h)(e:H a=↑o):a < h.objs.size:=(x a o e).lt
theorem jm.fresh(x:jm P w H h)(e:h.objs.size<=a):H a=none:=by
 cases q:H a with
 |none=>rfl|some u=>exact absurd (Ò (x.lt q) e) (Ui _)
theorem jm.kept(x:jm P w H h)(k:∀ b u,h.get? b=↑u->h'.get? b=↑u):jm P w H h':=λa o e =>
 (x a o e).iR (λb u _ q=>k b u q) (λ_ q=>q) λ_ _ q=>q
theorem jm.laid(x:jm P w H h)(k:∀ b u,h.get? b=↑u->h'.get? b=↑u)(d:h.objs.size<=a)(new:bY P w (upd H a o) h' a o):jm P w (upd H a o) h':=λb u e=>by
 have f:=x.fresh d;by_cases g:b=a
 .subst g;rw[ao] at e;cases e;exact new
 .rw[ag g] at e;exact(x b u e).iR (λc v _ q=>k c v q) (λc q=>by rw[ag (ax q f)];exact q) λc i q=>by rw[ag (ax q f)];exact q
end
def Rd(H:Hp)(a:È)(u:HO):Prop:=H a=↑u∨∃ o,H a=↑(.frz o u)
theorem Rd.ok{P:å}{w:î}{a:È}(r:Rd H a u)(x:jm P w H h):bY P w H h a u:=by
 rcases r with r | ⟨o,r⟩
 .exact x a u r
 .let(_,q):=x a _ r;exact q
def Li:Option HO->Prop
 |↑(.lst _)=>True|↑(.dK _)=>True|↑(.dT _)=>True|↑(.set _ _)=>True|↑(.ins _ _ _)=>True|↑(.ext _)=>True|_=>False
section
variable {P:å}{w:î}{H:Hp}{h h':ö}{x e:È}{o':HO}
theorem jm.write(ok:jm P w H h)(a:Li (H x))(d:e=x∨H e=↑(.own x))(k:∀ b u,b≠e->h.get? b=↑u->h'.get? b=↑u)(f:∃ u,h'.get? e=↑u)
  (new:bY P w (upd H x o') h' x o'):jm P w (upd H x o') h':=λb u q=>by
 have g:∀ c y,H c=↑(.own y)->c≠x:=λc y r z=>by subst z;rw[r] at a;exact a
 by_cases l:b=x
 .subst l;rw[ao] at q;cases q;exact new
 .rw[ag l] at q;by_cases m:b=e
  .have n:H b=↑(.own x):=by simp_all
   rw[q] at n;cases n;let(v,o):=f;exact#[v,by rw[m];exact o]
  .refine(ok b u q).iR (λc v p r=>k c v ?_ r) (λc r=>by rw[ag (g c b r)];exact r) λc j r=>by rw[ag ((λc j r z=>by subst z;rw[r] at a;exact a) c j r)];exact r
   rcases p with rfl | p
   .exact m
   .rintro rfl;rcases d with z | z
    .exact g c b p z
    .rw[p] at z;cases z;exact l rfl
end
structure Un(fs ex:⇑Addr)(H H':Hp)(h h':Heap):Prop where
 keep:∀ b o,h.get? b=↑o->H b=none->b ∉ fs->b ∉ ex->h'.get? b=↑o
 slot:∀ b o,h.get? b=↑o->H b=none->b∈fs->b ∉ ex->∃ sl,h'.get? b=↑{ o with slots:=sl }
 free:∀ b o,h.get? b=↑o->H b=none->b ∉ ex->H' b=none
 there:∀ b o,h.get? b=↑o->b ∉ ex->∃ o',h'.get? b=↑o'
 tups:∀ b xs,H b=↑(.tup xs)->H' b=↑(.tup xs)
 frzs:∀ b o u,H b=↑(.frz o u)->H' b=↑(.frz o u)
 tbls:∀ b ps,H b=↑(.cK ps)->∃ more,H' b=↑(.cK (ps++more))
section
variable {fs fs' ex ex':Zo}{H H1 H2:Hp}{h h1 h2 h':ö}{a x e:È}{o:HO}
theorem Un.any(u:Un fs ex H H1 h h1)(q:h.get? b=↑c)(n:H b=none)(d:b ∉ ex):∃ sl,h1.get? b=↑{ c with slots:=sl }:=by
 by_cases f:b∈fs
 .exact u.slot b c q n f d
 .exact#[c.slots,u.keep b c q n f d]
theorem Un.trans(a:Un fs ex H H1 h h1)(b:Un fs ex H1 H2 h1 h2):Un fs ex H H2 h h2 where
 keep:=λc ob q n hc hx=>b.keep c ob (a.keep c ob q n hc hx) (a.free c ob q n hx) hc hx
 slot:=λc ob q n hc hx=>by
  let(sl,e1):=a.slot c ob q n hc hx;let(sl',e2):=b.slot c _ e1 (a.free c ob q n hx) hc hx;exact#[sl',e2]
 free:=λc ob q n hx=>by
  let(o',e1):=a.there c ob q hx;exact b.free c o' e1 (a.free c ob q n hx) hx
 there:=λc ob q hx=>by
  let(o',e1):=a.there c ob q hx;exact b.there c o' e1 hx
 tups:=λc xs q=>b.tups c xs (a.tups c xs q)
 frzs:=λc ob xs q=>b.frzs c ob xs (a.frzs c ob xs q)
 tbls:=λc ps q=>by
  let(m1,e1):=a.tbls c ps q;let(m2,e2):=b.tbls c _ e1;exact#[m1++m2,by rw[e2,Array.append_assoc]]
theorem Un.kept(k:∀ b u,h.get? b=↑u->h'.get? b=↑u):Un fs ex H H h h' :=
 #[λb c q _ _ _=>k b c q,λb c q _ _ _=>#[c.slots,k b c q],λ_ _ _ n _=>n,λb c q _=>#[c,k b c q],λ_ _ q=>q,λ_ _ _ q=>q,λ_ d q=>#[[].toArray,by simp_all]]
theorem Un.refl:Un fs ex H H h h:=Un.kept λ_ _ q=>q
theorem Un.laid(k:∀ b u,h.get? b=↑u->h'.get? b=↑u)(hp:h.objs.size<=a)(hn:H a=none):Un fs ex H (upd H a o) h h' where
 keep:=λb u q _ _ _=>k b u q
 slot:=λb u q _ _ _=>#[u.slots,k b u q]
 free:=λb u q n _=>by rw[ag (Ù (Ò (à q) hp))];exact n
 there:=λb u q _=>#[u,k b u q]
 tups:=λb xs q=>by rw[ag (ax q hn)];exact q
 frzs:=λb u xs q=>by rw[ag (ax q hn)];exact q
 tbls:=λb ps q=>#[[].toArray,by rw[ag (ax q hn),q];simp]
theorem Un.write(c:Li (H x))(d:e=x∨H e=↑(.own x))(k:∀ b u,b≠e->h.get? b=↑u->h'.get? b=↑u)(f:∃ u,h'.get? e=↑u):Un fs ex H (upd H x o) h h':=by
 have g:∀ b,H b=none->b≠x:=λb n z=>by subst z;rw[n] at c;exact c
 have i:∀ b,H b=none->b≠e:=λb n z=>by simp_all
 have j:∀ b u,H b=↑u->¬ Li ↑u->b≠x:=λb u q l z=>by simp_all
 refine#[λb u q n _ _=>k b u (i b n) q,λb u q n _ _=>#[u.slots,k b u (i b n) q],λb u q n _=>by rw[ag (g b n)];exact n,λb u q _=>?_,
  λb m q=>by rw[ag (j b _ q λz=>z)];exact q,λb u m q=>by rw[ag (j b _ q λz=>z)];exact q,λb p q=>#[[].toArray,by rw[ag (j b _ q λz=>z),q];simp]]
 by_cases r:b=e
 .subst r;exact f
 .exact#[u,k b u r q]
theorem Un.mono(u:Un fs ex H H1 h h1)(hs:∀ b∈fs,b∈fs')(c:∀ b∈ex,b∈ex'):Un fs' ex' H H1 h h1 :=
 #[λb d q n f g=>u.keep b d q n (λz=>f (hs b z)) λz=>g (c b z),λ_ _ q n _ g=>u.any q n λz=>g (c _ z),λb d q n g=>u.free b d q n λz=>g (c b z),λb d q g=>u.there b d q λz=>g (c b z),u.tups,u.frzs,u.tbls]
end
def Kv(h:ö)(H:Hp):⇑Addr:=(ë h.objs.size).filter λa=>(H a).isSome
def qX(h:ö)(H:Hp):Heap:=hideAll h (Kv h H)
theorem uH(h:ö)(H:Hp):(qX h H).objs.size=h.objs.size:=PySem.W.hideAll_size _ _
theorem iS(e:h.get? b=↑o)(n:H b=none):(qX h H).get? b=↑o :=
 hideAll_get _ e λa=>by
  have q :=(List.mem_filter.mp a).2;rw[n] at q;simp at q
theorem Bp(e:(qX h H).get? b=↑o):h.get? b=↑o/\H b=none:=by
 have a :=of_hideAll _ e;refine#[a,?_];cases q:H b with
 |none=>rfl
 |some x =>
  have z:(qX h H).get? b=none:=PySem.W.hideAll_none _ (List.mem_filter.mpr #[Uc.mpr (à a),by simp[q]]);rw[z] at e;cases e
structure Mod(K:PySem.W.Frag)(mg:Str->Option Value)(base:Heap):Prop where
 kin:K.In base
 glob:base.Ns mainGlobals mg
 blt:∃ mb,base.Ns builtinsNs mb/\∀ x:Str,x≠"__name__"->mb x=bootBuiltins x
 nolimit:base.NoLimit
structure Cx where
 prog:Program
 w:World
 K:PySem.W.Frag
 mg:Str->Option Value
 base:Heap
 A:Around
 N:⇑Str
 s₀:Shared
 H₀:Hp
 env:Env
 outer:⇑Env
 stack:⇑Env
 ex:⇑Addr
 fn:Str->Bool
 calm:Bool
 pn:⇑(Addr × Obj)
 xe:Value->Shared->Prop
def eM(l:⇑Env):⇑Addr:=l.filterMap (·.frame)
abbrev Cx.fs(X:Cx):⇑Addr:=eM X.outer
def Bq(a:ò)(x:Str):Prop:=a.names.lookup x=↑.local∨a.names.lookup x=↑.cell∨a.names.lookup x=↑.free
def Loc(a:ò)(x:Str):Prop:=a.names.lookup x=↑.local∨a.names.lookup x=↑.cell
def Look(a:Env)(h:ö)(m:Str->Zn)(x:Str)(u:Ä):Prop :=
 (a.kindOf x=↑.local/\m x=↑u)∨((a.kindOf x=↑.cell∨a.kindOf x=↑.free)/\∃ c,a.cells.lookup x=↑c/\h.IsCell c ↑u)
structure Cx.Ok(X:Cx):Prop where
 mod:Mod X.K X.mg X.base
 kind:X.env.scope.kind=.function
 glob:X.env.globals=mainGlobals
 blt:X.env.builtins=builtinsNs
 above:X.s₀.heap.objs.size<=X.env.locals
 inj:∀ x y c,X.env.cells.lookup x=↑c->X.env.cells.lookup y=↑c->x=y
 has:∀ x,(X.env.kindOf x=↑.cell∨X.env.kindOf x=↑.free)->∃ c,X.env.cells.lookup x=↑c
 cab:∀ x c,X.fn x=true->X.env.cells.lookup x=↑c->X.s₀.heap.objs.size<=c
 hd:X.calm=true->X.A.handled=none
 frames:X.A.frames=↑X.stack
 stk:X.stack=X.outer∨(X.stack=X.env::X.outer/\X.env.frame=↑X.env.locals)
 exf:∀ b∈X.ex,b≠X.env.locals/\∀ x c,X.env.cells.lookup x=↑c->c≠b
 bs:∀ b o,X.base.get? b=↑o->X.s₀.heap.get? b=↑o/\X.H₀ b=none
 bsz:X.base.objs.size<=X.s₀.heap.objs.size
 noex:∀ b o,X.base.get? b=↑o->b ∉ X.ex
 exfs:∀ b∈X.ex,b ∉ X.fs
 j7:X.s₀.heap.FunFrames X.base X.outer
 frf:∀ b∈X.fs,X.H₀ b=none
structure Inv(X:Cx)(aa:⇑(Addr × Obj))(σ:⇑(Option V))(H:Hp)(s:Shared):Prop where
 ok:X.Ok
 os:s.os=X.s₀.os
 bare:AllBare s.gens
 base:Un X.fs X.ex X.H₀ H X.s₀.heap s.heap
 loc:∃ m,s.heap.Ns X.env.locals m/\∀ (i:Nat) (x:Str) (v:V),X.N[i]?=↑x->σ[i]?=↑↑v->Bq X.env.scope x->∃ u,RelV v u/\Look X.env s.heap m x u
 cell:∀ x c,X.env.cells.lookup x=↑c->∃ v,s.heap.IsCell c v
 free:H X.env.locals=none
 freeC:∀ x c,X.env.cells.lookup x=↑c->H c=none
 pin:∀ p∈X.pn++aa,s.heap.get? p.1=↑p.2/\H p.1=none/\p.1≠X.env.locals/\p.1 ∉ X.fs/\∀ v,p.2.data≠.cell v
 aM:jm X.prog X.w H s.heap
 len:σ.length=X.N.length
section
variable {X:Cx}{aa:⇑(È × Obj)}{σ:⇑(Option V)}{H H':Hp}{s:Ç}{h':ö}
theorem Cx.Ok.Q9(ok:X.Ok)(e:X.base.get? b=↑o):b ∉ X.fs:=λa=>by
 have:=(ok.j7.mem a).1
 grind
theorem Inv.bs(I:Inv X aa σ H s):∀ b o,X.base.get? b=↑o->s.heap.get? b=↑o/\H b=none:=λb o e =>
 #[I.base.keep b o (I.ok.bs b o e).1 (I.ok.bs b o e).2 (I.ok.Q9 e) (I.ok.noex b o e),I.base.free b o (I.ok.bs b o e).1 (I.ok.bs b o e).2 (I.ok.noex b o e)]
theorem Inv.bk(I:Inv X aa σ H s):∀ b o,X.base.get? b=↑o->s.heap.get? b=↑o:=λb o e=>(I.bs b o e).1
theorem Inv.mod(I:Inv X aa σ H s):Mod X.K X.mg X.base:=I.ok.mod
theorem Inv.lF(I:Inv X aa σ H s):X.K.In s.heap:=I.ok.mod.kin.keeps I.bk
theorem Inv.lt(I:Inv X aa σ H s):X.env.locals < s.heap.objs.size:=let #[_,a,_]:=I.loc;a.lt
theorem Inv.sz(I:Inv X aa σ H s):X.s₀.heap.objs.size<=s.heap.objs.size:=â I.ok.above (Vb I.lt)
theorem Inv.N7(I:Inv X aa σ H s)(h:s.heap.objs.size<=a):a ∉ X.fs:=λb=>by
 let(_,o,c,_):=I.ok.j7.mem b;exact absurd (Ò (à c) (â I.sz h)) (Ui _)
theorem Inv.C5(I:Inv X aa σ H s):∀ x c,X.env.cells.lookup x=↑c->c≠X.env.locals:=λx c e z=>by
 let(v,o,a,hd):=I.cell x c e;obtain⟨m,⟨b,d,f,g,h,_⟩,_⟩:=I.loc
 grind
theorem Inv.j7(I:Inv X aa σ H s):s.heap.FunFrames X.base X.outer:=by
 exact (by
  intro l
  induction l with
  |nil=>intro _ _;trivial
  |cons a r c =>
   intro hs d;obtain⟨f,⟨L,o,g,h,i,hd⟩,j⟩:=d;have k :=hs L (by delta eM;rw[Ud,g];exact Í)
   let(sl,e):=I.base.slot L o i (I.ok.frf L k) k λz=>I.ok.exfs L z k;exact#[f,#[L,_,g,h,e,hd],c (λb m=>hs b (by delta eM;rw[Ud,g];exact É _ m)) j]:∀ (l:⇑Env),(∀ b∈eM l,b∈X.fs)->X.s₀.heap.FunFrames X.base l->s.heap.FunFrames X.base l) X.outer (λ_ m=>m) I.ok.j7
theorem Inv.stack(I:Inv X aa σ H s):s.heap.FunFrames X.base X.stack:=by
 rcases I.ok.stk with e | ⟨e,a⟩
 .rw[e];exact I.j7
 .rw[e];let(m,b,_):=I.loc;refine .cons (by rw[I.ok.kind];decide) a b ?_ I.j7
  exact Heap.get?_none_of_le (â I.ok.bsz I.ok.above)
theorem Inv.Ak(I:Inv X aa σ H s):∀ b∈eM X.stack,b∈X.env.locals::X.fs:=λb a=>by
 rcases I.ok.stk with e | ⟨e,c⟩
 .simp_all
 .rw[e] at a;unfold eM at a;rw[Ud,c] at a;exact a
theorem Inv.gv(I:Inv X aa σ H s):∀ b∈eM X.stack,H b=none:=λb a=>by
 rcases ã.mp (I.Ak b a) with e | a
 .rw[e];exact I.free
 .let(_,o,c,_):=I.ok.j7.mem a;exact I.base.free b o c (I.ok.frf b a) λz=>I.ok.exfs b z a
theorem Inv.step{g':Array GenState}{d':Drawn}{ch:Zo}(I:Inv X aa σ H s)
  (a:∀ b∈ch,(b∈X.ex∨X.s₀.heap.objs.size<=b)/\b≠X.env.locals/\(∀ x c,X.env.cells.lookup x=↑c->c≠b)/\∀ p∈X.pn++aa,p.1≠b)
  (keep:∀ b o,b≠X.env.locals->b ∉ X.fs->b ∉ ch->s.heap.get? b=↑o->H b=none->h'.get? b=↑o)
  (f:∀ b o,b≠X.env.locals->b∈X.fs->b ∉ ch->s.heap.get? b=↑o->H b=none->∃ sl,h'.get? b=↑{ o with slots:=sl }) (free:∀ b o,b ∉ ch->s.heap.get? b=↑o->H b=none->H' b=none)
  (there:∀ b o,b ∉ ch->s.heap.get? b=↑o->∃ g,h'.get? b=↑g)
  (h:∀ b j,H b=↑(.tup j)->H' b=↑(.tup j)) (y:∀ b o u,H b=↑(.frz o u)->H' b=↑(.frz o u)) (A:∀ b B,H b=↑(.cK B)->∃ more,H' b=↑(.cK (B++more)))
  (ns:∀ m,s.heap.Ns X.env.locals m->h'.Ns X.env.locals m) (aM:jm X.prog X.w H' h') (hg:Xz g') :
  Inv X aa σ H' { s with heap:=h',gens:=g',drawn:=d',toks:=t' }:=by
 have C:∀ b o,X.s₀.heap.get? b=↑o->b≠X.env.locals:=λb o e=>Ù (Ò (à e) I.ok.above);have E:∀ b o,X.s₀.heap.get? b=↑o->b ∉ X.ex->b ∉ ch:=λb o e F G=>by
  rcases (a b G).1 with z | z
  .exact F z
  .exact absurd (Ò (à e) z) (Ui _)
 have J:∀ x c,X.env.cells.lookup x=↑c->∀ v,s.heap.IsCell c v->h'.IsCell c v:=λx c e v #[o,K,hd]=>by
  have L :=λz=>(a c z).2.2.1 x c e rfl;by_cases N:c∈X.fs
  .let(sl,q):=f c o (I.C5 x c e) N L K (I.freeC x c e);exact#[_,q,hd]
  .exact#[o,keep c o (I.C5 x c e) N L K (I.freeC x c e),hd]
 refine#[I.ok,I.os,hg,#[λb o e n G F=>?_,λb o e n G F=>?_,λb o e n F=>?_,λb o e F=>?_,λb j e=>h b j (I.base.tups b j e),λb o j e=>y b o j (I.base.frzs b o j e),λb B e=>?_],?_,λx c e=>?_,?_,λx c e=>?_,λp hp=>?_,aM,I.len]
 .exact keep b o (C b o e) G (E b o e F) (I.base.keep b o e n G F) (I.base.free b o e n F)
 .let(sl,P):=I.base.slot b o e n G F;let(U,Y):=f b _ (C b o e) G (E b o e F) P (I.base.free b o e n F);exact#[U,Y]
 .let(g,P):=I.base.there b o e F;exact free b g (E b o e F) P (I.base.free b o e n F)
 .let(g,P):=I.base.there b o e F;exact there b g (E b o e F) P
 .let(m1,P):=I.base.tbls b B e;let(m2,Y):=A b _ P;exact#[_,by rw[Y,Array.append_assoc]]
 .let(m,hn,hl):=I.loc;refine#[m,ns m hn,λi x v P Y e3=>?_];let(u,r,l):=hl i x v P Y e3;refine#[u,r,?_];rcases l with l | ⟨k,c,e,z⟩
  .exact .inl l
  .exact .inr #[k,c,e,J x c e _ z]
 .let(v,z):=I.cell x c e;exact#[v,J x c e v z]
 .obtain⟨m,⟨o,_,_,K,_⟩,_⟩:=I.loc;exact free _ o (λz=>(a _ z).2.1 rfl) K I.free
 .let(v,o,K,hd):=I.cell x c e;exact free c o (λz=>(a c z).2.2.1 x c e rfl) K (I.freeC x c e)
 .let(e,n,ne,nf,d):=I.pin p hp;have L:p.1 ∉ ch:=λz=>(a p.1 z).2.2.2 p hp rfl;exact#[keep p.1 p.2 ne nf L e n,free p.1 p.2 L e n,ne,nf,d]
theorem Inv.un(I:Inv X aa σ H s)(u:Un X.fs [] H H' s.heap h')(a:jm X.prog X.w H' h'):Inv X aa σ H' { s with heap:=h',toks:=t' }:=by
 obtain⟨m,⟨o,c,d,f,r⟩,_⟩:=id I.loc;let(sl,g):=u.any f I.free ⋯
 exact I.step   (ch:=[]) (λ_ z=>nomatch z) (λb o _ h _ e n=>u.keep b o e n h ⋯) (λb o _ h _ e n=>u.slot b o e n h ⋯) (λb o _ e n=>u.free b o e n ⋯) (λb o _ e=>u.there b o e ⋯) u.tups u.frzs u.tbls (λi j=>by
  let(k,l,p,q,v):=j;rw[f] at q;cases q;exact#[_,l,p,g,v]) a I.bare
theorem Inv.call{ch:Zo}(I:Inv X aa σ H s)(u:Un (eM X.stack) ch H H' s.heap h')(a:jm X.prog X.w H' h')(d:Xz g')
  (f:∀ b∈ch,(b∈X.ex∨X.s₀.heap.objs.size<=b)/\b≠X.env.locals/\(∀ x c,X.env.cells.lookup x=↑c->c≠b)/\∀ p∈X.pn++aa,p.1≠b) :
  Inv X aa σ H' { s with heap:=h',gens:=g',drawn:=d',toks:=t' }:=by
 obtain⟨m,⟨o,g,h,i,r⟩,_⟩:=id I.loc;let(sl,j):=u.any i I.free λz=>(f _ z).2.1 rfl;exact I.step  f (λb o j k l e n=>u.keep b o e n (λz=>(ã.mp (I.Ak b z)).elim j k) l) (λb o _ _ l e n=>u.any e n l) (λb o l e n=>u.free b o e n l) (λb o l e=>u.there b o e l) u.tups u.frzs u.tbls (λq v=>by
  let(y,A,B,C,E):=v;rw[i] at C;cases C;exact#[_,A,B,j,E]) a d
theorem Inv.turned{t':Nat}{it:È}(I:Inv X aa σ H s)(k:∀ b o,b≠it->s.heap.get? b=↑o->h'.get? b=↑o)(a:H it=none)(d:it≠X.env.locals)
  (f:it∈X.ex∨X.s₀.heap.objs.size<=it) (g:∀ x c,X.env.cells.lookup x=↑c->c≠it) (h:∀ p∈X.pn++aa,p.1≠it):Inv X aa σ H { s with heap:=h',toks:=t' }:=by
 have i:∀ b u,H b=↑u->b≠it:=λb u e z=>by simp_all
 refine I.step   (ch:=[it]) (λb j=>?_) (λb o _ _ l e _=>k b o (λz=>l (by simp[z])) e) (λb o _ _ l e _=>#[o.slots,k b o (λz=>l (by simp[z])) e]) (λ_ _ _ _ n=>n)
  (λb o l e=>#[o,k b o (λz=>l (by simp[z])) e]) (λ_ _ e=>e) (λ_ _ _ e=>e) (λb y e=>#[[].toArray,by simp_all]) (λm A=>?_) (λb u e=>?_) I.bare
 .have e :=by simpa using j
  subst e;exact#[f,d,g,h]
 .let(o,B,C,E,r):=A;exact#[o,B,C,k _ o (ñ d) E,r]
 .refine(I.aM b u e).iR (λc v l q=>k c v ?_ q) (λ_ q=>q) λ_ _ q=>q;rcases l with z | z
  .rw[z];exact i b u e
  .exact i c _ z
theorem Inv.tok(I:Inv X aa σ H s)(t:Nat):Inv X aa σ H { s with toks:=t }:=I.un   Un.refl I.aM
theorem Inv.kept{t':Nat}(I:Inv X aa σ H s)(k:∀ b u,s.heap.get? b=↑u->h'.get? b=↑u):Inv X aa σ H { s with heap:=h',toks:=t' }:=I.un (Un.kept k) (I.aM.kept k)
theorem Inv.laid{a:È}{o:HO}{t':Nat}(I:Inv X aa σ H s)(k:∀ b u,s.heap.get? b=↑u->h'.get? b=↑u)(c:s.heap.objs.size<=a)(new:bY X.prog X.w (upd H a o) h' a o) :
  Inv X aa σ (upd H a o) { s with heap:=h',toks:=t' }:=I.un (Un.laid k c (I.aM.fresh c)) (I.aM.laid k c new)
theorem Inv.write{x e:È}{o:HO}{t':Nat}(I:Inv X aa σ H s)(a:Li (H x))(c:e=x∨H e=↑(.own x))(k:∀ b u,b≠e->s.heap.get? b=↑u->h'.get? b=↑u)(d:∃ u,h'.get? e=↑u)
  (new:bY X.prog X.w (upd H x o) h' x o):Inv X aa σ (upd H x o) { s with heap:=h',toks:=t' }:=I.un (Un.write a c k d) (I.aM.write a c k d new)
theorem Inv.lG(I:Inv X aa σ H s)(h:∀ p∈a,s.heap.get? p.1=↑p.2/\H p.1=none/\p.1≠X.env.locals/\p.1 ∉ X.fs/\∀ v,p.2.data≠.cell v):Inv X a σ H s :=
 #[I.ok,I.os,I.bare,I.base,I.loc,I.cell,I.free,I.freeC,λp b=>(ù.mp b).elim (λz=>I.pin p (Vi _ z)) (h p),I.aM,I.len]
theorem nu{N:Zj}(c:N.Nodup){i j:Nat}{x:Str}(a:N[i]?=↑x)(b:N[j]?=↑x):i=j:=by
 let(d,e):=Ý.mp a;let(f,g):=Ý.mp b;exact(List.getElem_inj c).mp (e.trans g.symm)
theorem oT{M:Model}{v:V}{Q:Unit->Ç->Prop}(I:Inv X aa σ H s)(hN:X.N.Nodup)(f:X.N[i]?=↑x)(g:Loc X.env.scope x)(r:RelV v u)
  (h:∀ s',Inv X aa (σ.set i ↑v) H s'->(∃ a,V6 a s.heap s'.heap/\(a=X.env.locals∨X.env.cells.lookup x=↑a))->Q () s') (hf:X.fn x=true∨X.env.scope.names.lookup x=↑.local:=by first | exact .inl rfl | exact .inr rfl | assumption):Ü M A (storeName X.env x u) Q E s:=by
 let(m,hn,hl):=id I.loc;have B:i < σ.length:=by rw[I.len];exact(Ý.mp f).1
 have C5:=I.C5;have C:∀ {a:È}{h':ö},(∃ o,s.heap.get? a=↑o/\H a=none)->V6 a s.heap h'->jm X.prog X.w H h':=λ{a h'} ha hs b ob e=>by
  let(_,_,hfree):=ha;refine(I.aM b ob e).iR (λc w' F q=>(hs.2 c ?_).trans q) (λ_ q=>q) λ_ _ q=>q
  grind
 rcases g with G | G
 .refine wpAny_storeName_local G hn (λh' hn' hs=>?_) (by rw[I.ok.kind];rfl);let(oL,_,_,hoL,_):=id hn;refine h _ #[I.ok,I.os,I.bare,#[λb o e n J g=>?_,λb o e n J g=>?_,I.base.free,λb o e g=>?_,I.base.tups,I.base.frzs,I.base.tbls],#[_,hn',λj y v' K L e3=>?_],λy c e=>?_,I.free,I.freeC,λp hp=>?_,C #[oL,hoL,I.free] hs,by simpa using I.len] #[_,hs,.inl rfl]
  .exact(hs.2 b (Ù (Ò (à e) I.ok.above))).trans (I.base.keep b o e n J g)
  .let(sl,K):=I.base.slot b o e n J g;exact#[sl,(hs.2 b (Ù (Ò (à e) I.ok.above))).trans K]
  .let(o',K):=I.base.there b o e g;exact#[o',(hs.2 b (Ù (Ò (à e) I.ok.above))).trans K]
  .by_cases P:j=i
   .subst P;rw[f] at K;cases K;rw[Ø B] at L;cases L;exact#[u,r,.inl #[G,⋯]]
   .rw[Ï (ñ P)] at L;let(u',r',q):=hl j y v' K L e3;refine#[u',r',?_];rcases q with ⟨k,e⟩ | ⟨k,c,e,z⟩
    .refine .inl #[k,?_];have:y≠x:=λe=>P (nu hN K (e ▸ f));simp[this,e]
    .exact .inr #[k,c,e,z.sameBut hs (C5 y c e)]
  .let(w',z):=I.cell y c e;exact#[w',z.sameBut hs (C5 y c e)]
  .let(e,n,ne,nf,d):=I.pin p hp;exact#[(hs.2 p.1 ne).trans e,n,ne,nf,d]
 .have U:X.fn x=true:=by simp_all
  let(c,F):=I.ok.has x (.inl G);let(w',z):=I.cell x c F;refine wpAny_storeName_cell I.ok.kind G F z (λh' Y hs=>?_);let(oc,hoc,hocd):=id z;refine h _ #[I.ok,I.os,I.bare,#[λb o e n J g=>?_,λb o e n J g=>?_,I.base.free,λb o e g=>?_,I.base.tups,I.base.frzs,I.base.tbls],#[m,hn.sameBut hs (ñ (C5 x c F)),λj y v' K L e3=>?_],λy c' e=>?_,I.free,I.freeC,λp hp=>?_,C #[oc,hoc,I.freeC x c F] hs,by simpa using I.len] #[c,hs,.inr F]
  .exact(hs.2 b (Ù (Ò (à e) (I.ok.cab x c U F)))).trans (I.base.keep b o e n J g)
  .let(sl,K):=I.base.slot b o e n J g;exact#[sl,(hs.2 b (Ù (Ò (à e) (I.ok.cab x c U F)))).trans K]
  .let(o',K):=I.base.there b o e g;exact#[o',(hs.2 b (Ù (Ò (à e) (I.ok.cab x c U F)))).trans K]
  .by_cases P:j=i
   .subst P;rw[f] at K;cases K;rw[Ø B] at L;cases L;exact#[u,r,.inr #[.inl G,c,F,Y]]
   .rw[Ï (ñ P)] at L;let(u',r',q):=hl j y v' K L e3;refine#[u',r',?_];rcases q with q | ⟨k,c',e,z'⟩
    .exact .inl q
    .refine .inr #[k,c',e,z'.sameBut hs ?_];rintro rfl;exact P (nu hN K (I.ok.inj _ _ _ e F ▸ f))
  .by_cases hcc:c'=c
   .subst hcc;exact#[_,Y]
   .let(w2,z2):=I.cell y c' e;exact#[w2,z2.sameBut hs hcc]
  .let(e,n,ne,nf,d):=I.pin p hp;refine#[(hs.2 p.1 ?_).trans e,n,ne,nf,d];intro q;rw[q,hoc] at e;have q':oc=p.2:=í e;exact d w' (by rw[<-q'];exact hocd)
theorem iT{M:Model}{Q:Unit->Ç->Prop}(I:Inv X aa σ H s)(a:X.N.Nodup)(b:X.N[i]?=↑x)(c:Loc X.env.scope x)(r:RelV v u)
  (h:∀ d,Inv X aa (σ.set i ↑v) H d->Q () d) (e:X.fn x=true∨X.env.scope.names.lookup x=↑.local:=by first | exact .inl rfl | exact .inr rfl | assumption):Ü M A (storeName X.env x u) Q E s :=
 oT I a b c r (λd f _=>h d f) e
theorem Inv.Eo{s':Ç}{ch:Zo}(I:Inv X aa σ H s)(a:s'.os=s.os)(u:Un (eM X.stack) ch H H' s.heap s'.heap)(d:jm X.prog X.w H' s'.heap)(f:Xz s'.gens)
  (g:∀ b∈ch,(b∈X.ex∨X.s₀.heap.objs.size<=b)/\b≠X.env.locals/\(∀ x c,X.env.cells.lookup x=↑c->c≠b)/\∀ p∈X.pn++aa,p.1≠b):Inv X aa σ H' s':=by
 let(h',h,i,j,k):=s';subst a;exact I.call    u d f g
end
abbrev XK:=Ä->Zl->Hp->Prop
abbrev St:=⇑(Option V)
abbrev VK:=V->Hp->Prop
abbrev TE:=St->Hp->VK->Prop
abbrev TT:=St->Hp->(Bool->Hp->Prop)->Prop
abbrev TA:=St->Hp->(⇑V->Hp->Prop)->Prop
structure Ends where
 nx:St->Hp->Prop
 rt:VK
 bk:St->Hp->Prop:=λ_ _=>False
 ct:St->Hp->Prop:=λ_ _=>False
abbrev TS:=Ends->St->Hp->Prop
inductive EP (X:Cx) (aa:⇑(Addr × Obj)) (σ:St) (Q:VK) (u:Value) (s':Shared):Prop where
 |mk (v H') (h0:Inv X aa σ H' s') (h1:RelV v u) (h2:Q v H'):EP X aa σ Q u s'
inductive TP (X:Cx) (aa:⇑(Addr × Obj)) (σ:St) (Q:Bool->Hp->Prop) (b:Bool) (s':Shared):Prop where
 |mk (H') (h0:Inv X aa σ H' s') (h1:Q b H'):TP X aa σ Q b s'
inductive AP (X:Cx) (aa:⇑(Addr × Obj)) (σ:St) (Q:⇑V->Hp->Prop) (us:⇑Value) (s':Shared):Prop where
 |mk (vs H') (h0:Inv X aa σ H' s') (h1:Vals vs us) (h2:Q vs H'):AP X aa σ Q us s'
def SP(X:Cx)(a:⇑(È × Obj))(D:Ends)(f:Flow)(b:Ç):Prop :=
 match f with
 |.next=>∃ c d,Inv X a c d b/\D.nx c d
 |.brk=>∃ c d,Inv X a c d b/\D.bk c d|.cont=>∃ c d,Inv X a c d b/\D.ct c d|.ret u=>∃ v c d,Inv X a c d b/\RelV v u/\D.rt v d
def PE(X:Cx)(e:Ö)(t:TE):Prop :=
 ∀ (a:⇑(È × Obj)) (s:Ç) (b:St) (H:Hp) (Q:VK),Inv X a b H s->t b H Q->Ü (ß X.prog X.w) X.A (eval e X.env) (EP X a b Q) X.xe s
def PT(X:Cx)(e:Ö)(t:TT):Prop :=
 ∀ (a:⇑(È × Obj)) (s:Ç) (b:St) (H:Hp) (Q:Bool->Hp->Prop),Inv X a b H s->t b H Q->Ü (ß X.prog X.w) X.A (isTrue e X.env (eval e X.env)) (TP X a b Q) X.xe s
def PW(X:Cx)(e:Ö)(t:TT):Prop :=
 ∀ (a:Sem Ä) (b:⇑(È × Obj)) (s:Ç) (c:St) (H:Hp) (Q:Bool->Hp->Prop),Inv X b c H s->t c H Q->Ü (ß X.prog X.w) X.A (isTrue e X.env a) (TP X b c Q) X.xe s
theorem PW.pt{t:TT}(h:PW X e t):PT X e t:=h _
def PA(X:Cx)(a:Zm)(t:TA):Prop :=
 ∀ (pos:Pos) (b:⇑(È × Obj)) (s:Ç) (c:St) (H:Hp) (Q:⇑V->Hp->Prop),Inv X b c H s->t c H Q->Ü (ß X.prog X.w) X.A (spliced (backTo pos (Ul a X.env))) (AP X b c Q) X.xe s
def PS(X:Cx)(a:Uv)(t:TS):Prop :=
 ∀ (b:⇑(È × Obj)) (s:Ç) (c:St) (H:Hp) (D:Ends),Inv X b c H s->t D c H->Ü (ß X.prog X.w) X.A (exec a X.env) (SP X b D) X.xe s
def dM(X:Cx)(a:⇑Uv)(t:TS):Prop :=
 ∀ (b:⇑(È × Obj)) (s:Ç) (c:St) (H:Hp) (D:Ends),Inv X b c H s->t D c H->Ü (ß X.prog X.w) X.A (execs a X.env) (SP X b D) X.xe s
theorem bQ{t:Sem α}{Q b:α->Ç->Prop}{M:Model}{s:Ç}(h:Ü M A t Q E s)(c:∀ a s,Q a s->b a s):Ü M A t b E s:=UQ h c λ_ _ x=>x
section
variable {X:Cx}
def yk(i:Nat):TE:=λa H Q=>∃ v,a[i]?=↑↑v/\Q v H
def tC(v:V):TE:=λ_ H Q=>Q v H
theorem cg{i:Nat}{x:Str}{pos:Pos}(a:X.N[i]?=↑x)(b:Bq X.env.scope x)(hd:(x == ("__debug__":Str))=false:=by decide)(d:(x == ("__classdict__":Str))=false:=by decide):PE X (.Name x pos) (yk i):=by
 intro f s g H Q I h;let(v,e,h):=h;let(m,j,k):=I.loc;let(u,r,l):=k i x v a e b;have n:EP X f g Q u s:=#[v,H,I,r,h];rcases l with ⟨o,p⟩ | ⟨o,c,q,y⟩
 .exact Yu (WB I.ok.kind o j p n) hd
 .rcases o with o | o
  .exact Yu (Yg I.ok.kind o q y n) hd
  .exact Yu (wpAny_loadName_free I.ok.kind o q y n d) hd
theorem qY{i j pos}:PE X (.Constant (~~~i) j pos) (tC (~~~i)):=λ_ _ _ H _ I h=>wpAny_Constant_int #[~~~i,H,I.tok _,#[_,rfl],h]
theorem N8{b j pos}:PE X (.Constant (.bool b) j pos) (tC (.bl b)):=λ_ _ _ H _ I h=>Constant_bool #[.bl b,H,I,rfl,h]
theorem Al{j pos}:PE X (.Constant .none j pos) (tC .cD):=λ_ _ _ H _ I h=>Constant_none #[.cD,H,I,rfl,h]
theorem Ep{x j pos}:PE X (.Constant (.str x) j pos) (tC (.str x)):=λ_ _ _ H _ I h=>Calls.Constant_str #[.str x,H,I.tok _,#[_,rfl],h]
def Gl(X:Cx)(x:Str):Prop:=X.env.kindOf x=↑.globalImplicit
theorem lH{pos:Pos}{Q:Ä->Ç->Prop}(I:Inv X a σ H s)(b:Gl X x)(c:X.mg x=↑u)(h:Q u s)
  (hd:(x == ("__debug__":Str))=false:=by decide):Ü (ß X.prog X.w) X.A (eval (.Name x pos) X.env) Q E s :=
 X5 I.ok.kind b (Calls.loadGlobal_global (by rw[I.ok.glob];exact I.mod.glob.keeps I.bk) c h) hd
theorem f7{s:Ç}{pos:Pos}{Q:Ä->Ç->Prop}(I:Inv X a σ H s)(b:Gl X x)(c:X.mg x=none)(d:ý x=↑u)(h:Q u s)
  (e:x≠"__name__":=by decide) (hd:(x == ("__debug__":Str))=false:=by decide):Ü (ß X.prog X.w) X.A (eval (.Name x pos) X.env) Q E s:=by
 let(f,g,i):=I.mod.blt;exact X5 I.ok.kind b (Calls.loadGlobal_builtin (by rw[I.ok.glob];exact I.mod.glob.keeps I.bk) c (by rw[I.ok.blt];exact g.keeps I.bk) ((i x e).trans d) h) hd
theorem dD{v:V}{pos:Pos}(a:Gl X x)(b:X.mg x=↑u)(r:RelV v u)(hd:(x == ("__debug__":Str))=false:=by decide):PE X (.Name x pos) (tC v) :=
 λ_ _ _ H _ I h=>lH I a b #[v,H,I,r,h] hd
theorem qA{v:V}{pos:Pos}(a:Gl X x)(b:X.mg x=none)(c:ý x=↑u)(r:RelV v u)(d:x≠"__name__":=by decide)(hd:(x == ("__debug__":Str))=false:=by decide):PE X (.Name x pos) (tC v) :=
 λ_ _ _ H _ I h=>f7 I a b c #[v,H,I,r,h] d hd
variable {a b:Ö}{ta tb:TE}{pos:Pos}
def tB(t:TE):TT:=λd H Q=>t d H λx e=>∃ c,x=.bl c/\Q c e
theorem vW{t:TE}(h:PE X e t)(c:∀ f,isTrue e X.env f=(do let v <-f;standAt e.pos;holding [v] (truthy v)):=by intro _;rfl):PT X e (tB t):=by
 intro g s i H Q I hw;refine isTrue_plain (bQ (h g s i H _ I hw) λv s1 #[x,H1,j,k,l]=>?_) (c _);let(d,rfl,q):=l;subst k;exact UW #[H1,j,q]
variable {tA tB':TT}{rest:Zm}
def Ra(t u:TT):TT:=λd H Q=>t d H λc e=>if c=true then u d e Q else Q false e
def Tv(t u:TT):TT:=λd H Q=>t d H λc e=>if c=true then Q true e else u d e Q
def Rb(t:TT):TT:=λd H Q=>t d H λc e=>Q (!c) e
theorem Br(d:PT X a tA):PW X (.BoolOp .And [a] pos) tA:=by
 intro f g s i H Q I h;refine isTrue_and (bQ (d g s i H Q I h) λc s1 e=>?_);cases c with
 |true=>exact isTrue_and_nil e|false=>exact e
theorem Lj(d:PT X a tA):PW X (.BoolOp .Or [a] pos) tA:=by
 intro f g s i H Q I h;refine isTrue_or (bQ (d g s i H Q I h) λc s1 e=>?_);cases c with
 |false=>exact isTrue_or_nil e|true=>exact e
theorem Er(d:PT X a tA)(e:PW X (.BoolOp .And (b::rest) pos) tB'):PW X (.BoolOp .And (a::b::rest) pos) (Ra tA tB'):=by
 intro f g s i H Q I h;refine isTrue_and (bQ (d g s i H _ I h) λc s1 #[H1,j,k]=>?_);cases c with
 |true=>exact e f g s1 i H1 Q j k|false=>exact#[H1,j,k]
theorem N9(d:PT X a tA)(e:PW X (.BoolOp .Or (b::rest) pos) tB'):PW X (.BoolOp .Or (a::b::rest) pos) (Tv tA tB'):=by
 intro f g s i H Q I h;refine isTrue_or (bQ (d g s i H _ I h) λc s1 #[H1,j,k]=>?_);cases c with
 |true=>exact#[H1,j,k]|false=>exact e f g s1 i H1 Q j k
theorem Am(d:PT X a tA):PT X (.UnaryOp .Not a pos) (Rb tA):=by
 intro e s f H Q I h;exact isTrue_not (bQ (d e s f H _ I h) λ_ _ #[g,i,j]=>#[g,i,j])
def Oa(ta tb:TE):TE:=λd H Q=>ta d H λx e=>∃ c,x=.bl c/\if c=true then tb d e Q else Q (.bl false) e
def Rc(ta tb:TE):TE:=λd H Q=>ta d H λx e=>∃ c,x=.bl c/\if c=true then Q (.bl true) e else tb d e Q
def Ob(ta:TE):TE:=λd H Q=>ta d H λx e=>∃ c,x=.bl c/\Q (.bl (!c)) e
theorem Lk{t:TE}(h:PE X a t):PE X (.BoolOp op [a] pos) t:=λc s d H Q I hw=>BoolOp_one (h c s d H Q I hw)
theorem Ll(d:PE X a ta)(e:PE X (.BoolOp .And (b::rest) pos) tb):PE X (.BoolOp .And (a::b::rest) pos) (Oa ta tb):=by
 intro f s g H Q I h;refine BoolOp_and (bQ (d f s g H _ I h) λv s1 #[x,H1,i,j,k]=>?_);let(c,rfl,k):=k;subst j;apply UW;cases c with
 |true=>exact e f s1 g H1 Q i k|false=>exact#[.bl false,H1,i,rfl,k]
theorem Oc(d:PE X a ta)(e:PE X (.BoolOp .Or (b::rest) pos) tb):PE X (.BoolOp .Or (a::b::rest) pos) (Rc ta tb):=by
 intro f s g H Q I h;refine BoolOp_or (bQ (d f s g H _ I h) λv s1 #[x,H1,i,j,k]=>?_);let(c,rfl,k):=k;subst j;apply UW;cases c with
 |false=>exact e f s1 g H1 Q i k|true=>exact#[.bl true,H1,i,rfl,k]
theorem Es(d:PE X a ta):PE X (.UnaryOp .Not a pos) (Ob ta):=by
 intro e s f H Q I h;refine UnaryOp_ (bQ (d e s f H _ I h) λv s1 #[x,H1,g,i,j]=>?_);let(c,rfl,j):=j;subst i;exact not_of (UW #[.bl _,H1,g,rfl,j])
def Et(t:TT)(ta tb:TE):TE:=λd H Q=>t d H λc e=>if c=true then ta d e Q else tb d e Q
theorem Eu(e:PT X c tA)(f:PE X a ta)(g:PE X b tb):PE X (.IfExp c a b pos) (Et tA ta tb):=by
 intro i s j H Q I h;refine wpAny_IfExp (bQ (e i s j H _ I h) λd s1 #[H1,k,l]=>?_);cases d with
 |true=>exact f i s1 j H1 Q k l|false=>exact g i s1 j H1 Q k l
end
def gU(K:Ã)(H:Hp)(a:È)(b:⇑V):Prop :=
 Rd H a (.lst b) ∨
  ∃ (o:Obj) (c:Zp) (n:Nat),K.lookup a=↑o/\o.cls=.type "list"/\o.dict=none/\o.data=.seq c n/\c.size<=sizeLine/\Vals b c.toList
def dY(K:Ã)(H:Hp)(a:È)(b:⇑V):Prop :=
 Rd H a (.tup b) ∨
  ∃ (o:Obj) (c:Zp) (n:Nat),K.lookup a=↑o/\o.cls=.type "tuple"/\o.data=.seq c n/\c.size<=sizeLine/\Vals b c.toList
def Rf:Ä->Option V
 |.none=>↑.cD|.bool b=>↑(.bl b)|.int i _=>↑(~~~i)|.str x _=>↑(.str x)|.bytes b _=>↑(.byt b)|.float b _=>↑(.fb b)|↥a=>↑↥a|.type n=>↑(.ty n)|_=>none
theorem RelV.abs(r:RelV x u):Rf u=↑x:=by
 cases x with
 |cD=>subst r;rfl|bl _=>subst r;rfl|int _=>let(t,rfl):=r;rfl
 |str _=>let(t,rfl):=r;rfl
 |byt _=>let(t,rfl):=r;rfl
 |fb _=>let(t,rfl):=r;rfl
 |ref _=>subst r;rfl|ty _=>subst r;rfl
theorem RelV.inj(r:RelV x u)(q:RelV y u):x=y:=í (r.abs.symm.trans q.abs)
theorem Vals.inj:∀ {a b:⇑V}{c:Zk},Vals a c->Vals b c->a=b:=by
 intro a b c h
 induction h generalizing b with
 |nil=>intro k;cases k;rfl
 |cons r _ i =>
  intro k;cases k with
  |cons e f=>rw[r.inj e,i f]
section
variable {X:Cx}{aa:⇑(È × Obj)}{σ:St}{H:Hp}{s:Ç}{a:È}{xs ys:⇑V}
theorem gU.of{K:Ã}(h:H a=↑(.lst xs)):gU K H a xs:=.inl (.inl h)
theorem dY.of{K:Ã}(h:H a=↑(.tup xs)):dY K H a xs:=.inl (.inl h)
theorem Inv.list(I:Inv X aa σ H s)(h:gU X.K H a xs):∃ ar:Zk,Vals xs ar/\PlainL s.heap a ar.toArray/\xs.length<=sizeLine:=by
 rcases h with h | ⟨o,ar,n,b,c,hd,hs,hz,r⟩
 .let(z,ar,n,r,e):=h.ok I.aM;exact#[ar,r,#[_,n,e,rfl,rfl,rfl],z]
 .refine#[ar.toList,r,#[o,n,I.lF a o b,c,hd,hs],?_];have e:=r.length
  grind
theorem Inv.tuple(I:Inv X aa σ H s)(h:dY X.K H a xs):∃ ar:Zk,Vals xs ar/\XM s.heap a ar.toArray/\xs.length<=sizeLine:=by
 rcases h with h | ⟨o,ar,n,b,c,hs,hz,r⟩
 .let(z,ar,r,p):=h.ok I.aM;exact#[ar,r,p,z]
 .refine#[ar.toList,r,#[o,I.lF a o b,c,n,hs],?_];have e:=r.length
  simp_all
theorem Inv.yl(I:Inv X aa σ H s)(h:gU X.K H a xs)(b:gU X.K H a ys):xs=ys:=by
 obtain⟨c,r,⟨o,n,e,_,_,d⟩,_⟩:=I.list h;obtain⟨f,g,⟨i,j,k,_,_,l⟩,_⟩:=I.list b;rw[e] at k;cases k;rw[d] at l;injection l with m _;have :=by simpa using congrArg toList m
 subst this;exact r.inj g
theorem Inv.uI(I:Inv X aa σ H s)(h:dY X.K H a xs)(b:dY X.K H a ys):xs=ys:=by
 obtain⟨c,r,⟨o,e,_,n,d⟩,_⟩:=I.tuple h;obtain⟨f,g,⟨i,j,_,k,l⟩,_⟩:=I.tuple b;rw[e] at j;cases j;rw[d] at l;injection l with m _;have :=by simpa using congrArg toList m
 subst this;exact r.inj g
end
abbrev Cx.ui(X:Cx)(E:Ä->Ç->Prop):Cx:={ X with xe:=E }
abbrev Cx.QS(X:Cx):Cx:=X.ui λ_ _=>False
theorem Cx.Ok.ui{X:Cx}(ok:X.Ok)(E:Ä->Ç->Prop):(X.ui E).Ok :=
 #[ok.mod,ok.kind,ok.glob,ok.blt,ok.above,ok.inj,ok.has,ok.cab,ok.hd,ok.frames,ok.stk,ok.exf,ok.bs,ok.bsz,ok.noex,ok.exfs,ok.j7,ok.frf]
theorem Cx.Ok.j8{X:Cx}{E:Ä->Ç->Prop}(ok:(X.ui E).Ok):X.Ok :=
 #[ok.mod,ok.kind,ok.glob,ok.blt,ok.above,ok.inj,ok.has,ok.cab,ok.hd,ok.frames,ok.stk,ok.exf,ok.bs,ok.bsz,ok.noex,ok.exfs,ok.j7,ok.frf]
section
variable {X:Cx}{aa:⇑(È × Obj)}{σ:St}{H:Hp}{s:Ç}{E:Ä->Ç->Prop}
theorem Inv.ui(I:Inv X aa σ H s)(E:Ä->Ç->Prop):Inv (X.ui E) aa σ H s:=#[I.ok.ui E,I.os,I.bare,I.base,I.loc,I.cell,I.free,I.freeC,I.pin,I.aM,I.len]
theorem Inv.j8(I:Inv (X.ui E) aa σ H s):Inv X aa σ H s:=#[I.ok.j8,I.os,I.bare,I.base,I.loc,I.cell,I.free,I.freeC,I.pin,I.aM,I.len]
theorem SP.j8{D:Ends}{f:Flow}{s':Ç}(h:SP (X.ui E) aa D f s'):SP X aa D f s':=by
 cases f with
 |next=>let(σ',H',I,q):=h;exact#[σ',H',I.j8,q]
 |brk=>let(σ',H',I,q):=h;exact#[σ',H',I.j8,q]
 |cont=>let(σ',H',I,q):=h;exact#[σ',H',I.j8,q]
 |ret u=>let(v,σ',H',I,r,q):=h;exact#[v,σ',H',I.j8,r,q]
theorem dM.QS{a:⇑Uv}{t:TS}(h:dM X.QS a t):dM X a t:=λaa s σ H D I hw =>
 UQ (h aa s σ H D (I.ui _) hw) (λ_ _ q=>q.j8) λ_ _ z=>ú z
end
section
variable {X:Cx}{st:Uv}{rest:⇑Uv}{t u:TS}{e:Ö}{te:TE}{pos:Pos}
def Od:TS:=λD a H=>D.nx a H
def Rg(t u:TS):TS:=λD a H=>t { D with nx:=u D } a H
theorem qB:dM X [] Od:=λ_ _ a H _ I h=>X9 #[a,H,I,h]
theorem bz(a:PS X st t)(b:dM X rest u):dM X (st::rest) (Rg t u):=by
 intro c s d H D I h;refine wpAny_execs_cons (bQ (a c s d H _ I h) λf s1 q=>?_);cases f with
 |next =>
  let(g,i,j,q):=q;exact b c s1 g i D j q
 |ret v=>exact q|brk=>exact q|cont=>exact q
theorem lI(a:PS X st t):dM X [st] t:=by
 intro b s c H D I h;refine wpAny_execs_cons (bQ (a b s c H D I h) λf s1 q=>?_);cases f with
 |next=>exact X9 q
 |ret v=>exact q|brk=>exact q|cont=>exact q
theorem Inv.quiet(I:Inv X a σ H s):interactive X.env=false:=by simp[interactive,I.ok.kind]
def Oe(te:TE):TS:=λD a H=>te a H λ_ b=>D.nx a b
theorem lJ(a:PE X e te)(hs:Xd e none pos.line X.env=pure false:=by rfl):PS X (.Expr e pos) (Oe te):=by
 intro b s c H D I h;exact wpAny_Expr_any (bQ (a b s c H _ I h) λv s1 #[x,H1,d,f,g]=>#[c,H1,d,g]) I.quiet hs
def Rh(te:TE):TS:=λD a H=>te a H D.rt
theorem oU(a:PE X e te):PS X (.Return ↑e pos) (Rh te):=by
 intro b s c H D I h;exact wpAny_Return_some (bQ (a b s c H _ I h) λv s1 #[x,H1,d,f,g]=>#[x,c,H1,d,f,g])
def Of:TS:=λD _ H=>D.rt .cD H
theorem Io:PS X (.Return none pos) Of:=λ_ _ a H _ I h=>wpAny_Return_none #[.cD,a,H,I,rfl,h]
def Ri(c:TT)(t u:TS):TS:=λD a H=>c a H λb d=>if b=true then t D a d else u D a d
theorem Bs(f:PT X c g)(i:dM X a t)(j:dM X b u):PS X (.If c a b pos) (Ri g t u):=by
 intro k s l H D I h;refine wpAny_If (bQ (f k s l H _ I h) λd s1 #[H1,m,n]=>?_);cases d with
 |true=>exact i k s1 l H1 D m n|false=>exact j k s1 l H1 D m n
end
abbrev TG:=V->St->Hp->(St->Hp->Prop)->Prop
abbrev Kw:=⇑V->St->Hp->(St->Hp->Prop)->Prop
def PG(X:Cx)(a:Ö)(t:TG):Prop :=
 ∀ (b:⇑(È × Obj)) (s:Ç) (c:St) (H:Hp) (v:V) (u:Ä) (Q:St->Hp->Prop),Inv X b c H s->RelV v u->t v c H Q ->
  Ü (ß X.prog X.w) X.A (assign a X.env u) (λ_ d=>∃ e f,Inv X b e f d/\Q e f) X.xe s
def Og(X:Cx)(a:Zm)(t:Kw):Prop :=
 ∀ (b:⇑(È × Obj)) (s:Ç) (c:St) (H:Hp) (d:⇑V) (e:Zk) (Q:St->Hp->Prop),Inv X b c H s->Vals d e->t d c H Q ->
  Ü (ß X.prog X.w) X.A (assignInOrder ((VX a X.env).map (·.2)) e) (λ_ f=>∃ g h,Inv X b g h f/\Q g h) X.xe s
abbrev Ew:=V->V->V->Hp->(Hp->Prop)->Prop
def Ip(X:Cx)(t:Ew):Prop :=
 ∀ (a:⇑(È × Obj)) (s:Ç) (b:St) (H:Hp) (o i v:V) (c d u:Ä) (Q:Hp->Prop),Inv X a b H s->RelV o c->RelV i d->RelV v u->t o i v H Q ->
  Ü (ß X.prog X.w) X.A (setItem c d u) (λ_ e=>∃ f,Inv X a b f e/\Q f) X.xe s
abbrev Lm:=V->V->Hp->VK->Prop
def Oh(X:Cx)(a:Xw)(t:Lm):Prop :=
 ∀ (b:⇑(È × Obj)) (s:Ç) (c:St) (H:Hp) (x y:V) (v u:Ä) (Q:VK),Inv X b c H s->RelV x v->RelV y u->t x y H Q ->
  Ü (ß X.prog X.w) X.A (inplaceOp a v u) (EP X b c Q) X.xe s
section
variable {X:Cx}{pos:Pos}
def gp(i:Nat):TG:=λv a H Q=>Q (a.set i ↑v) H
theorem jn{i:Nat}{x:Str}(a:X.N.Nodup)(b:X.N[i]?=↑x)(c:Loc X.env.scope x)(d:X.fn x=true∨X.env.scope.names.lookup x=↑.local:=by first | exact .inl rfl | exact .inr rfl | assumption):PG X (.Name x pos) (gp i):=by
 intro e s f H v u Q I r h;exact wpAny_assign_Name (iT I a b c r (λg j=>#[_,H,j,h]) d)
def Oi:Kw:=λa b H Q=>a=[]/\Q b H
def Kx(t:TG)(u:Kw):Kw:=λa b H Q=>∃ v r,a=v::r/\t v b H λc d=>u r c d Q
theorem Iq:Og X [] Oi:=by
 intro a s b H c d Q I r h;let(e,h):=h;exact assignInOrder_nil #[b,H,I,h]
theorem Ey{t:TG}(a:PG X e t)(b:Og X c u)
  (hs:(VX (e::c) X.env).map (·.2)=assign e X.env::(VX c X.env).map (·.2):=by rfl):Og X (e::c) (Kx t u):=by
 intro d s f H g i Q I r h;let(v,j,k,h):=h;subst k;cases r with
 |cons r l =>
  rw[hs];refine assignInOrder_cons (bQ (a d s f H _ _ _ I r h) λ_ s1 #[m,H1,n,o]=>?_);exact b d s1 m H1 _ _ Q n l o
def Oj(K:Ã)(n:Nat)(t:Kw):TG:=λv b H Q=>∃ a c,v=↥a/\dY K H a c/\c.length=n/\t c b H Q
theorem Ln{k:Nat}{t:Kw}{n:Nat}(c:X.calm)(h:Og X d t)
  (f:(VX d X.env).length=n:=by rfl) (g:(VX d X.env).findIdx? (·.1)=none:=by rfl):PG X (.Tuple d k pos) (Oj X.K n t):=by
 intro i s j H v u Q I r hw;let(a,l,m,p,q,hw):=hw;subst m;subst r;let(x,y,z,hz):=I.tuple p;refine assign_Tuple_tuple (I.ok.hd c) z (by simp[f,<-q,y.length]) g λA B=>?_
 exact h i _ j H l _ Q (I.kept  λb o e=>B b o (Ù (à e)) e) (by simp_all) hw
def Rj(a b:TE)(t:Ew):TG:=λv c H Q=>a c H λo d=>b c d λi e=>t o i v e λf=>Q c f
theorem Lo{t:Ew}(a:PE X o to)(b:PE X i c)(hs:Ip X t)
  (d:∀ v,assign (.Subscript o i pos) X.env v=(do
   let e <-holding [v] (eval o X.env)
   let f <-holding [v,e] (eval i X.env)
   standAt pos
   holding [v,e,f] (setItem e f v)
   release [v,e,f] []):=by intro _;rfl):PG X (.Subscript o i pos) (Rj to c t):=by
 intro g s j H v u Q I r h;rw[d];refine À (û (bQ (a g s j H _ I h) λe s1 #[x,H1,k,l,m]=>?_));refine À (û (bQ (b g s1 j H1 _ k m) λf s2 #[y,n,p,q,z]=>?_));refine À (wpAny_standAt (À (û (bQ (hs g s2 j n x y v e f u _ p l q r z) λ_ s3 #[A,B,C]=>?_))));exact wpAny_release #[j,A,B,C]
def An(a:TE)(g:TG):TS:=λD b H=>a b H λx c=>g x b c D.nx
theorem Ez(a:PE X e b)(c:PG X d g)(hs:swapsWithSole [d] e pos.line X.env=pure false:=by rfl)(hw:Vf [d] e X.env=pure none:=by rfl)
  (f:(VX [d] X.env).map (·.2)=[assign d X.env]:=by rfl):PS X (.Assign [d] e pos) (An b g):=by
 intro i s j H D I h;refine wpAny_Assign_stores (bQ (a i s j H _ I h) λv s1 #[x,H1,k,l,m]=>?_) hs hw;rw[f];exact bQ (c i s1 j H1 x v _ k l m) λ_ n q=>q
theorem eO{i:Nat}{x:Str}{te:TE}(a:X.N.Nodup)(b:X.N[i]?=↑x)(c:Loc X.env.scope x)(d:PE X e te)(hs:Xd e ↑(.Name x pos') pos.line X.env=pure false:=by rfl)(f:X.fn x=true∨X.env.scope.names.lookup x=↑.local:=by first | exact .inl rfl | exact .inr rfl | assumption) :
  PS X (.Assign [.Name x pos'] e pos) (An te (gp i)):=by
 intro g s j H D I h;refine wpAny_Assign_Name (bQ (d g s j H _ I h) λv s1 #[y,H1,k,l,m]=>?_) hs;exact iT k a b c l (λn o=>#[_,H1,o,m]) f
def Rk(i j:Nat)(a:TA):TS:=λD b H=>a b H λc d=>∃ v w,c=[v,w]/\D.nx ((b.set i ↑v).set j ↑w) d
theorem EA{c d pt:Pos}(f:X.calm)(g:X.N.Nodup)(k:X.N[i]?=↑x)(l:X.N[j]?=↑y)(m:i≠j)
  (n:X.env.scope.names.lookup x=↑.local) (r:X.env.scope.names.lookup y=↑.local) (u:PA X [a,b] z)
  (hw:Vf [.Tuple [.Name x c,.Name y d] kt pt] (.Tuple [a,b] B C) X.env=pure ↑[x,y])
  (hs:swapsWithSole [.Tuple [.Name x c,.Name y d] kt pt] (.Tuple [a,b] B C) pos.line X.env=pure false:=by rfl) :
  PS X (.Assign [.Tuple [.Name x c,.Name y d] kt pt] (.Tuple [a,b] B C) pos) (Rk i j z):=by
 intro E s F H D I h;refine À (wpAny_standAt ?_);refine À (Å ?_);refine À (Tuple_ (bQ (u _ E s F H _ I h) λus s1 #[vs,H1,G,r1,J]=>?_));let(v,w,e1,J):=J;subst e1;obtain⟨K,L,rfl,rv,P⟩:∃ K L,us=[K,L]/\RelV v K/\RelV w L:=by
  cases r1 with
  |cons p q =>
   cases q with
   |cons p' q' =>
    cases q';exact#[_,_,rfl,p,p']
 refine Uj ?_ (by show 2<=sizeLine;decide)
 have I2:Inv X E F H1 { s1 with heap:=s1.heap.push { cls:=.type "tuple",data:=.seq [K,L].toArray } }:=G.kept  λb o e=>Â _ e;rw[hw];show Ü _ X.A (do rule _;let items <-unpackItems _ 2 none;assignInOrder _ items.reverse;pure Flow.next) _ _ _;refine À (WA (À (unpackItems_tuple (items:=[K,L].toArray) (I.ok.hd f) (IsTup.new s1.heap _) λh' U=>?_)));have I3:=I2.kept  (t':=s1.toks) λb o e=>U b o (Ù (à e)) e;refine À (assignInOrder_cons (wpAny_bindName (iT I3 g l (.inl r) P (λs2 I4=>?_) (.inr r))));refine assignInOrder_cons (wpAny_bindName (iT I4 g k (.inl n) rv (λs3 Y=>assignInOrder_nil (Å ?_)) (.inr n)));rw[List.set_comm _ _ (ñ m)] at Y;exact#[_,H1,Y,J]
def Ol(i:Nat)(a:TE)(b:Lm):TS:=λD c H=>∃ x,c[i]?=↑↑x/\a c H λy d=>b x y d λz e=>D.nx (c.set i ↑z) e
theorem Lp{i:Nat}(a:X.N.Nodup)(b:X.N[i]?=↑x)(d:Loc X.env.scope x)(f:PE X e g)(j:Oh X op n)(o:X.fn x=true∨X.env.scope.names.lookup x=↑.local:=by first | exact .inl rfl | exact .inr rfl | assumption) :
  PS X (.AugAssign (.Name x pos') op e pos) (Ol i g n):=by
 intro p s q H D I h;let(v,B,h):=h;let(m,C,E):=I.loc;let(u,r,l):=E i x v b B (by rcases d with k | k;exact .inl k;exact .inr (.inl k));apply wpAny_AugAssign_Name;have G:Ü (ß X.prog X.w) X.A (eval e X.env) (λw J=>Ü (ß X.prog X.w) X.A (inplaceOp op u w) (λr K=>Ü (ß X.prog X.w) X.A (storeName X.env x r) (λ_=>SP X p D .next) X.xe K) X.xe J) X.xe s:=by
  refine bQ (f p s q H _ I h) λw s1 #[y,H1,L,P,q1]=>?_;refine bQ (j p s1 q H1 v y u w _ L r P q1) λz s2 #[zv,H2,I2,r2,q2]=>?_;exact iT I2 a b d r2 (λs3 I3=>#[_,H2,I3,q2]) o
 rcases l with ⟨U,hm⟩ | ⟨U,c,hc,Y⟩
 .exact WB I.ok.kind U C hm G
 .rcases U with U | U
  .exact Yg I.ok.kind U hc Y G
  .rcases d with k | k
   .have:X.env.scope.names.lookup x=↑_:=U
    simp_all
   .have:X.env.scope.names.lookup x=↑_:=U
    simp_all
def Om(a b c:TE)(d:V->V->Hp->VK->Prop)(e:Lm)(f:Ew):TS:=λD g H=>a g H λo h=>b g h λi j=>d o i j λx k=>c g k λy l=>e x y l λz m=>f o i z m λn=>D.nx g n
def Lq(X:Cx)(t:V->V->Hp->VK->Prop):Prop :=
 ∀ (a:⇑(È × Obj)) (s:Ç) (b:St) (H:Hp) (o i:V) (c d:Ä) (Q:VK),Inv X a b H s->RelV o c->RelV i d->t o i H Q ->
  Ü (ß X.prog X.w) X.A (W4 c d) (EP X a b Q) X.xe s
theorem Ir(a:PE X o to)(b:PE X i c)(d:Lq X f)(g:PE X e j)(k:Oh X op l)(hs:Ip X m)
  (n:∀ p q new,augStore i p q new=(do holding [new,p,q] (setItem p q new);release [new,p,q] [];pure .next):=by intros;rfl):PS X (.AugAssign (.Subscript o i r) op e pos) (Om to c j f l m):=by
 intro u s x H D I h;refine wpAny_AugAssign_SubscriptAny (bQ (a u s x H _ I h) λp s1 #[y,H1,z,A,B]=>?_) n;refine bQ (b u s1 x H1 _ z B) λq s2 #[C,E,F,G,J]=>?_;refine bQ (d u s2 x E y C p q _ F A G J) λold s3 #[K,L,N,P,U]=>?_;refine bQ (g u s3 x L _ N U) λv s4 #[Y,H4,I4,r4,q4]=>?_;refine bQ (k u s4 x H4 K Y old v _ I4 P r4 q4) λnew s5 #[x5,H5,I5,r5,q5]=>?_;exact bQ (hs u s5 x H5 y C x5 p q new _ I5 A G r5 q5) λ_ s6 #[H6,I6,q6]=>#[x,H6,I6,q6]
def Tx(f:Int->Int->Int):Lm:=λx y H Q=>∃ i j,x= ~~~i/\y= ~~~j/\Q (~~~(f i j)) H
theorem Lr:Oh X .Add (Tx λi j=>i + j):=by
 intro a s b H x y v u Q I c d h;let(i,j,e,f,q):=h;subst e;subst f;let(t,rfl):=c;let(g,rfl):=d;exact iadd_int #[~~~_,H,I.tok _,#[_,rfl],q]
def Ls(c:TT)(a:TS):TS:=λD d H=>∃ W:Nat->St->Hp->Prop,(∃ m,W m d H)/\∀ m d H,W m d H ->
 c d H λb e=>if b=true then ∃ N:St->Hp->Prop,(∀ f g,N f g->∃ h,h < m/\W h f g)/\a { D with nx:=N,ct:=N,bk:=D.nx } d e else D.nx d e
theorem EB{c:Ö}{body:⇑Uv}{tc:TT}{tb:TS}(hp:PassesOwn (ß X.prog X.w) X.A X.env X.xe)(hc:PT X c tc)(hb:dM X body tb):PS X (.While c body [] pos) (Ls tc tb):=by
 intro aa s σ H D I h;obtain⟨W,⟨m0,w0⟩,turn⟩:=h;refine wpAny_While (codeAny_whileLoop (λn s'=>∃ σ' H',Inv X aa σ' H' s'/\W n σ' H') ?_ m0 #[σ,H,I,w0]);rintro n s1 ⟨σ1,H1,I1,w1⟩;refine Wl hp (bQ (hc aa s1 σ1 H1 _ I1 (turn n σ1 H1 w1)) λb s2 #[H2,I2,q2]=>?_);cases b with
 |true =>
  let(N,hN,q2):=q2;refine Wl hp (bQ (hb aa s2 σ1 H2 _ I2 q2) λf s3 q3=>?_);cases f with
  |next =>
   let(σ3,H3,I3,n3):=q3;let(m',hm,w3):=hN σ3 H3 n3;exact#[m',hm,σ3,H3,I3,w3]
  |cont =>
   let(σ3,H3,I3,n3):=q3;let(m',hm,w3):=hN σ3 H3 n3;exact#[m',hm,σ3,H3,I3,w3]
  |brk=>exact q3|ret v=>exact q3
 |false =>
  exact X9 #[σ1,H2,I2,q2]
end
structure It where
 go:Nat->Hp->Prop
 yld:Nat->Hp->V->Hp->Prop
 stop:Nat->Hp->Prop
def j9(X:Cx)(a:⇑(È × Obj))(H:Hp)(b:È):Prop :=
 H b=none/\b≠X.env.locals/\b ∉ X.fs/\(b∈X.ex∨X.s₀.heap.objs.size<=b)/\(∀ x c,X.env.cells.lookup x=↑c->c≠b)/\∀ p∈X.pn++a,p.1≠b
theorem Inv.mI(I:Inv X a σ H s)(d:s.heap.objs.size<=b)(f:g b=none):j9 X a g b:=by
 refine#[f,Vx (Ò I.lt d),I.N7 d,.inr (â I.sz d),λx c e z=>?_,λp h z=>?_]
 .let(v,q):=I.cell x c e;exact absurd (Ò q.lt (by simp_all)) (Ui _)
 .exact absurd (Ò (à (I.pin p h).1) (by simp_all)) (Ui _)
structure Turn(P:Program)(w:World)(K:PySem.W.Frag)(tg:Expr)(J:It)(fp:⇑Addr)(it:Addr)(tn:Nat->Heap->Prop):Prop where
 mem:it∈fp
 obj:∀ i h,tn i h->∀ b∈fp,∃ o,h.get? b=↑o/\∀ v,o.data≠.cell v
 keep:∀ i h h',tn i h->(∀ b∈fp,∀ o,h.get? b=↑o->h'.get? b=↑o)->tn i h'
 item:∀ (X:Cx),X.prog=P->X.w=w->X.K=K->X.calm=true->∀ (i:Nat) (aa:⇑(Addr × Obj)) (s:Shared) (σ:St) (H:Hp) (E:Value->Shared->Prop),Inv X aa σ H s->(∀ b∈fp,j9 X aa H b)->tn i s.heap->J.go i H ->
  wpAny (model P w) X.A (pyNext ↥it) (λr s1=>∃ u,r=↑u /\
   wpAny (model P w) X.A (letOwnedTupleGo tg ↥it u) (λ_ s2=>∃ x H',Inv X aa σ H' s2/\RelV x u/\J.yld i H x H'/\tn (i + 1) s2.heap/\∀ b∈fp,H' b=none) E s1) E s
 done:∀ (X:Cx),X.prog=P->X.w=w->X.K=K->X.calm=true->∀ (i:Nat) (aa:⇑(Addr × Obj)) (s:Shared) (σ:St) (H:Hp) (E:Value->Shared->Prop),Inv X aa σ H s->(∀ b∈fp,j9 X aa H b)->tn i s.heap->J.stop i H ->
  wpAny (model P w) X.A (pyNext ↥it) (λr s1=>r=none/\Inv X aa σ H s1) E s
 self:∀ (A:Around) (i:Nat) (s:Shared) (Q:Value->Shared->Prop) (E:Value->Shared->Prop),tn i s.heap->Q ↥it s->wpAny (model P w) A (pyIter ↥it) Q E s
abbrev TI:=St->Hp->(It->Hp->Prop)->Prop
def S6(X:Cx)(a:⇑(È × Obj))(c:St)(d:Ö)(R:It->Hp->Prop)(e:Ä)(f:Ç):Prop :=
 ∃ (it:È) (g:Zo) (h:Nat->ö->Prop) (J:It) (i:Hp),e=↥it/\Inv X a c i f/\Turn X.prog X.w X.K d J g it h/\h 0 f.heap/\(∀ b∈g,j9 X a i b)/\R J i
def PI(X:Cx)(a b:Ö)(c:TI):Prop :=
 ∀ (d:⇑(È × Obj)) (s:Ç) (e:St) (H:Hp) (R:It->Hp->Prop),Inv X d e H s->c e H R ->
  Ü (ß X.prog X.w) X.A (eval b X.env) (λv s1=>Ü (ß X.prog X.w) X.A (pyIter v) (S6 X d e a R) X.xe s1) X.xe s
theorem Bt{M:Model}{s:Ç}{it:È}{n:String}{Q:Unit->Ç->Prop}(a:s.heap.get? it=↑o)(b:o.cls=.type n)(hd:o.data=.fields c)
  (d:["enumerate","zip","dict_itemiterator","dict_reverseitemiterator","odict_iterator","itertools.zip_longest","itertools.pairwise"].contains n=false) (e:Q () s):Ü M A (letOwnedTupleGo f ↥it u) Q E s:=by
 cases f <;> first
  |exact Å e
  |(cases u <;> first
    |exact Å e
    |(refine À (wpAny_load a ?_)
      rw[b,hd];show Ü M A (if (["enumerate","zip","dict_itemiterator","dict_reverseitemiterator","odict_iterator","itertools.zip_longest","itertools.pairwise"].contains n&&c[0]? == ↑_)=true then _ else _) Q E s;rw[Zw (by intro h;rw[d] at h;cases h)]
      exact Å e))
def Lu(K:Ã)(a:È):It :=
 #[λi H=>∃ b x,gU K H a b/\b[i]?=↑x,λi H x c=>c=H/\∀ b,gU K H a b->b[i]?=↑x,λi H=>∃ b,gU K H a b/\b.length<=i]
def QT(K:Ã)(a:È):It :=
 #[λi H=>∃ b x,dY K H a b/\b[i]?=↑x,λi H x c=>c=H/\∀ b,dY K H a b->b[i]?=↑x,λi H=>∃ b,dY K H a b/\b.length<=i]
def NW(a:Int)(n:Nat):It:=#[λi _=>i < n,λi H x b=>b=H/\x= ~~~(a + i),λi _=>n<=i]
theorem C6{P:å}{w:î}{K:Ã}{tg:Ö}(a it:È):Turn P w K tg (Lu K a) [it] it (λi h=>h.IsListIter it a i) where
 mem:=⋯
 obj:=λi h f b g=>by
  have e:b=it:=by simpa using g
  subst e;let(o,e,c,d):=f;exact#[o,e,λv z=>by rw[d] at z;cases z]
 keep:=λi h j f k=>f.at λo e=>k it ⋯ o e
 item:=by
  intro X l hw m n i q s r H E I y f A;subst l hw m;let(xs,x,B,C):=A;let(ar,F,p,hz):=I.list B;let(u,hu,ru):=F.get C;let(G,J,f2,L,N,U):=y it ⋯
  refine wpAny_pyNext_list_item f p.isList (x:=u) (by simpa using hu) λj Y sb=>?_
  have I1:Inv X q r H { s with heap:=j }:=I.turned (t':=s.toks) (λb o g e=>(sb.2 b g).trans e) G J L N U;let(o,e,c,d):=id Y;exact#[u,rfl,Bt (s:={ s with heap:=j }) e c d (-0) #[x,H,I1,ru,#[rfl,λys hy=>by rw[I.yl hy B];exact C],Y,λb g=>(y b g).1]]
 done:=by
  intro X l hw m n i q s r H E I y f A;subst l hw m;let(xs,B,C):=A;let(ar,F,p,hz):=I.list B;let(G,J,f2,L,N,U):=y it ⋯
  have hl:=F.length;exact wpAny_pyNext_list_end (I.ok.hd n) f p.isList (by simp;exact â (Y5 (_b hl)) C) λj eb=>#[rfl,I.turned (t':=s.toks) (λb o g e=>eb b o g e) G J L N U]
 self:=λ_ _ _ _ _ f h=>wpAny_pyIter_listiter f h
theorem Ao{P:å}{w:î}{K:Ã}{tg:Ö}(a it:È):Turn P w K tg (QT K a) [it] it (λi h=>h.IsTupleIter it a i) where
 mem:=⋯
 obj:=λi h f b g=>by
  have e:b=it:=by simpa using g
  subst e;let(o,e,c,d):=f;exact#[o,e,λv z=>by rw[d] at z;cases z]
 keep:=λi h j f k=>f.at λo e=>k it ⋯ o e
 item:=by
  intro X l hw m n i q s σ H E I r f y;subst l hw m;let(xs,x,A,B):=y;let(C,F,p,hz):=I.tuple A;let(u,hu,ru):=F.get B;let(G,J,f2,L,N,U):=r it ⋯
  refine wpAny_pyNext_tuple_item f (show s.heap.IsTuple a C.toArray from p) (x:=u) (by simpa using hu) λj Y sb=>?_
  have I1:Inv X q σ H { s with heap:=j }:=I.turned (t':=s.toks) (λb o g e=>(sb.2 b g).trans e) G J L N U;let(o,e,c,d):=id Y;exact#[u,rfl,Bt (s:={ s with heap:=j }) e c d (-0) #[x,H,I1,ru,#[rfl,λys hy=>by rw[I.uI hy A];exact B],Y,λb g=>(r b g).1]]
 done:=by
  intro X l hw m n i q s σ H E I r f y;subst l hw m;let(xs,A,B):=y;let(C,F,p,hz):=I.tuple A;let(G,J,f2,L,N,U):=r it ⋯
  have hl:=F.length;exact wpAny_pyNext_tuple_end (I.ok.hd n) f (show s.heap.IsTuple a C.toArray from p) (by simp;exact â (Y5 (_b hl)) B) λj eb=>#[rfl,I.turned (t':=s.toks) (λb o g e=>eb b o g e) G J L N U]
 self:=λ_ _ _ _ _ f h=>wpAny_pyIter_tupleiter f h
theorem Ap{P:å}{w:î}{K:Ã}{a:Ö}(it:È)(c:Int)(n:Nat):Turn P w K a (NW c n) [it] it (λi h=>IsRangeIter h it (c + (i:Nat) * 1) ((n:Int) - (i:Nat)) 1) where
 mem:=⋯
 obj:=λi h d b f=>by
  have e:b=it:=by simpa using f
  subst e;exact#[_,d,λv z=>by
   have g:Data.fields _=Data.cell v:=z;cases g]
 keep:=λi h j d k=>k it ⋯ _ d
 item:=by
  intro X l hw m p i q s r H E I u d x;subst l hw m;let(y,A,B,C,F,G):=u it ⋯
  have W:=Walks.range (prog:=X.prog) (w:=X.w) (I.ok.hd p) it c 1 n;refine W.item i s _ _ x d λv j J L N kk=>?_;let(t,rfl):=L;have U:Inv X q r H { s with heap:=j,toks:=J }:=I.turned (λb o f e=>kk b o (by simpa using f) e) y A C F G
  refine#[_,rfl,Bt (s:={ s with heap:=j,toks:=J }) (n:="range_iterator") N rfl rfl (-0) #[~~~(c + i),H,U,#[t,?_],#[rfl,rfl],N,λb f=>(u b f).1]]
  rw[mul_one]
 done:=by
  intro X l hw m p i q s r H E I u d x;subst l hw m;let(y,A,B,C,F,G):=u it ⋯
  exact wpAny_pyNext_range_end (I.ok.hd p) d (by have:n<=i:=x;omega) λj Y=>#[rfl,I.turned (t':=s.toks) (λb o f e=>Y b o f e) y A C F G]
 self:=λ_ _ _ _ _ d h=>wpAny_pyIter_rangeiter d h
section
variable {X:Cx}{tg:Ö}
def Ky(K:Ã)(tl:TE):TI:=λb H R=>tl b H λx c=>∃ a,x=↥a/\(∃ d,gU K c a d)/\R (Lu K a) c
def Rl(K:Ã)(tl:TE):TI:=λb H R=>tl b H λx c=>∃ a,x=↥a/\(∃ d,dY K c a d)/\R (QT K a) c
theorem nB{tl:TE}(c:PE X l tl):PI X tg l (Ky X.K tl):=by
 intro d s f H R I h;refine bQ (c d s f H _ I h) λv s1 #[x,H1,g,i,j]=>?_;obtain⟨a,e,⟨k,m⟩,q⟩:=j;subst e;cases i;let(n,r,p,hz):=g.list m;apply YT p.isList;refine#[s1.heap.objs.size,_,_,_,H1,rfl,g.kept  λb o e=>Â _ e,C6 a _,#[_,Ì _ rfl,rfl,rfl],λb u=>?_,q];have e :=by simpa using u
 subst e;exact g.mI (Î _) (g.aM.fresh (Î _))
theorem EC{tl:TE}(c:PE X l tl):PI X tg l (Rl X.K tl):=by
 intro d s f H R I h;refine bQ (c d s f H _ I h) λv s1 #[x,H1,g,i,j]=>?_;obtain⟨a,e,⟨k,m⟩,q⟩:=j;subst e;subst i;let(n,r,p,hz):=g.tuple m;apply Wd (show s1.heap.IsTuple a n.toArray from p);refine#[s1.heap.objs.size,_,_,_,H1,rfl,g.kept  λb o e=>Â _ e,Ao a _,#[_,Ì _ rfl,rfl,rfl],λb u=>?_,q];have e :=by simpa using u
 subst e;exact g.mI (Î _) (g.aM.fresh (Î _))
theorem qZ{R:It->Hp->Prop}{a c:Int}{t u v:Tok}{d:Nat}(I:Inv X f σ H s)(g:-(2 ^ 62)<=a)(h:a < 2 ^ 62)(i:-(2 ^ 62)<=c)(j:c < 2 ^ 62)
  (q:R (NW a (c - a).toNat) H):Ü (ß X.prog X.w) X.A (pyIter ↥s.heap.objs.size) (S6 X f σ tg R) E { s with heap:=s.heap.push { cls:=.type "range",data:=.fields [.int a t,.int c u,.int 1 v].toArray },toks:=d }:=by
 apply wpAny_pyIter_range (IsRange.new ..) (small_one g h i j);have k:Inv X f σ H { s with heap:=s.heap.push { cls:=.type "range",data:=.fields [.int a t,.int c u,.int 1 v].toArray },toks:=d }:=I.kept λb o e=>Â _ e;refine#[_,_,_,_,H,rfl,
  k.kept  λb o e=>Â _ e,Ap _ a _,?_,λb l=>?_,q]
 .rw[(⋯:a + ((0:Nat):Int) * 1=a),(by rw[Y0];split <;> omega:(((c - a).toNat:Nat):Int) - ((0:Nat):Int)=UC a c 1)];exact Ì _ rfl
 .have e:b=(s.heap.push { cls:=.type "range",data:=.fields [.int a t,.int c u,.int 1 v].toArray }).objs.size:=by simpa using l
  subst e;exact k.mI (Î _) (k.aM.fresh (Î _))
def Oo(a:TA):TI:=λb H R=>a b H λc d=>∃ j:Int,c=[~~~j]/\-(2 ^ 62)<=j/\j < 2 ^ 62/\R (NW 0 j.toNat) d
def Kz(a:TA):TI:=λb H R=>a b H λc d=>∃ i j:Int,c=[~~~i,~~~j]/\(-(2 ^ 62)<=i/\i < 2 ^ 62/\-(2 ^ 62)<=j/\j < 2 ^ 62)/\R (NW i (j - i).toNat) d
theorem uJ{p pos:Pos}(b:Gl X "range")(c:X.mg "range"=none)(d:PA X [a] f)(hs:Ul [a] X.env=[(false,eval a X.env)]:=by rfl):PI X tg (.Call (.Name "range" p) [a] [] pos) (Oo f):=by
 intro g s i H R I h;refine Call_ (f7 I b c boot_range (Ua (bQ (d pos g s i H _ I h) λus s1 #[k,H1,l,m,n]=>?_) hs rfl));let(j,e,n,o,q):=n;subst e;cases m with
 |cons r u =>
  cases u;let(t,rfl):=r;exact call_range_1 (qZ l ∅ ∅ n o (by simp_all))
theorem C7{p pos:Pos}(c:Gl X "range")(d:X.mg "range"=none)(f:PA X [a,b] g)(hs:Ul [a,b] X.env=[(false,eval a X.env),(false,eval b X.env)]:=by rfl)(k:Ul [b] X.env=[(false,eval b X.env)]:=by rfl) :
  PI X tg (.Call (.Name "range" p) [a,b] [] pos) (Kz g):=by
 intro l s m H R I h;refine Call_ (f7 I c d boot_range (Ua (bQ (f pos l s m H _ I h) λus s1 #[n,H1,o,u,v]=>?_) (by simp_all) (by rw[k];rfl)))
 obtain⟨i,j,e,⟨v,x,y,z⟩,q⟩:=v;subst e;cases u with
 |cons r A =>
  cases A with
  |cons B A =>
   cases A;let(t,rfl):=r;let(C,rfl):=B;exact call_range_2 (qZ o v x y z q)
def Rm(a:TI)(g:TG)(b:TS):TS:=λD c H=>a c H λJ d=>∃ W:Nat->Nat->St->Hp->Prop,(∃ m,W 0 m c d)/\∀ i m c H,W i m c H ->
 (J.stop i H/\D.nx c H)∨(J.go i H/\∃ N:St->Hp->Prop,(∀ e f,N e f->∃ h,h < m/\W (i + 1) h e f)/\∀ x f,J.yld i H x f->g x c f λj k=>b { D with nx:=N,ct:=N,bk:=D.nx } j k)
def mJ(a:Zo)(h:ö):⇑(È × Obj):=a.filterMap λb=>(h.get? b).map λo=>(b,o)
theorem gB(a:b∈c)(e:h.get? b=↑o):(b,o)∈mJ c h:=WT.mpr #[b,a,by rw[e];rfl]
theorem oV(a:p∈mJ c h):p.1∈c/\h.get? p.1=↑p.2:=by
 let(b,d,e):=WT.mp a;cases q:h.get? b with
 |none=>rw[q] at e;cases e
 |some o =>
  rw[q] at e;have f :=í e;subst f;exact#[d,q]
theorem Inv.pinned(I:Inv X a σ H s)(c:∀ b∈f,j9 X a H b)(g:∀ b∈f,∃ o,s.heap.get? b=↑o/\∀ v,o.data≠.cell v):Inv X (a++mJ f s.heap) σ H s :=
 I.lG λp h=>(ù.mp h).elim (λz=>I.pin p (ÿ _ z)) λz=>by
  let(i,e):=oV z;let(j,k,l,_):=c p.1 i;let(o,m,d):=g p.1 i
  simp_all
theorem Inv.rd{a pl:⇑(È × Obj)}(I:Inv X (a++pl) σ H s):Inv X a σ H s:=I.lG λp b=>I.pin p (ÿ _ (Vi _ b))
theorem vX{pos:Pos}(a:PassesOwn (ß X.prog X.w) X.A X.env X.xe)(hc:X.calm)(hi:PI X tg iter wi)(hg:PG X tg g)(c:dM X body tb)
  (hs:∀ x,VU iter X.env x=pure x:=by intro _;rfl):PS X (.For tg iter body [] pos) (Rm wi g tb):=by
 intro j s σ H D I h;refine wpAny_For (bQ (hi j s σ H _ I h) λv s1 h1=>bQ h1 λitv s2 h2=>?_) hs;obtain⟨it,k,tn,J,H2,e,I2,T,st2,f2,W,⟨m0,w0⟩,l⟩:=h2;subst e;have p:∀ {q:Hp},(∀ b∈k,q b=none)->∀ b∈k,j9 X j q b:=λhn b c=>#[hn b c,(f2 b c).2];refine codeAny_forLoop_any (λn s'=>∃ i y q,Inv X j y q s'/\tn i s'.heap/\(∀ b∈k,q b=none)/\W i n y q) ?_ m0 #[0,σ,H2,I2,st2,λb c=>(f2 b c).1,w0];rintro n s3 ⟨i,z,H3,I3,B,C,w3⟩;rcases l i n z H3 w3 with ⟨E,qn⟩ | ⟨go,N,hN,step⟩
 .refine Wl a (bQ (T.done X rfl rfl rfl hc i j s3 z H3 X.xe I3 (p C) B E) λr s4 #[hr,I4]=>?_);subst hr;exact X9 #[z,H3,I4,qn]
 .refine Wl a (bQ (T.item X rfl rfl rfl hc i j s3 z H3 X.xe I3 (p C) B go) λr s4 #[u,hr,h4]=>?_);subst hr;refine Wl a (bQ h4 λ_ s5 #[x,H5,I5,r5,y5,F,fr5]=>?_);refine Wl a (bQ (hg _ s5 z H5 x u _ (I5.pinned (p fr5) (T.obj _ _ F)) r5 (step x H5 y5)) λ_ s6 #[σ6,H6,I6,q6]=>?_);refine Wl a (bQ (c _ s6 σ6 H6 _ I6 q6) λf s7 G=>?_);have K:∀ {L:St}{P:Hp},Inv X _ L P s7->N L P->∃ m,m < n/\∃ i y q,Inv X j y q s7/\tn i s7.heap/\(∀ b∈k,q b=none)/\W i m y q:=λ{L P} U Y=>by
   let(m',hm,w7):=hN L P Y;refine#[m',hm,_,L,P,U.rd,T.keep _ _ _ F λb c o e=>(U.pin _ (ÿ _ (ÿ _ (gB c e)))).1,λb c=>?_,w7];let(o,e,d):=T.obj _ _ F b c;exact(U.pin (b,o) (ÿ _ (ÿ _ (gB c e)))).2.1
  cases f with
  |next=>let(L,P,U,Y):=G;exact K U Y
  |cont=>let(L,P,U,Y):=G;exact K U Y
  |brk=>let(L,P,U,G):=G;exact#[L,P,U.rd,G]
  |ret v=>let(x7,L,P,U,r7,G):=G;exact#[x7,L,P,U.rd,r7,G]
end
theorem ED{K:Ã}{a:È}{xs:⇑V}{g:TG}{b:TS}{D:Ends}{c:St}{H:Hp}(d:Nat->St->Hp->Prop)(f:d 0 c H)(h:∀ i c H,i<=xs.length->d i c H->gU K H a xs)
  (hs:∀ i x c H,xs[i]?=↑x->d i c H->g x c H λj k=>b { D with nx:=d (i + 1),ct:=d (i + 1),bk:=D.nx } j k) (hd:∀ c H,d xs.length c H->D.nx c H) :
  ∃ W:Nat->Nat->St->Hp->Prop,(∃ m,W 0 m c H)/\∀ i m c H,W i m c H ->
   ((Lu K a).stop i H/\D.nx c H)∨((Lu K a).go i H/\∃ N:St->Hp->Prop,(∀ l n,N l n->∃ o,o < m/\W (i + 1) o l n)/\∀ x n,(Lu K a).yld i H x n->g x c n λj k=>b { D with nx:=N,ct:=N,bk:=D.nx } j k):=by
 refine#[λi m c H=>m=xs.length - i/\i<=xs.length/\d i c H,#[xs.length,⋯,Vl _,f],?_]
 rintro i m c H ⟨rfl,r,p⟩;have q:=h i c H r p;by_cases s:i < xs.length
 .refine .inr #[#[xs,xs[i],q,by simp],d _,λl n u=>#[xs.length - (i + 1),_r s (Vs _),rfl,s,u],λx n y=>?_]
  let(e,y):=y;subst e;exact hs i x c _ (y xs q) p
 .have e:=_i r (_g s)
  subst e;exact .inl #[#[xs,q,Î _],hd c H p]
abbrev R2:=V->V->Hp->VK->Prop
def gS(X:Cx)(f:Ä->Ä->Sem Ä)(r:R2):Prop :=
 ∀ (a:⇑(È × Obj)) (s:Ç) (b:St) (H:Hp) (x y:V) (v u:Ä) (Q:VK),Inv X a b H s->RelV x v->RelV y u->r x y H Q ->
  Ü (ß X.prog X.w) X.A (f v u) (EP X a b Q) X.xe s
def Ro(X:Cx)(f:Ä->Sem Ä)(r:V->Hp->VK->Prop):Prop :=
 ∀ (a:⇑(È × Obj)) (s:Ç) (b:St) (H:Hp) (x:V) (v:Ä) (Q:VK),Inv X a b H s->RelV x v->r x H Q ->
  Ü (ß X.prog X.w) X.A (f v) (EP X a b Q) X.xe s
def bN(X:Cx)(f:Ä)(r:⇑V->Hp->VK->Prop):Prop :=
 ∀ (a:⇑(È × Obj)) (s:Ç) (b:St) (H:Hp) (c:⇑V) (d:Zk) (Q:VK),Inv X a b H s->Vals c d->r c H Q ->
  Ü (ß X.prog X.w) X.A (call f d) (EP X a b Q) X.xe s
def NX(r:R2)(a b:TE):TE:=λc H Q=>a c H λx d=>b c d λy e=>r x y e Q
def Tz(r:V->Hp->VK->Prop)(a:TE):TE:=λb H Q=>a b H λx c=>r x c Q
def rI(C:Int->Int->Prop)(g:Int->Int->V):R2:=λx y H Q=>∃ i j,x= ~~~i/\y= ~~~j/\C i j/\Q (g i j) H
def Lv(g:Int->Int->V):R2:=λx y H Q=>∃ i j,x= ~~~i/\y= ~~~j/\Q (g i j) H
def rU(g:Int->V):V->Hp->VK->Prop:=λx H Q=>∃ i,x= ~~~i/\Q (g i) H
section
variable {X:Cx}{a b c:Ö}{ta tb tc:TE}{pos:Pos}
theorem Lw(d:PE X a ta)(e:PE X b tb){g:⇑(È × Obj)}{s:Ç}{i:St}{H:Hp}{R:V->V->Hp->Prop}(I:Inv X g i H s)
  (h:ta i H λx j=>tb i j λy k=>R x y k) {Q:Ä->Ç->Prop}{f:Ä->Ä->Sem Ä}
  (l:∀ v u m x y k,Inv X g i k m->RelV x v->RelV y u->R x y k->Ü (ß X.prog X.w) X.A (f v u) Q X.xe m) :
  Ü (ß X.prog X.w) X.A (eval a X.env) (λv n=>Ü (ß X.prog X.w) X.A (eval b X.env) (λu o=>Ü (ß X.prog X.w) X.A (f v u) Q X.xe o) X.xe n) X.xe s:=by
 refine bQ (d g s i H _ I h) λv s1 #[x,j,p,q,r]=>?_;refine bQ (e g s1 i j _ p r) λu m #[y,k,z,B,C]=>?_;exact l v u m x y k z q B C
theorem Bu(d:gS X (UT op) r)(e:PE X a ta)(f:PE X b tb):PE X (.BinOp a op b pos) (NX r ta tb):=by
 intro g s i H Q I h;exact wpAny_BinOp (Lw e f I h λv u j x y k l m n q=>d g j i k x y v u Q l m n q)
theorem KA(d:Ro X (unaryOp op) r)(e:PE X a ta):PE X (.UnaryOp op a pos) (Tz r ta):=by
 intro f s g H Q I h;exact UnaryOp_ (bQ (e f s g H _ I h) λv s1 #[x,H1,i,j,k]=>d f s1 g H1 x v Q i j k)
theorem S7{C:Int->Int->Prop}{g:Int->Int->Int}
  (d:∀ (i j:Int) (t u:Tok) (s:Ç) (Q:Ä->Ç->Prop) (E:Ä->Ç->Prop),C i j->Q (.int (g i j) s.toks) { s with toks:=s.toks + 1 }->Ü (ß X.prog X.w) X.A (f (.int i t) (.int j u)) Q E s) :
  gS X f (rI C λi j=>~~~(g i j)):=by
 intro e s k H x y v u Q I l m h;let(i,j,rfl,rfl,n,q):=h;let(t,rfl):=l;let(o,rfl):=m;exact d i j t o s _ _ n #[~~~_,H,I.tok _,#[_,rfl],q]
theorem Oq{g:Int->Int->Int}
  (d:∀ (i j:Int) (t u:Tok) (s:Ç) (Q:Ä->Ç->Prop) (E:Ä->Ç->Prop),Q (.int (g i j) s.toks) { s with toks:=s.toks + 1 }->Ü (ß X.prog X.w) X.A (f (.int i t) (.int j u)) Q E s) :
  gS X f (Lv λi j=>~~~(g i j)):=by
 intro e s k H x y v u Q I l m h;let(i,j,rfl,rfl,q):=h;let(t,rfl):=l;let(n,rfl):=m;exact d i j t n s _ _ #[~~~_,H,I.tok _,#[_,rfl],q]
theorem Ly{g:Int->Int->Bool}
  (d:∀ (i j:Int) (t u:Tok) (s:Ç) (Q:Ä->Ç->Prop) (E:Ä->Ç->Prop),Q (.bool (g i j)) s->Ü (ß X.prog X.w) X.A (f (.int i t) (.int j u)) Q E s) :
  gS X f (Lv λi j=>.bl (g i j)):=by
 intro e s k H x y v u Q I l m h;let(i,j,rfl,rfl,q):=h;let(t,rfl):=l;let(n,rfl):=m;exact d i j t n s _ _ #[.bl _,H,I,rfl,q]
def Rp(i j:Int):Prop:=0<=j/\j<=1000000/\i.natAbs < 2 ^ 64
theorem Lz:gS X (UT .Add) (Lv λi j=>~~~(i + j)):=Oq λ_ _ _ _ _ _ _ q=>add_int q
theorem LA:gS X (UT .Sub) (Lv λi j=>~~~(i - j)):=Oq λ_ _ _ _ _ _ _ q=>sub_int q
theorem LD:gS X (binaryOp .Mod) (rI (λ_ j=>0 < j) λi j=>~~~(i % j)):=S7 λi j _ _ _ _ _ hc q=>by
 exact mod_int' ∅ (by rw[Int.fmod_eq_emod_of_nonneg i (Ww hc)];exact q)
theorem LF:gS X (UT .Pow) (rI Rp λi j=>~~~(i ^ j.toNat)):=S7 λ_ _ _ _ _ _ _ d q=>pow_int_small d.1 d.2.1 d.2.2 q
theorem TC{g:Int->Int}
  (d:∀ (i:Int) (t:Tok) (s:Ç) (Q:Ä->Ç->Prop) (E:Ä->Ç->Prop),Q (.int (g i) s.toks) { s with toks:=s.toks + 1 }->Ü (ß X.prog X.w) X.A (f (.int i t)) Q E s) :
  Ro X f (rU λi=>~~~(g i)):=by
 intro e s j H x v Q I k h;let(i,rfl,q):=h;let(t,rfl):=k;exact d i t s _ _ #[~~~_,H,I.tok _,#[_,rfl],q]
theorem EE:Ro X (unaryOp .USub) (rU λi=>~~~(-i)):=TC λ_ _ _ _ _ q=>neg_int q
theorem Ot:gS X (UP .LtE) (Lv λi j=>.bl (decide (i<=j))):=Ly λ_ _ _ _ _ _ _ q=>le_int q
theorem Ou:gS X (UP .Gt) (Lv λi j=>.bl (decide (j < i))):=Ly λ_ _ _ _ _ _ _ q=>gt_int q
theorem Ov:gS X (UP .GtE) (Lv λi j=>.bl (decide (j<=i))):=Ly λ_ _ _ _ _ _ _ q=>ge_int q
theorem Bv(d:gS X (UP op) r)(e:PE X a ta)(f:PE X b tb)(g:behindInMarks op b=false):PE X (.Compare a [op] [b] pos) (NX r ta tb):=by
 intro i s j H Q I h;exact wpAny_Compare1 (Lw e f I h λv u k x y l m n o q=>d i k j l x y v u Q m n o q) g
def EG(t:TE):TT:=λd H Q=>t d H λx e=>∃ k,x=.bl k/\Q k e
theorem vY(d:gS X (UP op) r)(f:PE X a ta)(g:PE X b tb)(i:behindInMarks op b=false):PT X (.Compare a [op] [b] pos) (EG (NX r ta tb)):=by
 intro j s l H Q I h;refine wpAny_isTrue_Compare1 (bQ (f j s l H _ I h) λv s1 #[x,H1,m,n,o]=>bQ (g j s1 l H1 _ m o) λu s2 #[y,p,q,A,B] =>
  bQ (d j s2 l p x y v u _ q n A B) λc s3 #[z,C,E,F,k,e,G]=>?_) i
 subst e;subst F;exact UW #[C,E,G]
def Aq(r d:R2)(ta tb tc:TE):TE:=λe H Q=>ta e H λx f=>tb e f λy g=>r x y g λz h=>∃ k,z=.bl k /\
 (if k=true then tc e h λi j=>d y i j Q else Q (.bl false) h)
theorem EH(f:gS X (UP op) r)(g:gS X (UP i) j)(l:PE X a ta)(m:PE X b tb)(n:PE X c tc)
  (o:lastMarks [op,i] [b,c]=false:=by with_unfolding_all rfl):PE X (.Compare a [op,i] [b,c] pos) (Aq r j ta tb tc):=by
 intro p s q H Q I h;refine Compare_chain (bQ (l p s q H _ I h) λv s1 #[x,H1,A,B,C]=>chain_link (bQ (m p s1 q H1 _ A C) λu s2 #[y,E,F,G,J] =>
  bQ (f p s2 q E x y v u _ F B G J) λd s3 #[z,K,L,N,k,e,P]=>?_)) o
 subst e;subst N;apply UW;cases k with
 |false=>exact ite_ff #[.bl false,K,L,rfl,P]|true=>exact ite_tt (chain_last (bQ (n p s3 q K _ L P) λU s4 #[Y,H4,I4,r4,q4]=>g p s4 q H4 y Y u U Q I4 G r4 q4))
theorem EI(f:gS X (UP op) r)(g:gS X (UP i) j)(l:PE X a ta)(m:PE X b tb)(n:PE X c tc)
  (o:lastMarks [op,i] [b,c]=false:=by with_unfolding_all rfl):PT X (.Compare a [op,i] [b,c] pos) (EG (Aq r j ta tb tc)):=by
 intro p s q H Q I h;refine isTrue_chain (bQ (l p s q H _ I h) λv s1 #[x,H1,A,B,C]=>test_link (bQ (m p s1 q H1 _ A C) λu s2 #[y,E,F,G,J] =>
  bQ (f p s2 q E x y v u _ F B G J) λd s3 #[z,K,L,N,k,e,P]=>?_)) o
 subst e;subst N;apply UW;cases k with
 |false =>
  let(k',U,Y):=P;cases U;exact ite_ff #[K,L,Y]
 |true =>
  refine ite_tt (test_last (bQ (n p s3 q K _ L P) λw' s4 #[z',H4,I4,r4,q4]=>bQ (g p s4 q H4 y z' u w' _ I4 G r4 q4) λd' s5 #[z2,H5,I5,r5,k2,e2,q5]=>?_));subst e2;subst r5;exact UW #[H5,I5,q5]
theorem ka:(sizeLine:Nat) < 2 ^ 63:=by decide
theorem vals1(r:Vals [x] us):∃ u,us=[u]/\RelV x u:=by
 cases r with
 |cons d e=>cases e;exact#[_,rfl,d]
theorem vals2(r:Vals [x,y] us):∃ u d,us=[u,d]/\RelV x u/\RelV y d:=by
 cases r with
 |cons e f =>
  cases f with
  |cons g h=>cases h;exact#[_,_,rfl,e,g]
theorem C8(d:X.calm):bN X (.builtin "max") (λe H Q=>∃ i j,e=[~~~i,~~~j]/\Q (~~~(if j > i then j else i)) H):=by
 intro f s g H e l Q I r h;let(i,j,rfl,q):=h;obtain⟨u,m,rfl,⟨t,rfl⟩,⟨n,rfl⟩⟩:=vals2 r;refine max_two_ints (I.ok.hd d) λo p k=>#[_,H,I.kept k,?_,q];by_cases v:j > i
 .rw[Zv v,Zv v];exact#[_,rfl]
 .rw[Zw v,Zw v];exact#[_,rfl]
theorem C9(d:X.calm):bN X (.builtin "min") (λe H Q=>∃ i j,e=[~~~i,~~~j]/\Q (~~~(if j < i then j else i)) H):=by
 intro f s g H e l Q I r h;let(i,j,rfl,q):=h;obtain⟨u,m,rfl,⟨t,rfl⟩,⟨n,rfl⟩⟩:=vals2 r;refine min_two_ints (I.ok.hd d) λo p k=>#[_,H,I.kept k,?_,q];by_cases v:j < i
 .rw[Zv v,Zv v];exact#[_,rfl]
 .rw[Zw v,Zw v];exact#[_,rfl]
theorem uK:bN X (.type "int") (λd H Q=>(∃ i,d=[~~~i]/\Q (~~~i) H)∨∃ k,d=[.bl k]/\Q (~~~(if k then 1 else 0)) H):=by
 intro e s f H d g Q I r h;rcases h with ⟨i,rfl,q⟩ | ⟨k,rfl,q⟩
 .let(u,rfl,t,rfl):=vals1 r;exact call_int_int #[~~~i,H,I,#[_,rfl],q]
 .let(u,rfl,j):=vals1 r;subst j;exact call_int_bool #[~~~_,H,I.tok _,#[_,rfl],q]
end
structure ez(k:Nat)(A:Around):Prop where
 hd:A.handled=none
 dp:A.depth + 3 * k + 5 < recursionLimit
 un:A.units + 16 * k + 200 < cLine
theorem ez.deeper(r:ez (k + 1) A)(a:Env):ez k (A.deeper a) :=
 #[r.hd,by have:=r.dp;show A.depth + 1 + 3 * k + 5 < _;omega,by have:=r.un;show A.units + 3 + 16 * k + 200 < _;omega]
theorem ez.depth(r:ez k A):A.depth < recursionLimit:=by have:=r.dp;omega
theorem ez.units{A:þ}(r:ez k A):A.units + 64 < cLine:=by have:=r.un;omega
def Ar:TA:=λ_ H Q=>Q [] H
def ym(a:TE)(b:TA):TA:=λc H Q=>a c H λx d=>b c d λe f=>Q (x::e) f
section
variable {X:Cx}{e:Ö}{es:Zm}{te:TE}{t:TA}{pos:Pos}
theorem cM:PA X [] Ar:=λ_ _ _ _ H Q I h=>Wc #[[],H,I,.nil,h]
theorem bA(a:PE X e te)(b:PA X es t)(hs:Ul (e::es) X.env=(false,eval e X.env)::Ul es X.env:=by rfl):PA X (e::es) (ym te t):=by
 intro pos c s d H Q I h;rw[hs];refine WJ (bQ (a c s d H _ I h) λu s1 #[x,H1,f,g,i]=>?_);exact bQ (b pos c s1 d H1 _ f i) λus s2 #[xs,j,k,l,m]=>#[_,j,k,.cons g l,m]
def Rq(t:TA):TE:=λa H Q=>t a H λb c=>b.length<=sizeLine/\∀ p,c p=none->Q ↥p (upd c p (.tup b))
def Iu(t:TA):TE:=λa H Q=>t a H λb c=>b.length<=sizeLine/\∀ p,c p=none->Q ↥p (upd c p (.lst b))
theorem EJ(h:PA X es t):PE X (.Tuple es a pos) (Rq t):=by
 intro c s d H Q I f;refine wpAny_Tuple_spliced (bQ (h pos c s d H _ I f) λus s1 #[xs,H1,g,r,z,q]=>#[by rw[<-r.length];exact z,?_])
 refine#[↥s1.heap.objs.size,_,g.laid  (λb u e=>Â _ e) (Î _) ?_,rfl,q _ (g.aM.fresh (Î _))];exact#[z,us,r,#[_,Ì _ rfl,rfl,_,rfl]]
theorem oW(h:PA X es t):PE X (.List es pos) (Iu t):=by
 intro a s c H Q I d;refine wpAny_List_spliced (bQ (h pos a s c H _ I d) λus s1 #[xs,H1,f,r,z,q]=>#[by rw[<-r.length];exact z,?_])
 refine#[↥s1.heap.objs.size,_,f.laid  (λb u e=>Â _ e) (Î _) ?_,rfl,q _ (f.aM.fresh (Î _))];exact#[z,us,0,r,Ì _ rfl]
end
abbrev Sp:=⇑V->Hp->VK->XK->Prop
abbrev Ej:=⇑Env->Hp->Ç->XK->Ä->Ç->Prop
structure uj(P:Program)(w:World)(K:PySem.W.Frag)(mg:Str->Option Value)(base:Heap)(A:Around)(outer:⇑Env)(s:Shared)(H:Hp):Prop where
 frames:A.frames=↑outer
 mod:Mod K mg base
 bs:∀ b o,base.get? b=↑o->s.heap.get? b=↑o/\H b=none
 bsz:base.objs.size<=s.heap.objs.size
 j7:s.heap.FunFrames base outer
 frf:∀ b∈eM outer,H b=none
 aM:jm P w H s.heap
 bare:AllBare s.gens
def CE(a:⇑Env)(P:å)(w:î)(H:Hp)(s:Ç)(Q:VK)(u:Ä)(b:Ç):Prop :=
 ∃ v c,b.os=s.os/\Xz b.gens/\Un (eM a) [] H c s.heap b.heap/\jm P w c b.heap/\RelV v u/\Q v c
def CR(a:Ej)(b:⇑Env)(P:å)(w:î)(H:Hp)(s:Ç)(Q:VK)(E:XK)(r:Result)(c:Ç):Prop :=
 match r with
 |.ok (.ret u)=>CE b P w H s Q u c|.ok _=>False|.error e=>a b H s E e c
structure jo(P:Program)(w:World)(K:PySem.W.Frag)(mg:Str->Option Value)(base:Heap)(CX:Ej)(k:Nat)(f:Addr)(fd:FuncData)(ps:⇑Str)(sp:Sp):Prop where
 len:∀ vs H Q E,sp vs H Q E->vs.length=ps.length
 run:∀ (A:Around) (outer:⇑Env) (s:Shared) (H:Hp) (args:Args) (us:⇑Value) (vs:⇑V) (Q:VK) (E:XK),ez k A->uj P w K mg base A outer s H->BindsTo s fd args (ps.zip us)->Vals vs us->sp vs H Q E ->
  codeAny (model P w) A (.call ↥f args) (CR CX outer P w H s Q E) s
section
variable {X:Cx}{aa:⇑(È × Obj)}{σ:St}{H:Hp}{s s':Ç}
theorem Inv.EK(I:Inv X aa σ H s):uj X.prog X.w X.K X.mg X.base X.A X.stack s H :=
 #[I.ok.frames,I.ok.mod,I.bs,â I.ok.bsz I.sz,I.stack,I.gv,I.aM,I.bare]
theorem Inv.after{Q:VK}(I:Inv X aa σ H s)(h:CE X.stack X.prog X.w H s Q u s'):EP X aa σ Q u s':=by
 let(v,a,c,bare,un,e,r,q):=h;let(f,g,d,t,i):=s';obtain rfl:i=s.os:=c;exact#[v,a,I.call      un e bare (λb z=>absurd z ⋯),r,q]
end
def Ow(a:Sp)(b:⇑V)(E:XK)(t:TA):TE:=λc H Q=>t c H λd e=>a (d++b) e Q E
def Binds(K:Ã)(fd:UA)(a:Zj)(ds:Zk):Prop :=
 ∀ (s:Ç) (b:Zk),K.In s.heap->(b++ds).length=a.length->YW s fd #[b,[]] (a.zip (b++ds))
theorem Binds.all{K:Ã}{fd:UA}{ps:Zj}(h:∀ a:Zk,a.length=ps.length->bindArgs fd #[a,[]]=pure (ps.zip a)):Binds K fd ps []:=λs a _ b=>by
 rw[Wa] at b ⊢;exact .of_eq (h a b)
def Passes(a:Ej)(X:Cx)(E:XK):Prop:=∀ (b:⇑(È × Obj)) (c:St) (H:Hp) (s:Ç) (e:Ä) (d:Ç),Inv X b c H s->a X.stack H s E e d->X.xe e d
section
variable {X:Cx}{CX:Ej}{k:Nat}{f C:È}{fd:UA}{ps:Zj}{sp:Sp}{dvs:⇑V}{ds:Zk}{E:XK}{x m:Str}{p pos apos:Pos}{e o:Ö}{es:Zm}{ta:TE}{t:TA}
theorem LG{aa:⇑(È × Obj)}{σ:St}{H:Hp}{s:Ç}{Q:VK}{us:Zk}{vs:⇑V}(F:jo X.prog X.w X.K X.mg X.base CX k f fd ps sp)(hr:ez k X.A)(hb:Binds X.K fd ps ds)(hd:Vals dvs ds)(hx:Passes CX X E)
  (I:Inv X aa σ H s) (r:Vals vs us) (h:sp (vs++dvs) H Q E):Ü (ß X.prog X.w) X.A (call ↥f us) (EP X aa σ Q) X.xe s:=by
 have r2 :=r.append hd;refine Xa (U4 (F.run X.A X.stack s H _ _ _ Q E hr I.EK (hb s us I.lF (by rw[<-r2.length];exact F.len _ _ _ _ h)) r2 h) λr s' hq=>?_);cases r with
 |error e=>exact hx aa σ H s e s' I hq
 |ok fl =>
  cases fl with
  |ret u=>exact I.after hq|next=>exact ú hq
  |brk=>exact ú hq|cont=>exact ú hq
theorem Iv(F:jo X.prog X.w X.K X.mg X.base CX k f fd ps sp)(a:ez k X.A)(b:Gl X x)(c:X.mg x=↑↥f)(d:Wi X.K ↥f)(g:Binds X.K fd ps ds)(hd:Vals dvs ds)(i:Passes CX X E)
  (j:PA X (e::es) t) (l:(x == ("__debug__":Str))=false:=by decide) (n:Ul (e::es) X.env=(false,eval e X.env)::Ul es X.env:=by rfl) (u:(backTo pos (Ul es X.env)).any (·.1)=false:=by rfl) :
  PE X (.Call (.Name x p) (e::es) [] pos) (Ow sp dvs E t):=by
 intro v s y H Q I h;refine VJ (lH I b c ?_ l);refine callWith_K  I.ok.mod.kin d (bQ (j pos v s y H _ I h) λus s1 #[z,H1,B,r,q]=>#[B.lF,?_]) n u;exact LG F a g hd i B r q
end
structure eP(N P:⇑Str)(sc:Scope):Prop where
 kind:sc.kind=.function
 co:sc.isCoroutine=false
 gen:sc.isGenerator=false
 nd:N.Nodup
 pre:N.take P.length=P
 par:∀ x∈P,sc.names.lookup x=↑.local∨sc.names.lookup x=↑.cell
 nofree:∀ y∈sc.names,y.2≠.free
theorem uL{a:Str->Option Wn}{x:Str}:∀ {binds:⇑(Str × Ä)}{m:Str->Zn},(∀ v,(x,v) ∉ binds)->bindL a binds m x=m x
 |[],_,_=>rfl
 |(n,v)::r,m,h=>by
  unfold bindL;rw[uL λw hw=>h w (É _ hw)];split
  .have:x≠n:=by rintro rfl;exact h v Í
   simp[this]
  .rfl
theorem uM{a:Str->Option Wn}{x:Str}:∀ {binds:⇑(Str × Ä)}{m:Str->Zn},(∀ v,(x,v) ∉ binds)->bindC a binds m x=m x
 |[],_,_=>rfl
 |(n,v)::r,m,h=>by
  unfold bindC;rw[uM λw hw=>h w (É _ hw)];split
  .rfl
  .have:x≠n:=by rintro rfl;exact h v Í
   simp[this]
theorem oX{a:Str->Option Wn}{x:Str}{v:Ä}:∀ {P:Zj}{b:Zk}{i:Nat}{m:Str->Zn},P.Nodup->P[i]?=↑x->b[i]?=↑v->a x=↑.local ->
  bindL a (P.zip b) m x=↑v
 |[],_,_,_,_,h,_,_=>by simp at h|_::_,[],_,_,_,_,h,_=>by simp at h
 |p::P,w::b,0,m,c,d,e,f=>by
  simp at d e;subst d;subst e;show bindL a ((p,w)::P.zip b) m p=_;unfold bindL;rw[uL λv g=>(WI.mp c).1 (of_mem_zip g).1,Zv f];simp
 |p::P,w::b,i + 1,m,c,d,e,f=>by
  unfold bindL;exact oX  (WI.mp c).2 (d) (e) f
theorem oY{a:Str->Option Wn}{x:Str}{v:Ä}:∀ {P:Zj}{b:Zk}{i:Nat}{m:Str->Zn},P.Nodup->P[i]?=↑x->b[i]?=↑v->a x≠↑.local ->
  bindC a (P.zip b) m x=↑v
 |[],_,_,_,_,h,_,_=>by simp at h|_::_,[],_,_,_,_,h,_=>by simp at h
 |p::P,w::b,0,m,c,d,e,f=>by
  simp at d e;subst d;subst e;show bindC a ((p,w)::P.zip b) m p=_;unfold bindC;rw[uM λv g=>(WI.mp c).1 (of_mem_zip g).1,Zw f];simp
 |p::P,w::b,i + 1,m,c,d,e,f=>by
  unfold bindC;exact oY  (WI.mp c).2 (d) (e) f
def start(N:Zj)(a:⇑V):St:=a.map some++ì (N.length - a.length) none
def iU(CX:Ej)(P:å)(w:î)(K:Ã)(mg:Str->Zn)(base:ö)(N:Zj)(qual:Str)(scope:ò)(f:È)(cd:Ä)(A:þ)(outer:⇑Env)(s:Ç)(H:Hp)(E:XK):Cx where
 prog:=P
 w:=w
 K:=K
 mg:=mg
 base:=base
 A:=A.deeper (Xu qual scope s.heap.objs.size f cd)
 N:=N
 s₀:=s
 H₀:=H
 env:=Xu qual scope s.heap.objs.size f cd
 outer:=outer
 stack:=Xu qual scope s.heap.objs.size f cd::outer
 ex:=[]
 calm:=true
 fn:=λ_=>true
 pn:=[]
 xe:=λe s'=>Ü (ß P w) (A.deeper (Xu qual scope s.heap.objs.size f cd)) (leaving (Xu qual scope s.heap.objs.size f cd) e) (λ_ s''=>CX outer H s E e s'') (λe' s''=>CX outer H s E e' s'') s'
theorem nE{a:ò}{n:Nat}{x:Str}(h:a.names.lookup x=↑.cell):∃ c,(cellsFrom n a.names []).lookup x=↑c:=by
 exact Option.isSome_iff_exists.mp (cellsFrom_some a.names n [] (.inl h))
theorem uN{a:Ej}{P:å}{w:î}{K:Ã}{d:Str->Zn}{g:ö}{N j:Zj}{l:Str}{m:ò}{f:È}{n:Ä}{A:þ}{o:⇑Env}{s s1:Ç}{H:Hp}{E:XK}{B:Zk}{C:⇑V}
  (S:eP N j m) (hd:A.handled=none) (F:uj P w K d g A o s H) (hl:C.length=j.length) (r:Vals C B)
  (x:InCallC s s.heap.objs.size (bindL (Xu l m s.heap.objs.size f n).kindOf (j.zip B) λ_=>none) (cellsFrom (s.heap.objs.size + 1) m.names []) (bindC (Xu l m s.heap.objs.size f n).kindOf (j.zip B) λ_=>none) s1) :
  Inv (iU a P w K d g N l m f n A o s H E) [] (start N C) H s1:=by
 have hpl:j.length<=N.length:=by have:=congrArg List.length S.pre;grind
 let(G,tk,rfl,hk):=x.done;have I:∀ b ,b ∉ (iU a P w K d g N l m f n A o s H E).ex:=λb z=>absurd (show b∈([]:Zo) from z) ⋯
 refine#[#[F.mod,S.kind,rfl,rfl,Î _,λy z c G J=>?_,λy L=>?_,λy c _ h=>?_,λ_=>hd,Xp F.frames,.inr #[rfl,rfl],λb z=>absurd z (I b),F.bs,F.bsz,λb _ _=>I b,λb z=>absurd z (I b),F.j7,F.frf],
  rfl,F.bare,Un.kept hk,#[_,x.toInCall.ns,λi y v G J h3=>?_],λy c h=>#[_,x.cell y c h],F.aM.fresh (Î _),λy c h=>?_,λp U=>absurd (show p∈([]:⇑_) from U) ⋯,F.aM.kept hk,?_]
 .exact name_of_addr x.apart (ä G) (ä J)
 .rcases L with L | L
  .exact nE L
  .exact absurd rfl (S.nofree _ (ä L))
 .exact Vb (x.above y c (ä h))
 .have X:i < C.length:=by
   unfold start at J;by_cases X:i < C.length
   .exact X
   .rw[Uz (by simpa using X)] at J
    rw[VW] at J;split at J <;> cases J
  let(u,hu,rv):=r.get (by
   unfold start at J;rw[VI (by simp_all)] at J
   simp_all:C[i]?=↑v);have U:j[i]?=↑y:=by
   rw[<-S.pre,List.getElem?_take_of_lt (_l X hl)];exact G
  have Y:j.Nodup:=by rw[<-S.pre];exact S.nd.sublist (List.take_sublist _ _)
  refine#[u,rv,?_];rcases S.par y (Û U) with k | k
  .exact .inl #[k,oX Y U hu k]
  .let(c,e):=nE  k;refine .inr #[.inl k,c,e,?_];have q:=x.cell y c e;rw[oY Y U hu (by show m.names.lookup y≠_;rw[k];decide)] at q
   exact q
 .exact F.aM.fresh (Vb (x.above y c (ä h)))
 .delta start
  show _=N.length;rw[õ,Æ,Vp];omega
theorem Ox{a:Ej}{P:å}{w:î}{K:Ã}{c:Str->Zn}{d:ö}{k:Nat}{f:È}{g h:Str}{i:Wr}{j:⇑Uv}{l:ò}{dV kV m pm p ct oc:Ä}{an od:Zl}
  {osl:Array Zn}{N ps:Zj}{sp:Sp} (lk:K.lookup f=↑#[oc,od,.func (fnOf g h i j l dV kV m pm an p ct),osl]) (hcd:PySem.W.codeIn K p h) (S:eP N ps l)
  (len:∀ z H Q E,sp z H Q E->z.length=ps.length)
  (B:∀ (A:þ) (C:⇑Env) (s:Ç) (H:Hp) (z:⇑V) (Q:VK) (E:XK),ez k (A.deeper (Xu h l s.heap.objs.size f p))->sp z H Q E ->
   ∃ t,dM (iU a P w K c d N h l f p A C s H E) j t/\t { nx:=λ_ F=>Q .cD F,rt:=Q } (start N z) H) :
  jo P w K c d a (k + 1) f (fnOf g h i j l dV kV m pm an p ct) ps sp:=by
 refine#[len,λA C s H args us z Q E hr G hb r L=>?_];have KX :=G.mod.kin.keeps λb o e=>(G.bs b o e).1;have lim :=G.mod.nolimit.keeps λb o e=>(G.bs b o e).1;refine codeAny_call_function hr.depth (KX _ _ lk) rfl S.co S.gen rfl (codeRec_of KX hcd) (hb _ _ _ _ ?_);refine wpAny_newFunctionEnv_cells S.kind (λ#[n,v] hy=>by
  rcases S.par n (of_mem_zip hy).1 with q | q
  .exact .inl q
  .exact .inr #[q,cellsFrom_some _ _ _ (.inl q)]) λenv he s1 x=>?_;subst he;refine#[lim.keeps x.toInCall.keep,codeAny_func ?_];let(t,ht,hq):=B A C s H z Q E (hr.deeper _) L;refine UQ (ht [] s1 _ H _ (uN S hr.hd G (len _ _ _ _ L) r x) hq) (λfl s' hs=>?_) λe s' hs=>hs;have X:∀ {Y:St}{F:Hp}{v:V}{u:Ä},Inv (iU a P w K c d N h l f p A C s H E) [] Y F s'->RelV v u->Q v F->CE C P w H s Q u s' :=
  λ{Y F v u} J rv q=>#[v,F,J.os,J.bare,J.base,J.aM,rv,q]
 cases fl with
 |ret u =>
  let(v,Y,F,J,rv,q):=hs;exact X J rv q
 |next =>
  let(Y,F,J,q):=hs;exact X (v:=V.cD)  J rfl q
 |brk =>
  let(_,_,_,q):=hs;exact ú q
 |cont =>
  let(_,_,_,q):=hs;exact ú q
section
variable {X:Cx}{x:Str}{p pos:Pos}{e:Ö}{es:Zm}{t:TA}{id T:String}{r:⇑V->Hp->VK->Prop}
def QU(r:⇑V->Hp->VK->Prop)(t:TA):TE:=λa H Q=>t a H λb c=>r b c Q
theorem iV(a:bN X (.builtin id) r)(b:Gl X x)(c:X.mg x=none)(d:ý x=↑(.builtin id))(f:PA X (e::es) t)(g:x≠"__name__":=by decide)(i:(x == ("__debug__":Str))=false:=by decide)
  (j:Ul (e::es) X.env=(false,eval e X.env)::Ul es X.env:=by rfl) (k:(backTo pos (Ul es X.env)).any (·.1)=false:=by rfl):PE X (.Call (.Name x p) (e::es) [] pos) (QU r t):=by
 intro l s m H Q I h;refine VJ (f7 I b c d ?_ g i);exact PyProof.Rows.callWith_builtin1 (bQ (f pos l s m H _ I h) λus s1 #[n,H1,o,q,u]=>a l s1 m H1 n us Q o q u) j k
theorem lK(a:bN X (.type T) r)(b:Gl X x)(c:X.mg x=none)(d:ý x=↑(.type T))(f:PA X (e::es) t)(g:x≠"__name__":=by decide)(i:(x == ("__debug__":Str))=false:=by decide)
  (j:Ul (e::es) X.env=(false,eval e X.env)::Ul es X.env:=by rfl) (k:(backTo pos (Ul es X.env)).any (·.1)=false:=by rfl):PE X (.Call (.Name x p) (e::es) [] pos) (QU r t):=by
 intro l s m H Q I h;refine VJ (f7 I b c d ?_ g i);exact Ua (bQ (f pos l s m H _ I h) λus s1 #[n,H1,o,q,u]=>a l s1 m H1 n us Q o q u) j k
end
end L2
namespace HT
open PySem PyProof.Rows
theorem EL(A:þ)(s:Ç)(a:Int)(t:Tok)(c:Int)(u:Tok):∃ e,SeqAt.EqAt A s (.int a t) (.int c u) e/\(e↔a=c) :=
 #[_,SeqAt.EqAt.int_int a t c u,⋯]
theorem yn(A:þ)(s:Ç)(a:Int)(t:Tok)(c:Int)(u:Tok)(prog:å)(w:î)(E:Ä->Ç->Prop)(Q:Ä->Ç->Prop)(h:Q (.bool (decide (a < c))) s) :
  Ü (ß prog w) A (richCompare .Lt (.int a t) (.int c u)) Q E s :=
 (lt_int h:Ü _ A _ Q E s)
section
variable {prog:å}{w:î}{A:þ}{E:Ä->Ç->Prop}{s:Ç}
theorem Bw{t b:È}{Q:Ä->Ç->Prop}(a:XM s.heap t c.toArray)(d:XM s.heap b ws.toArray)(f:c≠[])
  (g:ws=[]->Q ↥t s) (h:ws≠[]->Q ↥s.heap.objs.size { s with heap:=s.heap.push { cls:=.type "tuple",data:=.seq (c++ws).toArray } })
  (i:c.length + ws.length<=sizeLine):Ü (ß prog w) A (UT .Add ↥t ↥b) Q E s:=by
 obtain⟨⟨cls,j,data,sl⟩,k,l,n,hd⟩:=id a;obtain⟨⟨m,o,p,q⟩,r,u,n2,v⟩:=id d;subst l hd u v;by_cases hw:ws=[]
 .exact concat_meets #[_,k,rfl] #[_,r,rfl] XO YZ VY VT (VN _ _)
   (tuple_addW1 t b c.toArray ws.toArray n n2 j o sl q (by simpa using f) (by simp[hw])) #[k,r,g hw]
 .refine concat_meets #[_,k,rfl] #[_,r,rfl] XO YZ VY VT (VN _ _)
   (tuple_addW2 t b c.toArray ws.toArray n n2 j o sl q (by simpa using f) (by simp_all) (by simp_all)) #[k,r,?_]
  simp_all
def dg(n d:Nat):Zq->Nat
 |none=>d|↑v=>if v < 0 then(v + (n:Int)).toNat else min v.toNat n
theorem By(v:Int)(n d:Nat):(if v < 0 then max (v + (n:Int)) 0 else min v (n:Int))=((dg n d ↑v:Nat):Int):=by
 show(if v < 0 then max _ 0 else min v _)=(((if v < 0 then(v + (n:Int)).toNat else min v.toNat n):Nat):Int)
 grind
theorem As(a b:Zq)(n:Nat):Yw a b 1 (n:Int)=(((dg n 0 a:Nat):Int),((dg n n b:Nat):Int)):=by
 refine Prod.ext ?_ ?_
 .cases a with
  |none=>rfl|some v=>exact By v n 0
 .cases b with
  |none=>rfl|some v=>exact By v n n
theorem Au(i j:Nat):Ws (i:Int) (j:Int) 1=j - i:=by
 delta Ws
 grind
theorem rh{Q:Zq->Ç->Prop}(p:Yc v o)(h:Q o s):Ü (ß prog w) A (Builtin.Slice.slicePartIndex v) Q E s:=by
 cases p with
 |none=>exact slicePart_none h|int i t=>exact slicePart_int h
theorem dE{Q:Int × Int × Nat->Ç->Prop}(hs:s.heap.IsSliceOf sl a b .none)(pl:Yc a c)(d:Yc b e)
  (h:Q (((dg n 0 c:Nat):Int),1,dg n n e - dg n 0 c) s):Ü (ß prog w) A (sliceApplied ↥sl (pure (n:Int))) Q E s:=by
 let(f,g,i,j):=id hs;refine À (À (UH g j (x:=a) rfl (À (UH g j (x:=b) rfl (À (UH g j  rfl (Å ?_)))))));refine À (slicePart_none ?_);refine À (rh pl (À (rh d (À (Å ?_)))));show Ü _ _ (match Yw c e 1 _ with | (c,e)=>pure (c,(1:Int),Ws c e 1)) _ _ s
 rw[As c e n];show Ü _ _ (pure _) _ _ s;rw[Au];exact Å h
theorem yo(a:Zp)(i k:Nat):((ë k).filterMap λ(m:Nat)=>a[((i:Int) + (m:Int) * 1).toNat]?).toArray=((a.toList.drop i).take k).toArray:=by
 rw[(by
  funext m
  rw[(by omega:((i:Int) + (m:Int) * 1).toNat=i + m)]:(λ(m:Nat)=>a[((i:Int) + (m:Int) * 1).toNat]?)=λm=>a[i + m]?)];have:=pick_run a i k;have b:((λx=>a[x]?) ∘ λx=>i + x)=λm=>a[i + m]?:=rfl
 simp_all
theorem nF{t sl:È}{a:Zp}{b c:Ä}{d e:Zq}{Q:Ä->Ç->Prop}(f:XM s.heap t a)(hs:s.heap.IsSliceOf sl b c .none)(pl:Yc b d)(g:Yc c e)
  (hw:¬ (dg a.size 0 d=0/\dg a.size a.size e=a.size))
  (h:Q ↥s.heap.objs.size { s with heap:=s.heap.push { cls:=.type "tuple",data:=.seq ((a.toList.drop (dg a.size 0 d)).take (dg a.size a.size e - dg a.size 0 d)).toArray } })
  (i:a.size<=sizeLine):Ü (ß prog w) A (W4 ↥t ↥sl) Q E s:=by
 let(k,l,m,n):=id hs;delta W4
 try with_reducible apply û
 refine À (Xq f.typeIs (-0) ?_)
 refine À (Uk  f.typeIs é
  (My é f.typeIs entry_tuple_getitem ?_ (Xc _ _)))
 show Ü _ _ (X6 _ >>= _) _ _ s;refine À (YY f ?_);refine À (Vh #[k,l,m] ?_);refine À (dE hs pl g ?_);show Ü _ _ (if (((dg a.size 0 d:Nat):Int) == 0&&(1:Int) == 1&&(dg a.size a.size e - dg a.size 0 d) == a.size)=true then _ else _) _ _ s;rw[Zw (by grind),yo]
 first
  |grind
  |exact À  (Uj (À (Å (Å #[_,rfl,Å h]))) (by
  show((a.toList.drop _).take _).toArray.size<=sizeLine;rw[á,US,VE,WM];omega +splitNatSub))
  |grind
  |grind
end
end HT
namespace L2
open PySem PySem.Spec PyProof.Rows
abbrev TO:=St->Hp->(Zq->Hp->Prop)->Prop
def PO(X:Cx)(e:Zt)(t:TO):Prop :=
 ∀ (a:⇑(È × Obj)) (s:Ç) (b:St) (H:Hp) (Q:Zq->Hp->Prop),Inv X a b H s->t b H Q ->
  Ü (ß X.prog X.w) X.A (evalPart e X.env) (λu c=>∃ o d,Inv X a b d c/\Yc u o/\Q o d) X.xe s
def Iw:TO:=λ_ H Q=>Q none H
def Oy(t:TE):TO:=λa H Q=>t a H λx b=>∃ i,x= ~~~i/\Q ↑i b
theorem intsAre_of:∀ {a:Zk},Vals (b.map V.int) a->Wu a b:=by
 induction b with
 |nil=>intro a r;cases r;exact .nil
 |cons n b c =>
  intro a r;cases r with
  |cons d f =>
   let(t,e):=d;subst e;exact .cons n t (c f)
section
variable {X:Cx}{e:Ö}{te:TE}{lo hi:Zt}{tl th:TO}{pos p2:Pos}
theorem Bz:PO X none Iw:=by
 intro a s b H Q I h;exact Å #[none,H,I,.none,h]
theorem BC(h:PE X e te):PO X ↑e (Oy te):=by
 intro a s b H Q I hw;refine bQ (h a s b H _ I hw) λu s1 #[x,H1,c,d,f]=>?_;let(i,rfl,q):=f;let(t,rfl):=d;exact#[_,H1,c,.int i t,q]
def Oz(X:Cx)(r:V->Zq->Zq->Hp->VK->Prop):Prop :=
 ∀ (a:⇑(È × Obj)) (s:Ç) (b:St) (H:Hp) (x:V) (v c d:Ä) (lo hi:Zq) (sl:È) (Q:VK),Inv X a b H s->RelV x v->s.heap.IsSliceOf sl c d .none->Yc c lo->Yc d hi->r x lo hi H Q ->
  ∃ T f,typeLookup (.type T) "__getitem__"=pure ↑(.builtin f)/\s.TypeIs v T/\Ü (ß X.prog X.w) X.A (W4 v ↥sl) (EP X a b Q) X.xe s
def TF(r:V->Zq->Zq->Hp->VK->Prop)(te:TE)(tl th:TO):TE:=λa H Q=>te a H λx b=>tl a b λl c=>th a c λu d=>r x l u d Q
theorem EM(a:Oz X r)(c:PE X e te)(d:PO X lo tl)(f:PO X hi th):PE X (.Subscript e (.Slice lo hi none p2) pos) (TF r te tl th):=by
 intro g s i H Q I h;refine Subscript_ (bQ (c g s i H _ I h) λv s1 #[x,H1,j,k,m]=>?_);refine wpAny_Slice (bQ (d g s1 i H1 _ j m) λn s2 #[l,o,p,pl,y]=>bQ (f g s2 i o _ p y) λz s3 #[u,A,B,pu,C]=>?_);apply Å;have E:Inv X g i A { s3 with heap:=s3.heap.push { cls:=.type "slice",data:=.fields [n,z,.none].toArray } }:=B.kept  λb F q=>Â _ q;let(T,G,hT,J,K):=a g _ i A x v n z l u s3.heap.objs.size Q E k (Wk ..) pl pu C;exact tail_any  J hT K (rfl)
def vZ(a:⇑V)(lo hi:Zq):⇑V:=(a.drop (HT.dg a.length 0 lo)).take (HT.dg a.length a.length hi - HT.dg a.length 0 lo)
theorem ke(a:⇑V)(lo hi:Zq):(vZ a lo hi).length<=a.length:=by
 delta vZ
 rw[US,VE];exact â (_y _ _) (_n _ _)
theorem Vals.jq(r:Vals xs us):us=[]↔xs=[]:=by
 cases r with
 |nil=>simp|cons _ _=>simp
end
def Ek(n:Nat)(i:Int):Zu:=if 0<=i then(if i < n then ↑i.toNat else none) else if -(n:Int)<=i then ↑(i + n).toNat else none
def Ai{a:Type}(b:⇑a)(i:Int):Option a:=(Ek b.length i).bind λj=>b[j]?
theorem wa(h:Ek n i=↑j):seqIndex? i n=↑j/\j < n/\-(n:Int)<=i/\i < n:=by
 delta Ek at h
 by_cases a:0<=i
 .rw[Zv a] at h;by_cases b:i < n
  .rw[Zv b] at h;exact#[by rw[Xf a b,í h],by omega,_o (Int.neg_nonpos_of_nonneg (_c _)) a,b]
  simp_all
 .rw[Zw a] at h;by_cases b:-(n:Int)<=i
  .rw[Zv b] at h;exact#[by rw[seqIndex_neg (_D a) b,í h],by omega,b,_s (_D a) (_c _)]
  simp_all
theorem nG{a:Type}{b:⇑a}{i:Int}{v:a}(h:Ai b i=↑v):∃ j,seqIndex? i b.length=↑j/\b[j]?=↑v/\j < b.length/\-(b.length:Int)<=i/\i < b.length:=by
 delta Ai at h
 cases e:Ek b.length i with
 |none=>rw[e] at h;cases h
 |some j =>
  rw[e] at h;let(c,d,f,g):=wa e;exact#[j,c,h,d,f,g]
theorem lL{a:Type}{b:⇑a}{j:Nat}{v:a}(h:b[j]?=↑v):Ai b (j:Int)=↑v:=by
 have c :=(Ý.mp h).1;delta Ai;rw[(by
  delta Ek
  simp_all:Ek b.length _=↑j)];exact h
def BD(b:Ö):Prop:=∀ o i,subscripted b false o i=operate [o,i] (W4 o i)
def NY(X:Cx)(r:R2):Prop :=
 ∀ (a b:Ö) (c:⇑(È × Obj)) (s:Ç) (d:St) (H:Hp) (x y:V) (v u:Ä) (Q:VK),Inv X c d H s->RelV x v->RelV y u->r x y H Q ->
  subscripted b false v u=operate [v,u] (W4 v u)->Ü (ß X.prog X.w) X.A (subscriptTail a b v u) (EP X c d Q) X.xe s
def OA(X:Cx)(a:String)(r:V->⇑V->Hp->VK->Prop):Prop :=
 ∀ (b:⇑(È × Obj)) (s:Ç) (c:St) (H:Hp) (x:V) (d:⇑V) (v:Ä) (e:Zk) (Q:VK),Inv X b c H s->RelV x v->Vals d e->r x d H Q ->
  Ü (ß X.prog X.w) X.A (call (.builtin a) (v::e)) (EP X b c Q) X.xe s
section
variable {X:Cx}{a b:Ö}{ta tb:TE}{pos:Pos}
theorem yp(c:NY X r)(d:PE X a ta)(e:PE X b tb)(hs:BD b):PE X (.Subscript a b pos) (NX r ta tb):=by
 intro f s g H Q I h;exact Subscript_ (Lw d e I h λv u i x y j k l m q=>c a b f i g j x y v u Q k l m q (hs _ _))
def EN(K:Ã):R2:=λx y H Q=>∃ p c i v,x=↥p/\y= ~~~i/\gU K H p c/\Ai c i=↑v/\Q v H
def Rr(K:Ã):R2:=λx y H Q=>∃ p c i v,x=↥p/\y= ~~~i/\dY K H p c/\Ai c i=↑v/\Q v H
theorem qC:NY X (EN X.K):=by
 intro c d e s f H x y v u Q I g k h hs;let(p,l,i,z,rfl,rfl,m,n,q):=h;subst g;let(t,rfl):=k;let(o,r,pl,hz):=I.list m;let(j,A,B,C,E,F):=nG n;let(w,G,J):=r.get B;have L:=r.length;have N:=ka;have P:EP X e f Q w s:=#[z,H,I,J,q];by_cases U:0<=i
 .have Y :=by
   rw[Xf U F] at A;exact í A
  exact item_listR pl.isList U ∅ (by rw[Y];simpa using G) P hs
 .exact subscriptTail_builtinR  pl.isList.typeIs slot_list_getitem.lookup
   (Xr  pl.isList ∅ (by simp_all) ∅ (by rw[(by
   rw[seqIndex_neg ∅ E] at A
   simp_all:(i + (o.toArray.size:Int)).toNat=j)];simpa using G) #[rfl,P]) hs
theorem LI:NY X (Rr X.K):=by
 intro c d e s f H x y v u Q I g k h hs;let(p,l,i,z,rfl,rfl,m,n,q):=h;cases g;let(t,rfl):=k;let(o,r,pl,hz):=I.tuple m;let(j,A,B,C,E,F):=nG n;let(w,G,J):=r.get B;have N:=ka;exact subscriptTail_builtinR  pl.typeIs slot_tuple_getitem.lookup
  (getItem_tuple   pl ∅ ∅ (by rw[á,<-(r.length)];exact A) (by simp_all) #[rfl,#[z,H,I,J,q]]) hs
theorem rk(c:Zk)(n j:Nat)(u:Ä):Ut (·.setIfInBounds j u) { cls:=.type "list",data:=.seq c.toArray n }={ cls:=.type "list",data:=.seq (c.set j u).toArray n }:=by
 simp[Ut]
theorem Inv.lst{p:È}(I:Inv X c σ H s)(h:H p=↑(.lst xs)) :
  ∃ (ar:Zk) (n:Nat),Vals xs ar/\s.heap.get? p=↑{ cls:=.type "list",data:=.seq ar.toArray n }/\xs.length<=sizeLine:=by
 let(z,ar,n,r,e):=I.aM p _ h;exact#[ar,n,r,e,z]
theorem Inv.EO{c:⇑(È × Obj)}{d:St}{H:Hp}{s:Ç}{p:È}{g i:⇑V}{ar j:Zk}{n k:Nat}{f:Obj->Obj}(I:Inv X c d H s)(h:H p=↑(.lst g))
  (l:s.heap.get? p=↑{ cls:=.type "list",data:=.seq ar.toArray n }) (m:f { cls:=.type "list",data:=.seq ar.toArray n }={ cls:=.type "list",data:=.seq j.toArray k }) (r:Vals i j) (hz:i.length<=sizeLine) (t:Nat) :
  Inv X c d (upd H p (.lst i)) { s with heap:=s.heap.update p f,toks:=t }:=by
 have e:(s.heap.update p f).get? p=↑{ cls:=.type "list",data:=.seq j.toArray k }:=by
  rw[VG f l (by rw[m] <;> rfl),m]
 apply I.write   (by rw[h];trivial) (.inl rfl) (λb u o q=>(W7 _ _ (ñ o)).trans q) #[_,e]
 exact#[hz,j,k,r,e]
def KC:V->V->V->Hp->(Hp->Prop)->Prop:=λo i v H Q=>∃ p c k j,o=↥p/\i= ~~~k/\H p=↑(.lst c)/\Ek c.length k=↑j/\Q (upd H p (.lst (c.set j v)))
theorem set_list:Ip X KC:=by
 intro c s d H o i v e f u Q I g l m h;let(p,x,k,j,rfl,rfl,y,z,q):=h;subst g;let(t,rfl):=l;let(A,n,r,B,hz):=I.lst y;let(C,E,F,G):=wa z;have J:=r.length;have K:=ka;have L  :=
  I.EO y B (rk A n j u) (r.set m j) (by rw[ô];exact hz) s.toks
 by_cases N:0<=k
 .have P :=by
   rw[Xf N G] at C;exact í C
  exact ki_setAt B N ∅ (by simp_all) (by rw[P];exact#[_,L,q])
 .exact ki_setBack B ∅ (by simp_all) ∅ (by rw[(by
   rw[seqIndex_neg ∅ F] at C
   simp_all:(k + (A.toArray.size:Int)).toNat=j)];exact#[_,L,q])
theorem wb(c d:Zq)(n:Nat):(X0 c d none n).1=((HT.dg n 0 c:Nat):Int)/\(X0 c d none n).2.1=((HT.dg n n d:Nat):Int)/\(X0 c d none n).2.2=1:=by
 refine#[?_,?_,rfl]
 .cases c with
  |none=>dsimp [X0,HT.dg]
  |some i =>
   simp[X0,HT.dg,getD_none,show(1:Int) > 0 by decide,if_true]
   by_cases h:i < 0
   .simp only[h,if_true] <;> omega
   .simp only[h,if_false] <;> omega
 .cases d with
  |none=>dsimp [X0,HT.dg]
  |some i =>
   simp[X0,HT.dg,getD_none,show(1:Int) > 0 by decide,if_true]
   by_cases h:i < 0
   .simp only[h,if_true] <;> omega
   .simp only[h,if_false] <;> omega
theorem mq(c:Zk)(d e:Zq):slicePick c.toArray d e none=((c.drop (HT.dg c.length 0 d)).take (HT.dg c.length c.length e - HT.dg c.length 0 d)).toArray:=by
 let(f,g,h):=wb d e c.toArray.size
 delta slicePick
 rw[f,g,h];simp only[sliceRange_one,pick_run,á] <;> rfl
def OB(K:Ã):V->Zq->Zq->Hp->VK->Prop:=λx c d H Q=>∃ a e,x=↥a/\gU K H a e/\∀ p,H p=none->Q ↥p (upd H p (.lst (vZ e c d)))
theorem Iy:Oz X (OB X.K):=by
 intro c s d H x v e f g i sl Q I j hs pl k h;let(a,l,rfl,m,q):=h;subst j;let(n,r,o,hz):=I.list m;have p:=r.length;refine#[_,_,slot_list_getitem.lookup,o.isList.typeIs,?_];refine WZ o.isList hs pl k .none ⋯ ?_ (by grind)
 rw[mq,<-p];refine#[↥s.heap.objs.size,_,I.laid   (λb u q=>Â _ q) (Î _) ?_,rfl,q _ (I.aM.fresh (Î _))];exact#[â (ke l g i) hz,_,0,(r.drop _).take _,Ì _ rfl]
theorem wc:bN X (.builtin "len") (λc H Q=>∃ p d,c=[↥p]/\(gU X.K H p d∨dY X.K H p d)/\Q (~~~d.length) H):=by
 intro e s f H c g Q I r h;let(p,d,rfl,i,q):=h;let(u,rfl,j):=vals1 r;subst j;have k:=ka;rcases i with i | i
 .let(l,m,pl,hz):=I.list i;have n:=m.length;exact Calls.call_len_list pl.isList (by simp only[á] <;> omega) #[~~~d.length,H,I.tok _,#[_,by rw[á,n]],q]
 .let(l,m,pl,hz):=I.tuple i;have n:=m.length;exact len_tuple pl (by simp only[á] <;> omega) #[~~~d.length,H,I.tok _,#[_,by rw[á,n]],q]
theorem wd:bN X (.type "list") (λc H Q=>∃ p d,c=[↥p]/\(gU X.K H p d∨dY X.K H p d)/\∀ l,H l=none->Q ↥l (upd H l (.lst d))):=by
 intro f s g H c i Q I r h;let(p,d,rfl,j,q):=h;let(u,rfl,k):=vals1 r;subst k;have m:∀ (v:Zk),Vals d v->d.length<=sizeLine->∀ (x:ö) (y:Nat),(∀ b z,s.heap.get? b=↑z->x.get? b=↑z) ->
   x.get? s.heap.objs.size=↑_->EP X f g Q _ _:=λv A hz x y B e =>
  #[↥s.heap.objs.size,_,I.laid (t':=s.toks) B (Î _) (show bY X.prog X.w _ x _ (.lst d) from#[hz,v,y,A,e]),rfl,q _ (I.aM.fresh (Î _))]
 rcases j with j | j
 .let(v,A,pl,hz):=I.list j;have C:=A.length;let(o,E,F,n,hd):=pl.isList;exact call_list_seq p (.inl rfl) E F hd (λx y B e=>m v A hz x y B e) (by simp_all)
 .let(v,A,pl,hz):=I.tuple j;have C:=A.length;let(o,E,F,n,hd):=pl;exact call_list_seq p (.inr rfl) E F hd (λx y B e=>m v A hz x y B e) (by simp_all)
theorem mr:bN X (.type "tuple") (λc H Q=>∃ p d,c=[↥p]/\((gU X.K H p d/\∀ l,H l=none->Q ↥l (upd H l (.tup d)))∨(dY X.K H p d/\Q ↥p H))):=by
 intro f s g H c i Q I r h;let(p,d,rfl,h):=h;let(u,rfl,j):=vals1 r;subst j;rcases h with ⟨k,q⟩ | ⟨k,q⟩
 .let(m,n,pl,hz):=I.list k;have v:=n.length;refine call_tuple_list pl.isList (λx y=>?_) (by simp_all)
  have z :=I.kept (t':=s.toks) y;exact#[↥x.objs.size,_,
   z.laid  (λb o e=>Â _ e) (Î _) (show bY X.prog X.w _ _ _ (.tup d) from#[hz,m,n,IsTup.new _ _]),rfl,q _ (z.aM.fresh (Î _))]
 .let(m,n,pl,hz):=I.tuple k;exact call_tuple_same pl #[↥p,H,I,rfl,q]
def Rt(K:Ã)(T:String)(x:V)(H:Hp):Prop:=match x with
 |.str _=>T="str"|~~~_=>T="int"
 |↥p=>(T="list"/\∃ c,gU K H p c)∨(T="tuple"/\∃ o,K.lookup p=↑o/\o.cls=.type "tuple"/\o.dict=none) ∨
   (T="dict"/\((∃ d,H p=↑(.dK d))∨∃ d,H p=↑(.dT d)))∨(T="set"/\∃ S n,H p=↑(.set S n))
 |_=>False
theorem ER{T:String}(I:Inv X d σ H s)(r:RelV x v)(ty:Rt X.K T x H) :
  s.TypeIs v T/\∀ a,v=↥a->∃ f,s.heap.get? a=↑f/\f.dict=none:=by
 cases x with
 |str z =>
  let(t,rfl):=r;cases (show T="str" from ty);exact#[typeIs_str s z t,λ_ e=>nomatch e]
 |int i =>
  let(t,rfl):=r;cases (show T="int" from ty);exact#[Xb s i t,λ_ e=>nomatch e]
 |ref p =>
  cases r;rcases ty with ⟨rfl,g,h⟩ | ⟨rfl,o,j,k,hd⟩ | ⟨rfl,j⟩ | ⟨rfl,S,n,j⟩
  .let(l,_,pl,_):=I.list h;refine#[pl.isList.typeIs,λa e=>?_];cases e;let(o,n,e,c,hd,_):=pl;exact#[o,e,hd]
  .refine#[#[o,I.lF p o j,k],λa e=>?_];cases e;exact#[o,I.lF _ o j,hd]
  .have z:∃ o,s.heap.get? p=↑o/\o.ExactDict:=by
    rcases j with ⟨m,j⟩ | ⟨m,j⟩
    .let(_,_,_,_,o,_,_,e,ex,_):=I.aM p _ j;exact#[o,e,ex]
    .let(_,_,_,_,o,_,_,e,ex,_):=I.aM p _ j;exact#[o,e,ex]
   let(o,e,ex):=z;refine#[#[o,e,ex.1],λa q=>?_];cases q;exact#[o,e,ex.2.1]
  .let(o,_,_,_,e,ex,_):=I.aM p _ j;refine#[#[o,e,ex.1],λa q=>?_];cases q;exact#[o,e,ex.2.1]
 |_=>exact ú ty
def Ru(K:Ã)(T:String)(r:V->⇑V->Hp->VK->Prop)(c:TE):TE:=λd H Q=>c d H λx e=>Rt K T x e/\r x [] e Q
def Rv(K:Ã)(T:String)(r:V->⇑V->Hp->VK->Prop)(c:TE)(t:TA):TE:=λd H Q=>c d H λx e=>Rt K T x e/\t d e λf g=>r x f g Q
variable {o e:Ö}{es:Zm}{to:TE}{t:TA}{name:Str}{apos cpos:Pos}{T id:String}{r:V->⇑V->Hp->VK->Prop}
theorem LJ(c:PlainAttrs T)(d:Slot T name id)(f:typeOf (.builtin id)=pure (.type "method_descriptor"))(g:OA X id r)(i:PE X o to)
  (j:attributeBase o name X.env (eval o X.env)=eval o X.env:=by rfl) (k:(apos.endLine == cpos.line)=true:=by rfl):PE X (.Call (.Attribute o name apos) [] [] cpos) (Ru X.K T r to):=by
 intro l s m H Q I h;refine wpAny_Call_method0_late j k (bQ (i l s m H _ I h) λv s1 #[x,H1,n,p,ty,q]=>?_);let(u,y):=ER n p ty;exact#[T,id,c,d,f,u,y,Calls.callWith_builtin rfl (PySem.evalArgs_none (g l s1 m H1 x [] v [] Q n p .nil q))]
theorem uO(c:PlainAttrs T)(d:Slot T name id)(f:typeOf (.builtin id)=pure (.type "method_descriptor"))(g:OA X id r)(i:PE X o to)(j:PA X (e::es) t)
  (k:attributeBase o name X.env (eval o X.env)=eval o X.env:=by rfl)
  (l:((backTo cpos (Ul (e::es) X.env)).all (λx=>!x.1)&&(backToKw cpos (keywordEach [] X.env)).all (λx=>x.1.isSome)
   &&decide ((e::es).length + ([]:⇑Keyword).length + (if ([]:⇑Keyword).isEmpty then 0 else 1) < 30))=true:=by rfl)
  (m:(apos.endLine == cpos.line)=true:=by rfl) (hs:Ul (e::es) X.env=(false,eval e X.env)::Ul es X.env:=by rfl) (n:(backTo cpos (Ul es X.env)).any (·.1)=false:=by rfl) :
  PE X (.Call (.Attribute o name apos) (e::es) [] cpos) (Rv X.K T r to t):=by
 intro p s q H Q I h;refine wpAny_Call_method_late k l m rfl (bQ (i p s q H _ I h) λv s1 #[x,H1,u,y,ty,z]=>?_);let(A,B):=ER u y ty;refine#[T,id,c,d,f,A,B,?_];have C:=j cpos p s1 q H1 _ u z;rw[hs] at C ⊢;refine Calls.callWith_builtin (by show(false || (backTo cpos _).any _)=false;rw[n] <;> rfl) (Calls.evalArgs_plain ?_)
 exact bQ C λus s2 #[E,F,G,J,L]=>g p s2 q F x E v us Q G y J L
end
def Rw(X:Cx)(a:String)(r:V->⇑V->Hp->VK->Prop):Prop :=
 ∀ (b:⇑(È × Obj)) (s:Ç) (c:St) (H:Hp) (x:V) (d:⇑V) (v:Ä) (e:Zk) (Q:VK),Inv X b c H s->RelV x v->Vals d e->r x d H Q ->
  Ü (ß X.prog X.w) X.A (call (.builtin a) (v::e)) (EP X b c Q) X.xe s
theorem Vals.one:∀ {x:V}{a:Zk},Vals [x] a->∃ u,a=[u]/\RelV x u:=by
 intro x a h;cases h with
 |cons r t=>cases t;exact#[_,rfl,r]
theorem Vals.eraseIdx:∀ {a:⇑V}{b:Zk} (i:Nat),Vals a b->Vals (a.eraseIdx i) (b.eraseIdx i)
 |_,_,_,.nil=>.nil|_,_,0,.cons _ t=>t|_,_,i + 1,.cons r t=>.cons r (Vals.eraseIdx i t)
theorem Vals.reverse(h:Vals xs us):Vals xs.reverse us.reverse:=by
 induction h with
 |nil=>exact .nil|cons r t a=>rw[Y9,Y9];exact Vals.append a (.cons r .nil)
theorem Vals.rep(h:Vals xs us):∀ k:Nat,Vals (ì k xs).flatten (ì k us).flatten
 |0=>.nil
 |k + 1=>by
  exact Vals.append h (Vals.rep h k)
theorem foldl_rep(a:Zk):∀ (k:Nat) (b:Zk),
  foldl (λc d=>c++d) b.toArray (ì k a.toArray)=(b++(ì k a).flatten).toArray
 |0,b=>⋯
 |k + 1,b=>by
  rw[<-(by
   rw[Wt,flatten_cons,Vt]:(b++a)++(ì k a).flatten=b++(ì _ a).flatten),<-foldl_rep a k _,<-(⋯:b.toArray++a.toArray=(b++a).toArray),Wt,foldl_cons]
section
variable {X:Cx}{aa:⇑(È × Obj)}{σ:St}{H:Hp}{s:Ç}{l b:È}{xs ys zs:⇑V}
theorem Inv.oZ{ar its':Zk}(I:Inv X aa σ H s)(a:H l=↑(.lst xs))
  (e:s.heap.get? l=↑{ cls:=.type "list",data:=.seq ar.toArray n }) (c:f ar.toArray=its'.toArray) (d:Vals ys its') (hz:ys.length<=sizeLine) :
  Inv X aa σ (upd H l (.lst ys)) { s with heap:=s.heap.update l (Ut f),toks:=t' }:=by
 have q:=PySem.IsL.update e f;rw[c] at q;apply I.write   (by rw[a];exact trivial) (.inl rfl) (λg u h i=>(W7 s.heap _ (ñ h)).trans i) #[_,q]
 exact#[hz,its',_,d,q]
theorem Inv.Dc{t':Nat}(I:Inv X aa σ H s)(a:Vals ys ar)(hz:ys.length<=sizeLine) :
  Inv X aa σ (upd H s.heap.objs.size (.lst ys)) { s with heap:=s.heap.push { cls:=.type "list",data:=.seq ar.toArray },toks:=t' } :=
 I.laid (λ_ _ q=>Â _ q) (Î _) #[hz,ar,0,a,Ì _ rfl]
theorem Inv.fresh(I:Inv X aa σ H s):H s.heap.objs.size=none:=I.aM.fresh (Î _)
theorem Inv.wg(I:Inv X aa σ H s)(a:H l=↑(.lst xs)):xs.length<=sizeLine/\∃ (ar:Zk) (n:Nat),Vals xs ar/\xs.length=ar.length/\s.heap.get? l=↑{ cls:=.type "list",data:=.seq ar.toArray n }:=by
 let(z,ar,n,r,e):=I.aM l _ a;exact#[z,ar,n,r,r.length,e]
theorem yq(h:n<=sizeLine):XN n=false:=by
 exact ZA (_p h)
end
section
variable {X:Cx}
def wj:V->⇑V->Hp->VK->Prop:=λx a H Q=>∃ l b y,x=↥l/\a=[y]/\H l=↑(.lst b)/\b.length < sizeLine/\Q .cD (upd H l (.lst (b++[y])))
theorem iW:Rw X "list.append" wj:=by
 intro a s b H x c v d Q I f g h;let(l,i,y,rfl,rfl,j,hz,q):=h;subst f;let(u,rfl,k):=g.one;let(z,m,n,r,o,e):=I.wg j;refine UU F.slot_list_append #[_,e,rfl] F.entry_list_append (F.args_list_append_2 _ _) (PySem.list_append l m.toArray n u (by grind)) #[e,?_]
 refine#[.cD,_,I.oZ  j e ⋯ (r.append (.cons k .nil)) ?_,rfl,q]
 grind
def OC:R2:=λx y H Q=>∃ l b a c,x=↥l/\y=↥b/\H l=↑(.lst a)/\H b=↑(.lst c)/\a.length + c.length<=sizeLine/\∀ p,H p=none->Q ↥p (upd H p (.lst (a++c)))
theorem Av:gS X (UT .Add) OC:=by
 intro a s c H x y v u Q I d f h;let(l,b,g,i,rfl,rfl,j,k,hz,q):=h;cases d;cases f;let(z,m,n,r,o,e):=I.wg j;let(p,A,n2,B,C,E):=I.wg k;refine Yn e E ?_ (by simp_all)
 rw[(⋯:m.toArray++A.toArray=(m++A).toArray)];exact#[↥_,_,I.Dc  (r.append B) (by simp_all),rfl,q _ I.fresh]
theorem len_rep{a:Type}(b:⇑a)(k:Nat):(ì k b).flatten.length=k * b.length:=⋯
end
end L2
namespace Att
open PySem PySem.W PySem.Calls PyProof.Rows
theorem jK:∀ (c:Zi) (d:Zk),WellAll P h d (c.map WData.int)->Wu d c:=by
 intro c
 induction c with
 |nil =>
  intro d w;cases w;exact .nil
 |cons n c e =>
  intro d w;cases w with
  |cons a b =>
   cases a;exact .cons _ _ (e _ b)
theorem De{l:OpenLaw}{n:Nat}(b:l.most=↑n){P:Params}{h:ö}{args:⇑WData}{c:Zk}
  (e:l.row.toRowW.claim.pre args) (f:WellAll P h c args) :
  ∃ a g i,c=[tv a]/\args=[WData.list (i.map WData.int)]/\h.get? a=↑{ cls:=.type "list",data:=.seq g.toArray }/\Wu g i/\i.length<=n:=by
 let(d,r,rfl,m,o):=hasAllW_cons ((pre_splitW e).1);obtain rfl:=hasAllW_nil o;let(p,rfl,q):=hasW_list m;let(i,rfl):=items_int q;cases f with
 |cons w1 w2 =>
  cases w2;cases w1 with
  |list x y=>exact#[_,_,i,rfl,rfl,x,jK i _ y,by
  have v:=condW_of (by
   have u:=(holds_andW ((pre_splitW e).2)).1;rw[b] at u;exact u) (w_not (w_lt w_lit (w_len_list (w_arg rfl))))
  grind]
theorem Dg(l:OpenLaw)(args:⇑WData):l.row.toRowW.claim.post args (.bool true) args=true :=
 postW_of
  (show WShape.has [] _ _=true by first | rfl | decide | grind)
  (show(WTm.eq _ _).value [] _=↑_ from w_eq_bool (w_res rfl) w_lit) rfl
theorem yt{l:OpenLaw}{n:Nat}{q:å}{loose:Zj}{b:(Str->Zn)->ö->Prop}{c:î->ö->Prop}{d:DefRec}
  (e:l.most=↑n) (g:d.params.defaults=[])
  (call:∀ (w:î) (h i:Ç) (j k:Str->Zn) (m:È) (o:Obj) (p s u:Ä) (a:È) (v:Zk) (x:Zi),
   Ground q loose [] b w h j k i.heap->c w i.heap ->
   i.heap.get? m=↑o->o.data=.func (docDef d.name d.params d.body d.scope p s u)->i.heap.CodeRec s d.name->j d.name=↑↥m ->
   i.heap.get? a=↑{ cls:=.type "list",data:=.seq v.toArray }->Wu v x->x.length<=n->i.gens=[].toArray ->
   W5 (ß l.prog w) XY (.call ↥m #[[↥a],[]]) (λr y=>r=.ok (.ret (.bool true))/\OldK i.heap y.heap/\y.os=i.os/\Xz y.gens) i) :
  WalkO q loose b c l.row.toRowW d [] (λf v=>PySem.call f v):=by
 intro w h i j k G Y m o p s u z kV A hd B C E F args H as I J K L N;obtain rfl:z=.none:=Dflts.none C g;obtain rfl:kV=.none:=Dflts.noKw C;let(a,v,x,rfl,rfl,P,U,X):=De e I L;refine enter_call (U4 (call w h i j k m o p s u a v x G Y A (fd_plain hd) B E P U X F) λr y hq=>?_);let(rfl,h2,h3,h4):=hq;exact#[.inl #[_,_,[],rfl,λ_=>rfl,.bool true,Dg l _,λ_=>#[List.Pairwise.nil,λ_ hm=>(nomatch hm)]],h2,h3,h4]
end Att
namespace L2
open PySem PySem.Spec PyProof.Rows
theorem pb:∀ {a:Zk}{b:Zi},Wu a b->Vals (b.map V.int) a
 |_,_,.nil=>.nil|_,_,.cons n t h=>.cons #[t,rfl] (pb h)
def qD(s:Uv):Arguments:=match s with
 |.FunctionDef _ a _ _ _ _ _ _ _ _=>a|_=>{ posonlyargs:=[],args:=[],vararg:=none,kwonlyargs:=[],kw_defaults:=[],kwarg:=none,defaults:=[] }
def eQ(s:Uv):⇑Stmt:=match s with
 |.FunctionDef _ _ b _ _ _ _ _ _ _=>b|_=>[]
def bo(s:Uv):Scope:=match s with
 |.FunctionDef _ _ _ _ _ _ a _ _ _=>a|_=>{ kind:=.function,names:=[],isGenerator:=false,isCoroutine:=false }
abbrev yu:Ej:=λ_ _ _ _ _ _=>False
structure ES(K:PySem.W.Frag)(x qual:Str)(st:Stmt)(f:Addr)(fd:FuncData):Prop where
 ex:∃ (oc:Value) (od:Option Addr) (kV doc pm:Value) (an:Option Addr) (cdv ct:Value) (osl:Array (Option Value)),
  fd=fnOf x qual (qD st) (eQ st) (bo st) .none kV doc pm an cdv ct/\K.lookup f=↑⟨oc,od,.func fd,osl⟩/\PySem.W.codeIn K cdv qual=true
 kp:PySem.W.keepIn K ↥f=true
section
variable {P:å}{w:î}{K:Ã}{mg:Str->Zn}{base:ö}
theorem ES.binds{x a:Str}{b:Uv}{f:È}{fd:UA}{c:Zj}(F:ES K x a b f fd)
  (h:∀ (kV d e:Ä) (g:Zl) (i j:Ä) (k:Zk),k.length=c.length->bindArgs (fnOf x a (qD b) (eQ b) (bo b) .none kV d e g i j) #[k,[]]=pure (c.zip k)):Binds K fd c []:=by
 let(l,m,kV,d,e,g,i,j,n,rfl,o,p):=F.ex;exact .all (h kV d e g i j)
end
section
variable {X:Cx}
theorem pv(i:Nat){pos:Pos}(a:X.N[i]?=↑x:=by rfl)(b:Bq X.env.scope x:=by first | exact XC rfl | exact YK (XC rfl) | exact YK (YK rfl))(hd:(x == ("__debug__":Str))=false:=by decide)
  (c:(x == ("__classdict__":Str))=false:=by decide):PE X (.Name x pos) (yk i):=cg a b hd c
end
theorem Rx{A B:Prop}(h:B):if false=true then A else B:=by simp_all
theorem Ry{c A B:Prop}[Decidable c](a:c->A)(b:¬ c->B):if c then A else B:=by simp_all
def ae(H a:Hp):Prop:=∀ b o,H b=↑o->a b=↑o
theorem ae.refl(H:Hp):ae H H:=λ_ _ h=>h
theorem ae.trans(a:ae H H1)(b:ae H1 d):ae H d:=λc o h=>b c o (a c o h)
end L2
set_option maxHeartbeats 4000000
namespace BB
theorem b2{a b:Bool}{P:Prop}(h:(a&&b))(k:a->b->P):P:=by grind
theorem b3{a b c:Bool}{P:Prop}(h:(a&&b&&c))(k:a->b->c->P):P:=b2 h λh=>b2 h k
theorem b4{P:Prop}(h:(a&&b&&c&&d))(k:a->b->c->d->P):P:=b2 h λh=>b3 h k
theorem b5{a b c d e:Bool}{P:Prop}(h:(a&&b&&c&&d&&e))(k:a->b->c->d->e->P):P:=b2 h λh=>b4 h k
theorem b6{a b c d e f:Bool}{P:Prop}(h:(a&&b&&c&&d&&e&&f))(k:a->b->c->d->e->f->P):P:=b2 h λh=>b5 h k
theorem b7{a b c d e f g:Bool}{P:Prop}(h:(a&&b&&c&&d&&e&&f&&g))(k:a->b->c->d->e->f->g->P):P:=b2 h λh=>b6 h k
theorem b8{a b c d e f g i:Bool}{P:Prop}(h:(a&&b&&c&&d&&e&&f&&g&&i))(k:a->b->c->d->e->f->g->i->P):P:=b2 h λh=>b7 h k
end BB
namespace L2
open PySem
abbrev Iz:Ä->Ç->Prop:=λ_ _=>False
theorem qE(a:Env):∀ (b:⇑(Str × Wn)) (d:⇑(Str × È)),(∀ y∈b,y.2=.free->∃ c,a.cells.lookup y.1=↑c)->(∀ x c,d.lookup x=↑c->a.cells.lookup x=↑c) ->
  ∃ f:⇑(Str × È),(forIn b d λ(x:Str × Wn) (r:⇑(Str × È))=>(if (x.2 == .free)=true then do let c <-cellOf a x.1;pure (ï ((x.1,c)::r)) else pure (ï r):Sem (ForInStep ⇑(Str × È))))=pure f /\
   (∀ x c,f.lookup x=↑c->a.cells.lookup x=↑c)/\(∀ x c,d.lookup x=↑c->∃ g,f.lookup x=↑g)/\(∀ y∈b,y.2=.free->∃ c,f.lookup y.1=↑c)
 |[],d,_,h=>#[d,⋯,h,λx c e=>#[c,e],λy i=>absurd i ⋯]
 |(n,k)::r,d,j,h=>by
  by_cases l:k=.free
  .subst l;let(c,m):=j _ Í rfl;have o:cellOf a n=pure c:=by delta cellOf;rw[m]
   let(f,e,p,q,s):=qE a r _ (λy i=>j y (É _ i)) (λx g e=>by
    rw[UE] at e;by_cases u:(x == n)=true
    .rw[u] at e;have :=by simpa using u
     subst this;cases e;exact m
    .rw[show(x == n)=false by simpa using u] at e
     exact h x g e)
   refine#[f,?_,p,λx g v=>?_,λy i z=>?_]
   .simp_all
   .by_cases u:(x == n)=true
    .exact q x c (by rw[UE,u])
    .exact q x g (by rw[UE,show(x == n)=false by simpa using u];exact v)
   .rcases ã.mp i with rfl | i
    .exact q n c ⋯
    .exact s y i z
  .let(f,e,p,q,s):=qE a r d (λy i=>j y (É _ i)) h;refine#[f,?_,p,q,λy i z=>?_]
   .rw[XB];have A:((k == ü)=true)=False:=by simpa using l
    simp only[A,if_false,pure_bind];exact e
   .rcases ã.mp i with rfl | i
    .exact absurd z l
    .exact s y i z
theorem wk(a:∀ y∈scope.names,y.2=.free->∃ c,env.cells.lookup y.1=↑c) :
  ∃ b:⇑(Str × È),closureFor scope env=pure b/\(∀ x c,b.lookup x=↑c->env.cells.lookup x=↑c)/\(∀ y∈scope.names,y.2=.free->∃ c,b.lookup y.1=↑c):=by
 let(b,e,d,_,f):=qE env scope.names [] a (λx c e=>by simp at e)
 refine#[b,?_,d,f];exact(congrArg (λt=>t >>= λr=>(pure r:Sem _)) e).trans ⋯
section
variable {P:å}{w:î}{A:þ}{R:Result->Ç->Prop}{s:Ç}
theorem Dh(J:Nat->Ç->Prop)
  (a:∀ n s,J n s->Ü (ß P w) A (pyNext b) (λr s1=>match r with
   |none=>R (.ok .next) s1
   |↑v=>Ü (ß P w) A (letOwnedTupleGo d b v) (λ_ e=>Ü (ß P w) A (assign d f v) (λ_ g =>
     Ü (ß P w) A (forIn tests true λc r=>if r=true then do let ok <-isTrue c f (eval c f);pure (ï ok) else pure (ï r)) (λok i =>
      if ok=true then Ü (ß P w) A (eval j f) (λx k =>
       Ü (ß P w) A (call (.builtin "list.append") [l,x]) (λ_ o=>∃ m,m < n/\J m o) Iz k) Iz i
      else ∃ m,m < n/\J m i) Iz g) Iz e) Iz s1) Iz s)
  (n:Nat) (h:J n s) :
  W5 (ß P w) A (.compLoop (.ListComp j [#[d,src,tests,0]] sc p) 0 b l f) R s:=by
 refine codeAny_loop rfl J (λn s q=>?_) n h;apply wpAny_noted;rw[compTurn_list];refine À (wpAny_standAt (À (UQ (a n s q) (λr s1 u=>?_) λ_ _ x=>x.elim)));cases r with
 |none=>exact Å u
 |some v =>
  refine À (UQ u (λ_ e y=>?_) λ_ _ x=>x.elim);refine À (UQ y (λ_ g z=>À (UQ z (λok i B=>?_) λ_ _ x=>x.elim)) λ_ _ x=>x.elim);cases ok with
  |false=>exact Å #[rfl,B]|true=>exact À (À (UQ B (λx k C=>À (UQ C (λ_ o E=>Å (Å #[rfl,E])) λ_ _ x=>x.elim)) λ_ _ x=>x.elim))
end
open PySem PySem.Spec PyProof.Rows
abbrev aX(X:Cx)(a:Zj)(b:ò)(c:⇑(Str × È))(C:È)(s:Ç)(H:Hp)(d:Zo):Cx :=
 { X with N:=a,s₀:=s,H₀:=H,env:=compEnvC b c C X.env,outer:=X.stack,stack:=X.stack,ex:=d,fn:=λ_=>false,pn:=[],xe:=Iz }
def aT(own:Zj)(a:⇑(Str × Nat)):Zj:=own++a.map (·.1)
def ff(own:Zj)(a:⇑(Str × Nat))(b:St):St:=own.map (λ_=>none)++a.map λp=>(b[p.2]?).getD none
structure fq(X:Cx)(sc:Scope)(own:⇑Str)(aj:⇑(Str × Nat)):Prop where
 kind:sc.kind=.function
 nocell:∀ y∈sc.names,y.2≠.cell
 locs:∀ y∈sc.names,y.2=.local->sc.names.lookup y.1=↑.local
 frees:∀ y∈sc.names,y.2=.free->X.env.kindOf y.1=↑.cell∨X.env.kindOf y.1=↑.free
 captd:∀ p∈aj,X.N[p.2]?=↑p.1/\sc.names.lookup p.1=↑.free
theorem nH{a:Env}:∀ {b:⇑(Str × Wn)}{x:Str}{k:Wn},
  (b.map λ(n,k)=>if (k == ü&&a.scope.kind == .function&&a.kindOf n == ↑.cell) then(n,U5) else(n,k)).lookup x=↑k->(k=.cell∨k=.free)->(∀ y∈b,y.2≠.cell)->(x,ü)∈b
 |[],_,_,h,_,_=>by simp at h
 |(n,c)::r,x,k,h,d,e=>by
  have h:V3 x ((if (c == ü&&a.scope.kind == .function&&a.kindOf n == ↑_)=true then(n,U5) else(n,c))::_)=↑k:=h;cases f:x == n with
  |true =>
   grind
  |false =>
   exact É _ (nH (by
    by_cases i:(c == ü&&a.scope.kind == .function&&a.kindOf n == ↑.cell)=true
    .rw[Zv i] at h;simp only[UE,f] at h;exact h
    .rw[Zw i] at h;simp only[UE,f] at h;exact h) d λy j=>e y (É _ j))
theorem gC{env:Env}:∀ {a:⇑(Str × Wn)}{x:Str},a.lookup x=↑.free ->
  (a.map λ(n,k)=>if (k == ü&&env.scope.kind == .function&&env.kindOf n == ↑.cell) then(n,U5) else(n,k)).lookup x=↑.cell ∨
  (a.map λ(n,k)=>if (k == ü&&env.scope.kind == .function&&env.kindOf n == ↑.cell) then(n,U5) else(n,k)).lookup x=↑.free
 |[],_,h=>by simp at h
 |(n,k)::r,x,h=>by
  have b:=@gC env r x;show V3 x ((if (k == ü&&env.scope.kind == .function&&env.kindOf n == ↑_)=true then(n,U5) else(n,k))::_)=_∨V3 x ((if (k == ü&&env.scope.kind == .function&&env.kindOf n == ↑_)=true then(n,U5) else(n,k))::_)=_;cases c:x == n with
  |true =>
   simp[UE,c] at h;cases h;by_cases d:(ü == ü&&env.scope.kind == .function&&env.kindOf n == ↑.cell)=true
   .rw[Zv d];left;simp only[UE,c]
   .rw[Zw d];right;simp only[UE,c]
  |false =>
   simp[UE,c] at h;by_cases d:(k == ü&&env.scope.kind == .function&&env.kindOf n == ↑.cell)=true
   .rw[Zv d];simp only[UE,c];exact b h
   .rw[Zw d];simp only[UE,c];exact b h
theorem jm.BE{w:î}{D:È}{ar:Zk}(x:jm P w H h)(a:H D=none)(d:Vals f ar)(hz:f.length<=sizeLine)
  (g:h.get? D=↑{ cls:=.type "list",data:=.seq ar.toArray n }):jm P w (upd H D (.lst f)) h:=λb u e=>by
 by_cases i:b=D
 .subst i;rw[ao] at e;cases e;exact#[hz,ar,n,d,g]
 .rw[ag i] at e;exact(x b u e).iR (λc v _ q=>q) (λc q=>by rw[ag (ax q a)];exact q) λc j q=>by rw[ag (ax q a)];exact q
def KD(X:Cx)(a:Zm)(t:TT):Prop :=
 ∀ (b:⇑(È × Obj)) (s:Ç) (d:St) (H:Hp) (Q:Bool->Hp->Prop),Inv X b d H s->t d H Q ->
  Ü (ß X.prog X.w) X.A (forIn a true λc r=>if r=true then do let ok <-isTrue c X.env (eval c X.env);pure (ï ok) else pure (ï r)) (TP X b d Q) X.xe s
def nJ:TT:=λ_ H Q=>Q true H
theorem nK:KD X [] nJ:=λ_ _ _ H _ I h=>wpAny_tests_nil #[H,I,h]
theorem BF(a:PT X c t):KD X [c] t:=λb s d H Q I h=>wpAny_tests_one (a b s d H Q I h)
section
variable {X:Cx}{aa:⇑(È × Obj)}{σ:St}{H2:Hp}{s2:Ç}{sc:ò}{own:Zj}{aj:⇑(Str × Nat)}{cl:⇑(Str × È)}{fp:Zo}{C:È}
theorem uQ(I:Inv X aa σ H2 s2)(S:fq X sc own aj)(a:∀ x c,cl.lookup x=↑c->X.env.cells.lookup x=↑c)(b:∀ y∈sc.names,y.2=.free->∃ c,cl.lookup y.1=↑c)
  (d:∀ x c,X.env.cells.lookup x=↑c->c ∉ fp)  (un:∀ c o,s2.heap.get? c=↑o->H2 c=none->c ∉ fp->∃ sl,e.get? c=↑{ o with slots:=sl }) (m:Str->Zn) :
  ∀ (i:Nat) (x:Str) (v:V),(aT own aj)[i]?=↑x->(ff own aj σ)[i]?=↑↑v->∃ u,RelV v u/\Look (compEnvC sc cl C X.env) e m x u:=by
 intro i x v f g
 delta aT at f
 delta ff at g
 by_cases h:i < own.length
 .rw[VI (by simp_all)] at g
  simp_all
 .rw[Uz (by simp_all),Æ,Ú] at g
  rw[Uz (by simp_all),Ú] at f
  cases q:aj[i - own.length]? with
  |none=>rw[q] at f;cases f
  |some p =>
   rw[q] at f g;obtain rfl:p.1=x:=í f;have j:(σ[p.2]?).getD none=↑v:=í g;let(l,n):=S.captd p (Û q);have s :=ä n;have A:=S.frees _ s rfl;let(B,_,E):=I.loc;have F:Bq X.env.scope p.1:=.inr A;let(u,r,G):=E p.2 p.1 v l (by
    cases z:σ[p.2]? with
    |none=>rw[z] at j;cases j
    |some w=>rw[z] at j;exact congrArg some j) F;refine#[u,r,.inr #[?_,?_]]
   .exact gC n
   .rcases G with ⟨H,_⟩ | ⟨_,c,J,o,K,hd⟩
    .rcases A with A | A <;> (rw[A] at H;cases H)
    .let(L,N):=b _ s rfl;have:=a _ _ N;rw[J] at this;cases this;let(sl,P):=un c o K (I.freeC _ _ J) (d _ _ J);exact#[c,N,_,P,hd]
end
def IA(X:Cx)(a:⇑(È × Obj))(b:St)(R:V->Hp->Prop)(c:Ä)(C:È)(d:Ç):Prop :=
 ∃ D e f,c=↥D/\Inv X a b e d/\j9 X a e C/\d.heap.Ns C f/\R ↥D e
def rl(J:It)(a:St)(c:Hp)(g:TG)(d:TT)(e:TE)(Q:VK):Prop:=∃ W:Nat->Nat->⇑V->Hp->Prop,(∃ m,W 0 m [] c)/\∀ i m f H,W i m f H ->
 (J.stop i H/\∀ p,H p=none->Q ↥p (upd H p (.lst f))) ∨
 (J.go i H/\f.length < sizeLine/\∃ N:⇑V->Hp->Prop,(∀ h j,N h j->∃ k,k < m/\W (i + 1) k h j)/\∀ x j,J.yld i H x j->g x a j λl n=>d l n λb o =>
  if b=true then e l o (λy q=>N (f++[y]) q) else N f o)
def BG(own:Zj)(a:⇑(Str × Nat))(b:TI)(g:TG)(c:TT)(d:TE):TE:=λe H Q=>b e H λJ f=>rl J (ff own a e) f g c d Q
section
variable {X:Cx}{aa:⇑(È × Obj)}{σ:St}{H2:Hp}{s2:Ç}{sc:ò}{own:Zj}{aj:⇑(Str × Nat)}{cl:⇑(Str × È)}{el tg src:Ö}{tests:Zm}{ps:Pos}{g:TG}{tt:TT}{te:TE}
theorem mK(hc:X.calm)(S:fq X sc own aj)(a:∀ x c,cl.lookup x=↑c->X.env.cells.lookup x=↑c)(hcf:∀ y∈sc.names,y.2=.free->∃ c,cl.lookup y.1=↑c)
  (hg:∀ C s H d,PG (aX X (aT own aj) sc cl C s H d) tg g) (ht:∀ C s H d,KD (aX X (aT own aj) sc cl C s H d) tests tt) (he:∀ C d,(∀ b∈d,j9 X aa H2 b)->PE (aX X (aT own aj) sc cl C s2 H2 d) el te)
  {it:È}{d:Zo}{tn:Nat->ö->Prop}{J:It} (f:Inv X aa σ H2 s2) (T:Turn X.prog X.w X.K tg J d it tn) (st2:tn 0 s2.heap) (f2:∀ b∈d,j9 X aa H2 b)
  {R:VK} (h:rl J (ff own aj σ) H2 g tt te R) {RR:Ä->È->Result->Ç->Prop} (hRR:∀ j C l,IA X aa σ R j C l->RR j C (.ok .next) l) {E:Ä->Ç->Prop} :
  Ü (ß X.prog X.w) X.A (newList []) (λj s3=>Ü (ß X.prog X.w) X.A (newFunctionEnv sc X.env.globals cl [] X.env.qual none .none ↑X.env) (λce s4 =>
   W5 (ß X.prog X.w) X.A (.compStart (.ListComp el [#[tg,src,tests,0]] sc ps) 0 ↥it j { ce with scope:=relabel sc X.env }) (RR j ce.locals) s4) E s3) E s2:=by
 obtain⟨W,⟨m0,w0⟩,turn⟩:=h;refine Uj (wpAny_newFunctionEnv S.nocell (by simp) (λh1 hns1 hsb1=>?_) S.kind)
 generalize hH3:s2.heap.push _=B at hns1 hsb1 ⊢;have hC:B.objs.size=s2.heap.objs.size + 1:=by rw[<-hH3,Wy]
 have F:∀ b,b < s2.heap.objs.size->b≠B.objs.size/\b≠s2.heap.objs.size:=λb G=>#[Ù (Ò G (_q (Y5 (_b hC)))),Ù G]
 have hDC:=Ù (_E (Y5 (_b hC)))
 have I :=λb o e=>hsb1.extBut b o (F b (à e)).1 (Â _ (hH3 ▸ Â _ e));have fpLt:∀ b∈d,b < s2.heap.objs.size:=λb G=>by
  let(o,e,_):=T.obj _ _ st2 b G;exact à e
 have L :=λx c e G=>(f2 c G).2.2.2.2.1 x c e rfl;have fpFr:∀ b∈d,b ∉ eM X.stack:=λb G hf=>by
  rcases ã.mp (f.Ak b hf) with z | z
  .exact(f2 b G).2.1 z
  .exact(f2 b G).2.2.1 z
 have reset:∀ {pl:⇑(È × Obj)}{σ':St}{P:Hp}{l:Ç},Inv _ pl σ' P l->Inv (aX X (aT own aj) sc cl B.objs.size s2 H2 d) pl _ P l:=λ{pl σ' P l} U=>by
  let(m,hn,_):=U.loc;refine#[U.ok,U.os,U.bare,U.base,#[m,hn,λi x v e1 e2 _=>uQ f S a hcf L (λc o q n hx=>U.base.any q n hx) m i x v e1 e2],U.cell,U.free,U.freeC,U.pin,U.aM,?_];simp[ff,aT]
 have start:Inv (aX X (aT own aj) sc cl B.objs.size s2 H2 d) [(s2.heap.objs.size,{ cls:=.type "list",data:=.seq ([]:Zk).toArray 0 })] (ff own aj σ) H2 { s2 with heap:=h1,toks:=s2.toks + ([]:⇑(Str × Ä)).length }:=by
  refine#[by
  refine#[f.ok.mod,S.kind,f.ok.glob,f.ok.blt,(by exact _q (Y5 (_b hC))),λx y c e1 e2=>f.ok.inj x y c (a x c e1) (a y c e2),λx hx=>?_,λx c hx=>(by cases hx),f.ok.hd,f.ok.frames,.inl rfl,
   λb G=>#[(F b (fpLt b G)).1,λx c e z=>L x c (a x c e) (z ▸ G)],f.bs,â f.ok.bsz f.sz,λb o e G=>?_,fpFr,f.stack,f.gv]
  .have hx':(x,ü)∈sc.names:=by
    rcases hx with hx | hx
    .exact nH hx (.inl rfl) S.nocell
    .exact nH hx (.inr rfl) S.nocell
   exact hcf _ hx' rfl
  .rcases (f2 b G).2.2.2.1 with z | z
   .exact f.ok.noex b o e z
   .have l1:b < X.base.objs.size:=à e;have l2:X.base.objs.size<=X.s₀.heap.objs.size:=f.ok.bsz;have l3:X.s₀.heap.objs.size<=b:=z;exact absurd l1 (Nat.not_lt.mpr (â l2 l3)),rfl,f.bare,Un.kept I,#[_,hns1,λi x v e1 e2 _=>uQ f S a hcf L (λc o q _ _=>#[o.slots,I c o q]) _ i x v e1 e2],λx c e=>?_,?_,λx c e=>f.freeC x c (a x c e),λp Y=>?_,f.aM.kept I,?_]
  .let(v,q):=f.cell x c (a x c e);exact#[v,q.keeps I]
  .exact f.aM.fresh (by show s2.heap.objs.size<=B.objs.size;exact _q (Y5 (_b hC)))
  .have hp':p=(s2.heap.objs.size,{ cls:=.type "list",data:=.seq ([]:Zk).toArray 0 }):=by simpa using Y
   subst hp';exact#[hsb1.extBut _ _ hDC (Â _ (hH3 ▸ Ì _ rfl)),f.aM.fresh (Î _),hDC,λz=>Ui _ ((λb G=>by
  let(_,o,q,_):=f.stack.mem G;exact à q:∀ b∈eM X.stack,b < s2.heap.objs.size) _ z),λv z=>by cases z]
  .show(ff own aj σ).length=(aT own aj).length;simp[ff,aT]
 have mI:∀ {pl:⇑(È × Obj)}{P:Hp},(∀ p∈pl,p.1 ∉ d)->(∀ b∈d,P b=none)->∀ b∈d,j9 (aX X (aT own aj) sc cl B.objs.size s2 H2 d) pl P b:=λ{pl P} Y hn b G =>
  #[hn b G,(F b (fpLt b G)).1,fpFr b G,.inl G,λx c e z=>L x c (a x c e) (z ▸ G),λp hpp z=>Y p (hpp) (z ▸ G)]
 have hDfp:s2.heap.objs.size ∉ d:=λz=>Ui _ (fpLt _ z);have loop:∀ s3:Ç,s3={ s2 with heap:=h1,toks:=s2.toks + ([]:⇑(Str × Ä)).length } ->
   W5 (ß X.prog X.w) X.A (.compLoop (.ListComp el [#[tg,src,tests,0]] sc ps) 0 ↥it ↥s2.heap.objs.size (compEnvC sc cl B.objs.size X.env)) (RR ↥s2.heap.objs.size B.objs.size) s3:=by
  rintro s3 rfl;refine Dh (λn l=>∃ i ys P ar k,Inv (aX X (aT own aj) sc cl B.objs.size s2 H2 d) [(s2.heap.objs.size,{ cls:=.type "list",data:=.seq (toArray ar) k })] (ff own aj σ) P l/\tn i l.heap/\(∀ b∈d,P b=none)/\Vals ys ar/\ys.length<=sizeLine/\W i n ys P) ?_ m0
   #[0,[],H2,[],0,start,T.keep _ _ _ st2 λb _ o e=>I b o e,λb G=>(f2 b G).1,.nil,Vl _,w0]
  rintro n l ⟨i,ys,P,ar,k,U,st',fr',hv,hz,w'⟩;have pinD:∀ p∈[((s2.heap.objs.size:È),({ cls:=.type "list",data:=.seq (toArray ar) k }:Obj))],p.1 ∉ d:=λp Y=>by
   have hp':p=(s2.heap.objs.size,{ cls:=.type "list",data:=.seq (toArray ar) k }):=by simpa using Y
   subst hp';exact hDfp
  rcases turn i n ys P w' with ⟨stop,q⟩ | ⟨go,hlt,N,hN,step⟩
  .refine bQ (T.done (aX X (aT own aj) sc cl B.objs.size s2 H2 d) rfl rfl rfl hc i _ l _ P Iz U (mI pinD fr') st' stop) λr s1 hr=>?_;let(hr,I1):=hr;subst hr;let(gD,nD,_,_,_):=I1.pin _ (ÿ _ Í);let(m',hn',_):=id I1.loc;have un:Un (eM X.stack) d H2 (upd P s2.heap.objs.size (.lst ys)) s2.heap s1.heap:=by
    have u:=I1.base;have nD2:H2 s2.heap.objs.size=none:=f.aM.fresh (Î _);refine#[u.keep,u.slot,λb o e n hx=>?_,u.there,λb xs e=>?_,λb o xs e=>?_,λb ps' e=>?_]
    .rw[ag (F b (à e)).2];exact u.free b o e n hx
    .rw[ag (ax e nD2)];exact u.tups b xs e
    .rw[ag (ax e nD2)];exact u.frzs b o xs e
    .let(more,e'):=u.tbls b ps' e;exact#[more,by rw[ag (ax e nD2)];exact e']
   have IX:Inv X aa σ (upd P s2.heap.objs.size (.lst ys)) s1:=f.Eo I1.os un (I1.aM.BE nD hv hz gD) I1.bare λb G=>#[(f2 b G).2.2.2.1,(f2 b G).2.1,(f2 b G).2.2.2.2.1,(f2 b G).2.2.2.2.2];refine hRR _ _ _ #[_,_,m',rfl,IX,?_,hn',q _ nD];exact f.mI (_q (Y5 (_b hC))) (by rw[ag hDC.symm];exact I1.free)
  .refine bQ (T.item (aX X (aT own aj) sc cl B.objs.size s2 H2 d) rfl rfl rfl hc i _ l _ P Iz U (mI pinD fr') st' go) λr s1 hr=>?_;let(u,hr,h4):=hr;subst hr;refine bQ h4 λ_ s5 hr5=>?_;let(x,H5,I5,r5,y5,st5,fr5):=hr5;have I5p:=I5.pinned (mI pinD fr5) (T.obj _ _ st5);refine bQ (hg _ _ _ _ _ s5 _ H5 x u _ I5p r5 (step x H5 y5)) λ_ s6 hr6=>?_;let(σ6,H6,I6,q6):=hr6;refine bQ (ht _ _ _ _ _ s6 σ6 H6 _ I6 q6) λok s7 hr7=>?_;let(H7,I7,q7):=hr7;have memFp:∀ {pl:⇑(È × Obj)}{b:È}{o:Obj},b∈d->s5.heap.get? b=↑o->(b,o)∈([]:⇑(È × Obj))++(pl++mJ d s5.heap):=λG e=>ÿ _ (ÿ _ (gB G e));cases ok with
   |false =>
    rw[Zw ê] at q7 ⊢;let(m',hm,w7):=hN _ _ q7;refine#[m',hm,i + 1,ys,H7,ar,k,reset (I7.lG λp Y=>I7.pin p (ÿ _ (Vi _ Y))),T.keep _ _ _ st5 λb G o e=>(I7.pin (b,o) (memFp G e)).1,λb G=>?_,hv,hz,w7];let(o,e,_):=T.obj _ _ st5 b G;exact(I7.pin (b,o) (memFp G e)).2.1
   |true =>
    rw[Zv rfl] at q7 ⊢;refine bQ (he _ _ f2 _ s7 σ6 H7 _ I7 q7) λuv s8 hr8=>?_;let(y,H8,I8,r8,q8):=hr8;let(m',hm,w8):=hN _ _ q8;let(gD,nD,dC,dF,_):=I8.pin _ (ÿ _ (Vi _ Í));refine append_at gD (λh9 sb hD9=>?_) (by show(toArray ar).size<=sizeLine;rw[á,<-hv.length];exact hz)
    have I8a:Inv (aX X (aT own aj) sc cl B.objs.size s2 H2 d) (mJ d s5.heap) σ6 H8 s8:=I8.lG λp Y=>I8.pin p (ÿ _ (ÿ _ Y));have I9:Inv (aX X (aT own aj) sc cl B.objs.size s2 H2 d) (mJ d s5.heap) σ6 H8 { s8 with heap:=h9 }:=I8a.turned (t':=s8.toks) (λb o G e=>(sb.2 b G).trans e) nD dC (.inr (Î _))
     (λx c e z=>Ui s2.heap.objs.size (by have:=(λx c e=>by
  let(v,o,q,_):=f.cell x c e;exact à q:∀ x c,X.env.cells.lookup x=↑c->c < s2.heap.objs.size) x c (a x c e);rw[z] at this;exact this)) (λp Y z=>hDfp (z ▸ (oV (Y)).1))
    rw[List.push_toArray] at hD9;refine#[m',hm,i + 1,ys++[y],H8,ar++[uv],k + 1,(reset I9).lG λp Y=>?_,T.keep _ _ _ st5 λb G o e=>?_,λb G=>?_,hv.append (.cons r8 .nil),by rw[õ];exact hlt,w8]
    .have hp':p=(s2.heap.objs.size,{ cls:=.type "list",data:=.seq (toArray (ar++[uv])) (k + 1) }):=by simpa using Y
     subst hp';exact#[hD9,nD,dC,dF,λv z=>by cases z]
    .exact(I9.pin (b,o) (ÿ _ (gB G e))).1
    .let(o,e,_):=T.obj _ _ st5 b G;exact(I9.pin (b,o) (ÿ _ (gB G e))).2.1
 exact codeAny_compStart_list (loop _ rfl) (T.self _ 0 _ _ _ (T.keep _ _ _ st2 λb _ o e=>I b o e) (loop _ rfl))
end
section
variable {X:Cx}{sc:ò}{own:Zj}{aj:⇑(Str × Nat)}{el tg src:Ö}{tests:Zm}{ps pos:Pos}{wi:TI}{g:TG}{tt:TT}{te:TE}
theorem qF(a:X.calm)(S:fq X sc own aj)(c:PI X tg src wi)(d:∀ f C s H i,PG (aX X (aT own aj) sc f C s H i) tg g)
  (j:∀ f C s H i,KD (aX X (aT own aj) sc f C s H i) tests tt) (k:∀ f C s H i,PE (aX X (aT own aj) sc f C s H i) el te)
  (hs:∀ x,VU src X.env x=pure x:=by intro _;rfl):PE X (.ListComp el [#[tg,src,tests,0]] sc ps) (BG own aj wi g tt te):=by
 intro l s m H Q I h;let(f,n,p,q):=wk   λy u z=>I.ok.has y.1 (S.frees y u z);refine YX  rfl hs n S.kind S.locs (bQ (c l s m H _ I h) λv s1 A=>bQ A λB s2 E=>?_);let(it,i,tn,J,H2,e,F,T,G,K,hw):=E;subst e;refine mK a S p q (d f) (j f) (λC i _=>k f C _ _ i) F T G K hw  λL C s' N=>?_;let(D,P,m',rfl,I',U,Y,r):=N;exact#[m',Y,λh' sb=>#[↥D,P,I'.turned  (λb o hb e=>(sb.2 b hb).trans e) U.1 U.2.1 U.2.2.2.1 U.2.2.2.2.1 U.2.2.2.2.2,rfl,r]]
theorem ET{te:St->Hp->TE}{a:St->Hp->Prop}(d:X.calm)(S:fq X sc own aj)(f:PI X tg src wi)(i:∀ j C s H k,PG (aX X (aT own aj) sc j C s H k) tg g)
  (l:∀ j C s H k,KD (aX X (aT own aj) sc j C s H k) tests tt) (m:∀ j n p H s,Inv X n p H s->(∀ x c,j.lookup x=↑c->X.env.cells.lookup x=↑c)->a p H->∀ C k,(∀ b∈k,j9 X n H b)->PE (aX X (aT own aj) sc j C s H k) el (te p H))
  (hs:∀ x,VU src X.env x=pure x:=by intro _;rfl):PE X (.ListComp el [#[tg,src,tests,0]] sc ps) (λp H Q=>wi p H λJ q=>a p q/\rl J (ff own aj p) q g tt (te p q) Q):=by
 intro n s p H Q I h;let(j,u,z,A):=wk   λy B E=>I.ok.has y.1 (S.frees y B E);refine YX  rfl hs u S.kind S.locs (bQ (f n s p H _ I h) λv s1 F=>bQ F λG s2 K=>?_);let(it,k,tn,J,H2,e,L,T,N,f2,cd,hw):=K;subst e;refine mK d S z A (i j) (l j) (λC k P=>m j _ _ _ _ L z cd C k P) L T N f2 hw  λacc C s' P=>?_;let(D,H',m',rfl,I',U,Y,r):=P;exact#[m',Y,λh' sb=>#[↥D,H',I'.turned  (λb o hb e=>(sb.2 b hb).trans e) U.1 U.2.1 U.2.2.2.1 U.2.2.2.2.1 U.2.2.2.2.2,rfl,r]]
theorem BH{i:Nat}(c:X.N.Nodup)(d:X.N[i]?=↑y)(f:Loc X.env.scope y)(j:Xd (.ListComp el [#[tg,src,tests,0]] sc ps) ↑(.Name y py) pos.line X.env=pure true)
  (k:X.calm) (S:fq X sc own aj) (l:PI X tg src wi) (m:∀ n C s H p,PG (aX X (aT own aj) sc n C s H p) tg g)
  (u:∀ n C s H p,KD (aX X (aT own aj) sc n C s H p) tests tt) (he:∀ n C s H p,PE (aX X (aT own aj) sc n C s H p) el te)
  (hs:∀ x,VU src X.env x=pure x:=by intro _;rfl) (hf:X.fn y=true∨X.env.scope.names.lookup y=↑.local:=by first | exact .inl rfl | exact .inr rfl | assumption) :
  PS X (.Assign [.Name y py] (.ListComp el [#[tg,src,tests,0]] sc ps) pos) (An (BG own aj wi g tt te) (gp i)):=by
 intro aa s σ H D I h;let(n,A,B,E):=wk   λy f hk=>I.ok.has y.1 (S.frees y f hk);rw[exec_Assign_Name_used _ _ _ _ j];refine À (wpAny_standAt (À ?_));refine À (UQ (YX   rfl hs A S.kind S.locs
  (bQ (l aa s σ H _ I h) λv s1 h1=>bQ h1 λitv s2 h2=>?_)) (λ_ s' hq=>Å (Å hq)) λ_ _ e=>e)
 let(it,p,tn,J,H2,e,I2,T,F,f2,hw):=h2;subst e;refine mK k S B E (m n) (u n) (λC p _=>he n C _ _ p) I2 T F f2 hw  λacc C s' G=>?_;let(DA,H',m',rfl,I',K,L,r):=G;refine wpAny_assign_Name (oT (v:=↥DA) I' c d f rfl (λs3 I3 P=>?_) hf);let(a,sb,P):=P;exact#[m',L.sameBut sb (λz=>by
  rcases P with q | q
  .exact K.2.1 (z.trans q)
  .exact K.2.2.2.2.1 _ _ q z.symm),λh' Y=>#[_,H',I3.turned  (λb o hb e=>(Y.2 b hb).trans e) K.1 K.2.1 K.2.2.2.1 K.2.2.2.2.1 K.2.2.2.2.2,r]]
end
end L2
namespace L2
open PySem
section
variable {P:å}{w:î}{A:þ}{E:Ä->Ç->Prop}{s:Ç}
theorem jr(a:s.heap.IsTupleIter r t k)(b:s.heap.IsTuple t c)(d:c[k]?=↑x)
  (e:∀ f,f.IsTupleIter r t (k + 1)->V6 r s.heap f->Q x { s with heap:=f }):Ü (ß P w) A (nextOf ↥r) Q E s:=by
 let(o,g,h,hd):=id a;let(i,j,_,l,m):=b;refine À (Uk  a.typeIs Wx (My Wx a.typeIs F.entry_tuple_iterator_next ?_ (F.args_tuple_iterator_next_1 _)));show Ü _ _ (field _ 0 >>= _) _ _ s;refine À (UH g hd (x:=↥t) rfl ?_);refine À (UH g hd  rfl ?_);refine À (Vy j m ?_);simp[UX,d];refine À (wpAny_setField g hd ⋯ (Å #[x,rfl,Å (e _ #[_,VG _ g (Obj.isFreed_of_fields (Obj.data_mapFields hd _)),(Obj.cls_mapFields ..).trans h,by rw[Obj.data_mapFields hd];simp[UM]] (U3 ..))]))
theorem iz(hh:A.handled=none)(hr:s.heap.IsTupleIter r t k)(ht:s.heap.IsTuple t vs)(hx:vs[k]?=none)
  (hE:∀ h' e,Heap.ExtBut r s.heap h'->(∃ o,h'.get? e=↑o/\o.cls=.type "StopIteration")->E ↥e { s with heap:=h' }):Ü (ß P w) A (nextOf ↥r) Q E s:=by
 let(o,ho,hc,hd):=id hr;let(ot,hot,_,nt,hdt):=ht;refine À (Uk  hr.typeIs Wx (My Wx hr.typeIs F.entry_tuple_iterator_next ?_ (F.args_tuple_iterator_next_1 _)));show Ü _ _ (field _ 0 >>= _) _ _ s;refine À (UH ho hd (x:=↥t) rfl ?_);refine À (UH ho hd  rfl ?_);refine À (Vy hot hdt ?_);simp[UX,hx];refine À (WA (À (wpAny_setField ho hd ⋯ ?_)));apply À;refine À (m:=firstArgMember _ _) (wpAny_of_eq (a:=ð) (rfl) ?_)
 refine Uj ?_ (by size_fits);refine À (wpAny_handled ?_)
 first | rw[show A.in1.handled=none from hh] | rw[hh]
 refine À (Å (wpAny_throw (hE _ _ (((U3 ..).extBut.push _).push _) #[_,Ì _ rfl,rfl])))
theorem Di{z TI TO d f g h:È}{Q:Zn->Ç->Prop}(D:ZipApart z TI TO d f g h)(hz:IsZip s.heap z TI TO .none)
  (i:Wj s.heap TI ↥d ↥f) (j:Wj s.heap TO a b) (h1:s.heap.IsTupleIter d g k) (h2:s.heap.IsTupleIter f h k) (l:s.heap.IsTuple g xs) (m:s.heap.IsTuple h ys)
  (hx:xs[k]?=↑x) (hy:ys[k]?=↑y)
  (hQ:∀ n,IsZip n z TI TO (UM s.heap.objs.size)->Wj n TO x y->n.IsTupleIter d g (k + 1)->n.IsTupleIter f h (k + 1)->Wj n s.heap.objs.size x y->n.objs.size=s.heap.objs.size + 1 ->
   (∀ c o,c≠z->c≠TO->c≠d->c≠f->s.heap.get? c=↑o->n.get? c=↑o)->Q ↑↥s.heap.objs.size { s with heap:=n }):Ü (ß P w) A (pyNext ↥z) Q E s:=by
 have hT:s.TypeIs ↥z _:=#[_,hz,rfl];refine À (XW (Uk  hT F.slot_zip_next (My F.slot_zip_next hT F.entry_zip_next ?_ (F.args_zip_next_1 _))));show Ü _ _ (field _ 2 >>= _) _ _ _;refine À (UH hz rfl (x:=.bool false) rfl ?_);refine À (UH hz rfl  rfl ?_);refine À (Vy i rfl ?_);apply À;refine À (UH hz rfl  rfl (Å ?_));refine À (WA (À (UH hz rfl  rfl (À (U8 hz ⋯ λg1 z1 p=>?_)))))
 apply À;refine À (À (wpAny_onRaise ?_));refine À (jr (h1.extBut p.extBut D.i1z) (l.extBut p.extBut D.l1z) hx λg2 r2 r=>Å ?_);have u :=r.extBut _ _ D.TOi1 (p.extBut _ _ D.TOz j);refine À (Vy u rfl (À (wpAny_updateSeq_pair u λg3 t3 v=>?_)));refine À (wpAny_letGo (Å ?_));refine À (À (wpAny_onRaise ?_));refine À (jr (((h2.extBut p.extBut D.i2z).extBut r.extBut D.i12.symm).extBut v.extBut D.TOi2.symm) (((m.extBut p.extBut D.l2z).extBut r.extBut D.l2i1).extBut v.extBut D.l2TO) hy λg4 r4 B=>Å ?_);have C :=B.extBut _ _ D.TOi2 t3;refine À (Vy C rfl (À (wpAny_updateSeq_pair C λG t5 H=>?_)))
 replace t5:Wj G TO x y:=t5
 refine À (wpAny_letGo (Å (Å ?_)));refine À (Vy t5 rfl (À (wpAny_newTuple ?_)));have sz:G.objs.size=s.heap.objs.size:=by rw[H.1,B.1,v.1,r.1,p.1]
 have I :=H.extBut _ _ D.TOz.symm (B.extBut _ _ D.i2z.symm (v.extBut _ _ D.TOz.symm (r.extBut _ _ D.i1z.symm z1)));have kp:∀ c o,c≠z->c≠TO->c≠d->c≠f->s.heap.get? c=↑o->G.get? c=↑o:=λc o c1 c2 c3 c4 e=>H.extBut _ _ c2 (B.extBut _ _ c4 (v.extBut _ _ c2 (r.extBut _ _ c3 (p.extBut _ _ c1 e))));have r1 :=((r2.extBut v.extBut D.TOi1.symm).extBut B.extBut D.i12).extBut H.extBut D.TOi1.symm;have r5 :=r4.extBut H.extBut D.TOi2.symm;have J :=à I;refine À ?_;have z6:IsZip (G.push { cls:=.type "tuple",data:=.seq [x,y].toArray }) z TI TO _:=Â _ I;refine À (U8 z6 ⋯ λg7 z7 K=>?_)
 refine U8 z7 ⋯ λL N U=>?_
 have X:∀ c o,c≠z->G.get? c=↑o->L.get? c=↑o:=λc o c1 e=>U.extBut _ _ c1 (K.extBut _ _ c1 (Â _ e));have t8 :=U.extBut _ _ (Vx J) (K.extBut _ _ (Vx J) (Ì _ rfl));have s8:L.objs.size=G.objs.size + 1:=by rw[U.1,K.1,Wy]
 rw[sz] at N t8 s8;refine Å #[_,rfl,?_];refine Å ?_;rw[sz];exact hQ L N (X _ _ D.TOz t5) (by let(o,Y,q):=r1;exact#[o,X _ o D.i1z Y,q]) (by let(o,Y,q):=r5;exact#[o,X _ o D.i2z Y,q]) t8 s8 λc o c1 c2 c3 c4 e=>X c o c1 (kp c o c1 c2 c3 c4 e)
theorem EU{z TI TO d f g h:È}{Q:Zn->Ç->Prop}(i:A.handled=none)(D:ZipApart z TI TO d f g h)(hz:IsZip s.heap z TI TO .none)
  (j:Wj s.heap TI ↥d ↥f) (l:Wj s.heap TO a b) (m:s.heap.IsTupleIter d g k) (h2:s.heap.IsTupleIter f h k) (n:s.heap.IsTuple g xs) (p:s.heap.IsTuple h r)
  (u:xs[k]?=none∨r[k]?=none) (hQ:∀ v,(∀ c o,c≠z->c≠TO->c≠d->c≠f->s.heap.get? c=↑o->v.get? c=↑o)->Q none { s with heap:=v }):Ü (ß P w) A (pyNext ↥z) Q E s:=by
 have hT:s.TypeIs ↥z _:=#[_,hz,rfl];have y:∀ (v:ö) (e:È),(∀ c o,c≠z->c≠TO->c≠d->c≠f->s.heap.get? c=↑o->v.get? c=↑o)->(∃ o,v.get? e=↑o/\o.cls=.type _) ->
   Ü (ß P w) A (isInstance ↥e _ >>= λb=>if b=true then pure none else throw ↥e) Q E _:=λv e kp B=>by
  let(o,ho,hc):=B;exact À (wpAny_isInstance   #[o,ho,hc] isSubtype_stop (Å (hQ _ kp)))
 refine À (XW (Uk  hT F.slot_zip_next (My F.slot_zip_next hT F.entry_zip_next ?_ (F.args_zip_next_1 _))));show Ü _ _ (field _ 2 >>= _) _ _ _;refine À (UH hz rfl (x:=.bool false) rfl ?_);refine À (UH hz rfl  rfl ?_);refine À (Vy j rfl ?_);apply À;refine À (UH hz rfl  rfl (Å ?_));refine À (WA (À (UH hz rfl  rfl (À (U8 hz ⋯ λg1 C G=>?_)))))
 refine À ?_;simp only[List.zipIdx_cons,List.zipIdx_nil,XB,YV];refine À (À (wpAny_onRaise ?_));show Ü _ _ (nextOf ↥d >>= _) _ _ _;cases H:xs[k]? with
 |none =>
  refine À (iz i (m.extBut G.extBut D.i1z) (n.extBut G.extBut D.l1z) H λI e J B=>?_);let(K,L,N):=B;have U:IsZip I z TI TO .ellipsis:=J _ _ D.i1z.symm C;have X:e≠z:=λq=>by subst q;rw[U] at L;cases L;simp at N
  exact U8 U ⋯ λg3 _ Y=>y g3 e (λc o c1 _ c3 _ q=>Y.extBut _ _ c1 (J _ _ c3 (G.extBut _ _ c1 q))) #[K,Y.extBut _ _ X L,N]
 |some x =>
  have hy:r[k]?=none:=by rcases u with q | q;rw[H] at q;cases q;exact q
  refine À (jr (m.extBut G.extBut D.i1z) (n.extBut G.extBut D.l1z) H λI r2 J=>Å ?_);have t2:Wj I TO a b:=J.extBut _ _ D.TOi1 (G.extBut _ _ D.TOz l);refine À (Vy t2 rfl (À (wpAny_updateSeq_pair t2 λg3 t3 Y=>?_)));refine À (wpAny_letGo (Å ?_));refine À (À (wpAny_onRaise ?_));show Ü _ _ (nextOf ↥f >>= _) _ _ _;refine À (iz i (((h2.extBut G.extBut D.i2z).extBut J.extBut D.i12.symm).extBut Y.extBut D.TOi2.symm) (((p.extBut G.extBut D.l2z).extBut J.extBut D.l2i1).extBut Y.extBut D.l2TO) hy λg4 e e4 B=>?_);let(K,L,N):=B;have z4:IsZip g4 z TI TO .ellipsis:=e4 _ _ D.i2z.symm (Y.extBut _ _ D.TOz.symm (J.extBut _ _ D.i1z.symm C));have X:e≠z:=λq=>by subst q;rw[z4] at L;cases L;simp at N
  exact U8 z4 ⋯ λg5 _ e5=>y g5 e (λc o c1 c2 c3 c4 q=>e5.extBut _ _ c1 (e4 _ _ c4 (Y.extBut _ _ c2 (J.extBut _ _ c3 (G.extBut _ _ c1 q))))) #[K,e5.extBut _ _ X L,N]
abbrev Rz(h:ö)(a:È):Heap:=h.push { cls:=.type "tuple_iterator",data:=.fields [↥a,.int 0 0].toArray }
abbrev RA(h:ö)(a b:È):Heap:=(Rz h a).push { cls:=.type "tuple_iterator",data:=.fields [↥b,.int 0 0].toArray }
abbrev RB(h:ö)(a b:È):Heap:=(RA h a b).push { cls:=.type "tuple",data:=.seq [↥h.objs.size,↥(Rz h a).objs.size].toArray }
abbrev RC(h:ö)(a b:È):Heap:=(RB h a b).push { cls:=.type "tuple",data:=.seq [.none,.none].toArray }
abbrev NZ(h:ö)(a b:È):Heap:=(RC h a b).push { cls:=.type "zip",data:=.fields [.none,.bool false,.bool false,↥(RA h a b).objs.size,↥(RB h a b).objs.size].toArray }
theorem Aw(a b:È)(c e:Zp) :
  Meets (Vq.«zip.__new__» #[[.type "zip",↥a,↥b],[]]) (λ_ R s=>s.heap.IsTuple a c/\s.heap.IsTuple b e/\R (.ok (.ret ↥(RC s.heap a b).objs.size)) { s with heap:=NZ s.heap a b }) :=
 .of_wp λP w A R s h=>by
  let(f,g,d,i,j):=s;let(k,l,h):=h;have m:=sub_zip;have o:Heap.IsTuple (Shared.heap #[f.push { cls:=.type "tuple_iterator",data:=.fields [↥a,.int 0 0].toArray },g,d,i,j]) b e:=Heap.IsTuple.push l _
  wp_walk using Wd k,Wd o
  exact#[_,rfl,h]
theorem Dj(a:s.heap.IsTuple b xs)(d:s.heap.IsTuple e f)
  (h:∀ g,IsZip g (s.heap.objs.size + 4) (s.heap.objs.size + 2) (s.heap.objs.size + 3) .none->Wj g (s.heap.objs.size + 2) ↥s.heap.objs.size ↥(s.heap.objs.size + 1)->Wj g (s.heap.objs.size + 3) .none .none ->
   g.IsTupleIter s.heap.objs.size b 0->g.IsTupleIter (s.heap.objs.size + 1) e 0->(∀ c o,s.heap.get? c=↑o->g.get? c=↑o)->Q ↥(s.heap.objs.size + 4) { s with heap:=g }) :
  Ü (ß P w) A (call (.type "zip") [↥b,↥e]) Q E s:=by
 refine callType_new F.called_zip (-0) (F.typeCall_zip_2 _ _) (F.newCall_zip_2 _ _) (λobj=>F.args_object_init_3 obj _ _) F.entry_zip_new (Aw b e xs f) #[a,d,?_]
 have n1:(Rz s.heap b).objs.size=s.heap.objs.size + 1:=Wy ..;have n2:(RA s.heap b e).objs.size=s.heap.objs.size + 2:=by rw[Wy,n1]
 have i:(RB s.heap b e).objs.size=s.heap.objs.size + 3:=by rw[Wy,n2]
 have j:(RC s.heap b e).objs.size=s.heap.objs.size + 4:=by rw[Wy,i]
 have k:(NZ s.heap b e).get? _=↑_:=Ì _ rfl;have l:(NZ s.heap b e).get? _=↑_:=Â _ (Ì _ rfl);have m:(NZ s.heap b e).get? _=↑_:=Â _ (Â _ (Ì _ rfl));have n:(NZ s.heap b e).get? _=↑_:=Â _ (Â _ (Â _ (Ì _ rfl)));have p:(NZ s.heap b e).get? s.heap.objs.size=↑_:=Â _ (Â _ (Â _ (Â _ (Ì _ rfl))));rw[n2,i,j] at k;rw[n1,n2] at m;rw[i] at l;rw[n1] at n;rw[j];exact#[#[_,k,rfl],h _ k m l #[_,p,rfl,rfl] #[_,n,rfl,rfl] λc o q=>Â _ (Â _ (Â _ (Â _ (Â _ q))))]
end
open PySem PySem.Spec PyProof.Rows
section
variable {X:Cx}{aa:⇑(È × Obj)}{σ:St}{H:Hp}{s:Ç}{h':ö}
theorem Inv.qG{t':Nat}{ch:Zo}(I:Inv X aa σ H s)(a:∀ b∈ch,j9 X aa H b)(k:∀ b o,b ∉ ch->s.heap.get? b=↑o->h'.get? b=↑o):Inv X aa σ H { s with heap:=h',toks:=t' }:=by
 have d:∀ b u,H b=↑u->b ∉ ch:=λb u e z=>by rw[(a b z).1] at e;cases e
 refine I.step    (λb f=>#[(a b f).2.2.2.1,(a b f).2.1,(a b f).2.2.2.2.1,(a b f).2.2.2.2.2]) (λb o _ _ g e _=>k b o g e) (λb o _ _ g e _=>#[o.slots,k b o g e]) (λ_ _ _ _ n=>n)
  (λb o g e=>#[o,k b o g e]) (λ_ _ e=>e) (λ_ _ _ e=>e) (λb h e=>#[[].toArray,by simp_all]) (λm i=>?_) (λb u e=>?_) I.bare
 .let(o,j,l,p,r):=i;exact#[o,j,l,k _ o (λz=>(a _ z).2.1 rfl) p,r]
 .refine(I.aM b u e).iR (λc v g q=>k c v ?_ q) (λ_ q=>q) λ_ _ q=>q;rcases g with z | z
  .rw[z];exact d b u e
  .exact d c _ z
theorem Inv.BE{T:È}(I:Inv X aa σ H s)(f:j9 X aa H T)(a:X.s₀.heap.objs.size<=T)(d:jm X.prog X.w (upd H T o) s.heap):Inv X aa σ (upd H T o) s:=by
 have u:=I.base;refine#[I.ok,I.os,I.bare,#[u.keep,u.slot,λb g e n h=>?_,u.there,λb i e=>?_,λb g i e=>?_,λb j e=>?_],I.loc,I.cell,?_,λx c e=>?_,λp k=>?_,d,I.len]
 .rw[ag (Ù (Ò (à e) a))];exact u.free b g e n h
 .have z:=u.tups b i e;rw[ag (ax z f.1)];exact z
 .have z:=u.frzs b g i e;rw[ag (ax z f.1)];exact z
 .let(more,z):=u.tbls b j e;exact#[more,by rw[ag (ax z f.1)];exact z]
 .rw[ag f.2.1.symm];exact I.free
 .rw[ag (f.2.2.2.2.1 x c e)];exact I.freeC x c e
 .let(e,n,r):=I.pin p k;exact#[e,by rw[ag (f.2.2.2.2.2 p k)];exact n,r]
theorem jm.EV{w:î}{D:È}{ar:Zk}(x:jm P w H h)(a:H D=none)(d:Vals f ar)(hz:f.length<=sizeLine)(g:XM h D ar.toArray):jm P w (upd H D (.tup f)) h:=λb u e=>by
 by_cases i:b=D
 .subst i;rw[ao] at e;cases e;exact#[hz,ar,d,g]
 .rw[ag i] at e;exact(x b u e).iR (λc v _ q=>q) (λc q=>by rw[ag (ax q a)];exact q) λc j q=>by rw[ag (ax q a)];exact q
end
def yg:Bool->Ã->Hp->È->⇑V->Prop
 |true=>gU|false=>dY
def kf:Bool->ö->È->È->Nat->Prop
 |true=>ö.IsListIter|false=>ö.IsTupleIter
def wm:Bool->ö->È->Zp->Prop
 |true=>ö.IsList|false=>Heap.IsTuple
theorem kf.obj{it a:È}(f:kf b h it a i):∃ o,h.get? it=↑o/\(∀ v,o.data=.cell v->False)/\∀ j:ö,j.get? it=↑o->kf b j it a i:=by
 cases b with
 |true=>let(o,g,c,d):=f;exact#[o,g,(λv e=>by rw[d] at e;cases e),λj k=>#[o,k,c,d]]
 |false=>let(o,g,c,d):=f;exact#[o,g,(λv e=>by rw[d] at e;cases e),λj k=>#[o,k,c,d]]
theorem Inv.qp(I:Inv X c σ H s)(h:yg b X.K H a xs):∃ ar:Zk,Vals xs ar/\wm b s.heap a ar.toArray/\a < s.heap.objs.size/\∀ d,yg b X.K H a d->d=xs:=by
 cases b with
 |true=>let(ar,r,p,_):=I.list h;exact#[ar,r,p.isList,by let(o,e,_):=p.isList;exact à e,λd f=>I.yl f h]
 |false=>let(ar,r,p,_):=I.tuple h;exact#[ar,r,p,by let(o,e,_):=p;exact à e,λd f=>I.uI f h]
section
variable {P:å}{w:î}{A:þ}{E:Ä->Ç->Prop}{s:Ç}{b:Bool}{z TI TO i1 i2 l1 l2:È}{k:Nat}{xs ys:Zp}{x y p q:Ä}
theorem Dk{Q:Zn->Ç->Prop}(D:ZipApart z TI TO i1 i2 l1 l2)(hz:IsZip s.heap z TI TO .none)(a:Wj s.heap TI ↥i1 ↥i2)(d:Wj s.heap TO p q)(e:kf b s.heap i1 l1 k)(f:kf b s.heap i2 l2 k)(g:wm b s.heap l1 xs)(h:wm b s.heap l2 ys)(i:xs[k]?=↑x)(j:ys[k]?=↑y)
  (l:∀ m,IsZip m z TI TO (UM s.heap.objs.size)->Wj m TO x y->kf b m i1 l1 (k + 1)->kf b m i2 l2 (k + 1)->Wj m s.heap.objs.size x y->m.objs.size=s.heap.objs.size + 1 ->
   (∀ c o,c≠z->c≠TO->c≠i1->c≠i2->s.heap.get? c=↑o->m.get? c=↑o)->Q ↑↥s.heap.objs.size { s with heap:=m }):Ü (ß P w) A (pyNext ↥z) Q E s:=match b,e,f,g,h,l with
 |true,e,f,g,h,l=>wpAny_pyNext_zip_item D hz a d e f g h i j l|false,e,f,g,h,l=>Di D hz a d e f g h i j l
theorem EW{Q:Zn->Ç->Prop}(a:A.handled=none)(D:ZipApart z TI TO i1 i2 l1 l2)(hz:IsZip s.heap z TI TO .none)(d:Wj s.heap TI ↥i1 ↥i2)(e:Wj s.heap TO p q)(f:kf b s.heap i1 l1 k)(g:kf b s.heap i2 l2 k)(h:wm b s.heap l1 xs)(i:wm b s.heap l2 ys)
  (j:xs[k]?=none∨ys[k]?=none) (l:∀ m,(∀ c o,c≠z->c≠TO->c≠i1->c≠i2->s.heap.get? c=↑o->m.get? c=↑o)->Q none { s with heap:=m }):Ü (ß P w) A (pyNext ↥z) Q E s:=match b,f,g,h,i with
 |true,f,g,h,i=>wpAny_pyNext_zip_end a D hz d e f g h i j l|false,f,g,h,i=>EU a D hz d e f g h i j l
theorem uR{Q:Ä->Ç->Prop}(a:wm b s.heap l1 xs)(d:wm b s.heap l2 ys)
  (h:∀ e,IsZip e (s.heap.objs.size + 4) (s.heap.objs.size + 2) (s.heap.objs.size + 3) .none->Wj e (s.heap.objs.size + 2) ↥s.heap.objs.size ↥(s.heap.objs.size + 1)->Wj e (s.heap.objs.size + 3) .none .none ->
   kf b e s.heap.objs.size l1 0->kf b e (s.heap.objs.size + 1) l2 0->(∀ c o,s.heap.get? c=↑o->e.get? c=↑o)->Q ↥(s.heap.objs.size + 4) { s with heap:=e }):Ü (ß P w) A (call (.type "zip") [↥l1,↥l2]) Q E s:=match b,a,d,h with
 |true,a,d,h=>call_zip_2 a d λe f g i j a5 _ l=>h e f g i j a5 l|false,a,d,h=>Dj a d h
end
def RD(b:Bool)(K:Ã)(a c:È):It :=
 #[λi H=>∃ d e x y,yg b K H a d/\yg b K H c e/\d[i]?=↑x/\e[i]?=↑y,
  λi H v f=>∃ T,v=↥T/\H T=none/\∀ d e x y,yg b K H a d->yg b K H c e->d[i]?=↑x->e[i]?=↑y->f=upd H T (.tup [x,y]),
  λi H=>∃ d e,yg b K H a d/\yg b K H c e/\(d.length<=i∨e.length<=i)]
theorem yw{P:å}{w:î}{K:Ã}{es:Zm}{ek:Nat}{ep:Pos}{b:Bool}{a c z TI TO d f:È}(D:ZipApart z TI TO d f a c) :
  Turn P w K (.Tuple es ek ep) (RD b K a c) [z,TI,TO,d,f] z (λi h=>IsZip h z TI TO .none/\Wj h TI ↥d ↥f/\(∃ p q,Wj h TO p q)/\kf b h d a i/\kf b h f c i) where
 mem:=⋯
 obj:=λi h j c l=>by
  obtain⟨hz,m,⟨p,q,n⟩,r,u⟩:=j;let(o1,r,d1,_):=r.obj;let(o2,u,d2,_):=u.obj;simp only[Ur,Ub,ZF] at l;rcases l with rfl | rfl | rfl | rfl | rfl
  .exact#[_,hz,λv e=>by cases e]
  .exact#[_,m,λv e=>by cases e]
  .exact#[_,n,λv e=>by cases e]
  .exact#[_,r,d1]
  .exact#[_,u,d2]
 keep:=λi h h' j k=>by
  obtain⟨hz,m,⟨p,q,n⟩,r,u⟩:=j;let(o1,r,_,r1):=r.obj;let(o2,u,_,r2):=u.obj;exact#[k z ⋯ _ hz,k TI ⋯ _ m,#[p,q,k TO ⋯ _ n],r1 _ (k d ⋯ _ r),r2 _ (k f ⋯ _ u)]
 item:=by
  intro X hP hw hK l i A s σ H E I B j hg;subst hP hw hK;let(xs,ys,x,y,C,F,hx,hy):=hg;let(v1,G,p1,_,z1):=I.qp C;let(v2,J,p2,_,z2):=I.qp F;let(u1,hu1,ru1):=G.get hx;let(u2,hu2,ru2):=J.get hy;obtain⟨hz,m,⟨p,q,n⟩,r,u⟩:=j;refine Dk D hz m n r u p1 p2 (x:=u1) (y:=u2) (by simpa using hu1) (by simpa using hu2) λg1 gz gTO g1' g2' gT gs kp=>#[_,rfl,?_]
  refine wpAny_letOwnedTupleGo_zip (s:={ s with heap:=g1 }) gz λL gz2 sb=>?_;have hT:H s.heap.objs.size=none:=I.aM.fresh (Î _);have N:∀ c o,c ∉ [z,TI,TO,d,f]->s.heap.get? c=↑o->L.get? c=↑o:=λc o l e=>by
   simp only[Ur,Ub,ZF,not_or] at l;exact sb.extBut _ _ l.1 (kp c o l.1 l.2.2.1 l.2.2.2.1 l.2.2.2.2 e)
  have I2:Inv X A σ H { s with heap:=L }:=I.qG (t':=s.toks) B N;have fT:j9 X A H s.heap.objs.size:=I.mI (Î _) hT;have gT2:L.get? s.heap.objs.size=↑{ cls:=.type "tuple",data:=.seq [u1,u2].toArray }:=sb.extBut _ _ (λe=>Ui _ (by have:=à hz;rw[<-e] at this;exact this)) gT
  have I3:Inv X A σ (upd H s.heap.objs.size (.tup [x,y])) { s with heap:=L }:=I2.BE fT I.sz (I2.aM.EV hT (ar:=[u1,u2]) (.cons ru1 (.cons ru2 .nil)) (by show 2<=sizeLine;rw[gV];decide) #[_,gT2,rfl,_,rfl])
  have TI0:Wj L TI ↥d ↥f:=sb.extBut _ _ D.TIz (kp _ _ D.TIz D.TITO D.TIi1 D.TIi2 m);let(o1,w1,_,r1):=g1'.obj;let(o2,w2,_,r2):=g2'.obj;refine#[↥s.heap.objs.size,_,I3,rfl,#[_,rfl,hT,λxs' ys' x' y' e1 e2 e3 e4=>?_],#[gz2,TI0,#[_,_,sb.extBut _ _ D.TOz gTO],r1 _ (sb.extBut _ _ D.i1z w1),r2 _ (sb.extBut _ _ D.i2z w2)],λc l=>?_]
  .rw[z1 _ e1] at e3;rw[z2 _ e2] at e4;rw[hx] at e3;rw[hy] at e4;cases e3;cases e4;rfl
  .rw[ag]
   .exact(B c l).1
   .intro e;let(o1,r,_):=r.obj;let(o2,u,_):=u.obj;have lt:c < s.heap.objs.size:=by
     simp only[Ur,Ub,ZF] at l;rcases l with rfl | rfl | rfl | rfl | rfl
     .exact à hz
     .exact à m
     .exact à n
     .exact à r
     .exact à u
    rw[e] at lt;exact Ui _ lt
 done:=by
  intro X hP hw hK l i A s σ H E I B j hg;subst hP hw hK;let(xs,ys,C,F,U):=hg;let(v1,G,p1,_):=I.qp C;let(v2,J,p2,_):=I.qp F;obtain⟨hz,m,⟨p,q,n⟩,r,u⟩:=j;have l1:=G.length;have l2:=J.length;refine EW (I.ok.hd l) D hz m n r u p1 p2 (U.elim (λe=>.inl (by simp;exact â (Y5 (_b l1)) e)) λe=>.inr (by simp;exact â (Y5 (_b l2)) e)) λg kp=>#[rfl,I.qG (t':=s.toks) B λc o Y e=>?_]
  simp only[Ur,Ub,ZF,not_or] at Y;exact kp c o Y.1 Y.2.2.1 Y.2.2.2.1 Y.2.2.2.2 e
 self:=λ_ _ _ _ _ j h=>wpAny_pyIter_zip j.1 h
def OD(K:Ã)(d:TA):TI:=λe H R=>d e H λf g=>∃ b a c,f=[↥a,↥c]/\(∃ h,yg b K g a h)/\(∃ i,yg b K g c i)/\R (RD b K a c) g
theorem boot_zip:ý "zip"=↑(.type "zip"):=by decide +kernel
theorem LL{p pos:Pos}(d:Gl X "zip")(f:X.mg "zip"=none)(g:PA X [a,b] i)(hs:Ul [a,b] X.env=[(false,eval a X.env),(false,eval b X.env)]:=by rfl)(j:Ul [b] X.env=[(false,eval b X.env)]:=by rfl) :
  PI X (.Tuple k ek ep) (.Call (.Name "zip" p) [a,b] [] pos) (OD X.K i):=by
 intro l s m H R I h;refine Call_ (f7 I d f boot_zip (Ua (bQ (g pos l s m H _ I h) λus s1 #[vs,H1,n,o,v]=>?_) (by simp_all) (by rw[j];rfl)))
 obtain⟨b,l1,l2,e,⟨xs,x⟩,⟨ys,y⟩,q⟩:=v;subst e;let(u,w',rfl,r,z):=vals2 o;subst r;subst z;let(v1,A,B,C,_):=n.qp x;let(v2,E,p2,F,_):=n.qp y;refine uR B p2 λh' hz G J L N P=>wpAny_pyIter_zip  hz ?_;refine#[_,_,_,_,H1,rfl,n.kept  P,yw (zipApart_new C F),#[hz,G,#[_,_,J],L,N],λc U=>?_,q];have Y:s1.heap.objs.size<=c:=by
  simp[Ur,Ub,ZF] at U;rcases U with rfl | rfl | rfl | rfl | rfl
  .simp_all
  .simp_all
  .simp_all
  .exact Î _
  .exact V9 _ 1
 exact n.mI Y (n.aM.fresh Y)
theorem EX(c:X.calm):bN X (.builtin "all") (λd H Q=>∃ (a:È) (bs:⇑Bool),d=[↥a]/\gU X.K H a (bs.map V.bl)/\Q (.bl (bs.all id)) H):=by
 intro f s g H d j Q I r h;let(a,bs,rfl,k,q):=h;let(u,rfl,l):=vals1 r;subst l;let(m,n,pl,hz):=I.list k;have y :=by have:=n.length;simpa using this.symm
 refine call_all_walk (YT pl.isList #[_,_,_,_,_,_,λi=>(bs[i]?).getD true,rfl,Walks.list (by exact I.ok.hd c) s.heap.objs.size a (Ù (by let(_,e,_):=pl.isList;exact à e)) m.toArray,#[#[_,Ì _ rfl,rfl,rfl],pl.isList.push _],?_,?_])
 .intro i v z A B C E;have F :=by simpa using C
  have G:i < bs.length:=by rw[<-y];exact(Ý.mp F).1
  let(J,L,N):=n.get (i:=i) (x:=.bl bs[i]) (by simp[G])
  rw[F] at L;cases L;cases (show v=Xl _ from N);exact UW (by simp_all)
 .intro P U Y;refine#[_,H,I.kept λb o e=>Y b o (by simpa using Ù (à e)) (Â _ e),?_,q]
  show Xl _=Xl _;rw[á,y,PyProof.Rows.LSm.range_all]
end L2
namespace MySort
open PySem PySem.W PyProof.Rows
def run{b:Type}(cmp:Nat->Nat->Bool):KasT b->b
 |.ret a=>a|.ask i j k=>run cmp (k (cmp i j))
theorem run_bind(cmp:Nat->Nat->Bool)(f:α->KasT β):∀ t:KasT α,run cmp (t.bind f)=run cmp (f (run cmp t))
 |.ret _=>rfl|.ask i j k=>run_bind cmp f (k _)
section
variable (O:KeyOrd) (key:Nat->O.α)
def kk(p:Zr)(i:Nat):O.α:=key (p.getD i 0)
abbrev cG:Nat->Nat->Bool:=λi j=>O.blt (key i) (key j)
def Up(p:Zr)(n:Nat):Prop:=∀ i j,i<=j->j < n->O.kle (kk O key p i) (kk O key p j)
def Dn(p:Zr)(n:Nat):Prop:=∀ i j,i<=j->j < n->O.kle (kk O key p j) (kk O key p i)
variable {O key}
theorem kg(h:p[i]?=q[j]?):kk O key p i=kk O key q j:=by
 unfold kk;rw[XU,XU,h]
theorem Ax(a:j<=p.size)(k:Nat):kk O key (Wg p i j) k=if i<=k/\k < j then kk O key p (i + j - 1 - k) else kk O key p k:=by
 have e:=getElem?_mirror_all (i:=i) a k;by_cases b:i<=k/\k < j
 .rw[Zv b] at e ⊢;exact kg e
 .rw[Zw b] at e ⊢;exact kg e
theorem LM(hs:k < p.size)(hd:d<=k)(i:Nat) :
  kk O key (bubble p k d) i=if i=k - d then kk O key p k else if k - d < i/\i<=k then kk O key p (i - 1) else kk O key p i:=by
 have e:=getElem?_bubble hs d hd i;by_cases a:i=k - d
 .rw[Zv a] at e ⊢;exact kg e
 .rw[Zw a] at e ⊢;by_cases b:k - d < i/\i<=k
  .rw[Zv b] at e ⊢;exact kg e
  .rw[Zw b] at e ⊢;exact kg e
theorem Up.more(h:Up O key p n)(a:1<=n)(b:O.kle (kk O key p (n - 1)) (kk O key p n)):Up O key p (n + 1):=by
 intro i j c d;by_cases e:j=n
 .subst e;by_cases f:i=j
  .subst f;exact V4 _
  .exact KeyOrd.kle_trans (h i _ (_F (_m c f)) (_t a (Vs _))) b
 .exact h i j c (_m (_h d) e)
theorem Dn.more(h:Dn O key p n)(a:1<=n)(b:O.kle (kk O key p n) (kk O key p (n - 1))):Dn O key p (n + 1):=by
 intro i j c d;by_cases e:j=n
 .subst e;by_cases f:i=j
  .subst f;exact V4 _
  .exact KeyOrd.kle_trans b (h i _ (_F (_m c f)) (_t a (Vs _)))
 .exact h i j c (_m (_h d) e)
theorem Ay:∀ (f n:Nat),1<=n->Up O key p n ->
  n<=run (cG O key) (Wh p f n)/\run (cG O key) (Wh p f n)<=n + f/\Up O key p (run (cG O key) (Wh p f n)) /\
   (run (cG O key) (Wh p f n) < n + f->O.klt (kk O key p (run (cG O key) (Wh p f n))) (kk O key p (run (cG O key) (Wh p f n) - 1)))
 |0,n,a,b=>#[Î _,Î _,b,λh=>absurd h (Ui _)]
 |f + 1,n,a,b=>by
  show n<=run _ (if O.blt (kk O key p n) (kk O key p _)=true then YN n else Wh p f _)/\run _ (if O.blt (kk O key p n) (kk O key p _)=true then YN n else Wh p f _)<=n + (f + 1) /\
   Up O key p (run _ (if O.blt (kk O key p n) (kk O key p _)=true then YN n else Wh p f _)) /\
   (run _ (if O.blt (kk O key p n) (kk O key p _)=true then YN n else Wh p f _) < n + (f + 1) ->
    O.klt (kk O key p (run _ (if O.blt (kk O key p n) (kk O key p _)=true then YN n else Wh p f _))) (kk O key p (run _ (if O.blt (kk O key p n) (kk O key p _)=true then YN n else Wh p f _) - 1)))
  cases c:O.blt _ _ with
  |true =>
   exact#[Î _,by exact V9 _ _,b,λ_=>c]
  |false =>
   have d:=Ay f _ (_d _ _) (b.more a c)
   refine#[Vb d.1,â d.2.1 (_u (Î _)),d.2.2.1,λh=>d.2.2.2 ∅]
theorem rev_eq(a:j<=p.size)(b:∀ k,i<=k->k < j->kk O key p k=kk O key p (j - 1))(k:Nat):kk O key (Wg p i j) k=kk O key p k:=by
 rw[Ax a];grind
theorem rq(p:Zr)(i j:Nat):(Wg p i j).Perm p:=mirror_perm _ _ _ _
theorem rz(p:Zr)(i j:Nat):(Wg p i j).size=p.size:=mirror_size _ _ _ _
structure LN(O:KeyOrd)(key:Nat->O.α)(p0 p:Array Nat)(n q:Nat):Prop where
 perm:p.Perm p0
 size:p.size=p0.size
 pos:q + 1<=n
 dn:Dn O key p n
 eq:∀ k,n - (q + 1)<=k->k < n->kk O key p k=kk O key p (n - 1)
theorem LN.rev(h:LN O key p0 p n q)(a:n<=p0.size):LN O key p0 (Wg p (n - (q + 1)) n) n q:=by
 have hz:=h.size;have e:=rev_eq      (â a (Y5 (_b hz))) h.eq
 exact#[(rq _ _ _).trans h.perm,(rz _ _ _).trans hz,h.pos,λi j b c=>by rw[e,e];exact h.dn i j b c,λk d f=>by rw[e,e];exact h.eq k d f]
theorem wo:∀ (f:Nat) (p:Zr) (n q:Nat),LN O key p0 p n q->n + f<=p0.size ->
  n<=(run (cG O key) (Va f p n q)).2.1/\(run (cG O key) (Va f p n q)).2.1<=n + f /\
   LN O key p0 (run (cG O key) (Va f p n q)).1 (run (cG O key) (Va f p n q)).2.1 (run (cG O key) (Va f p n q)).2.2
 |0,p,n,q,h,_=>#[Î _,Î _,h]
 |f + 1,p,n,q,h,a=>by
  have b:=h.pos;have hz:=h.size;have c:run _ (Va (f + 1) p n q)=run (cG O key) (if O.blt (kk O key p n) (kk O key p _)=true then(if q > 0 then Va f _ _ 0 else Va f p _ 0)
   else .ask _ _ _):=rfl
  rw[c];cases g:O.blt _ _ with
  |true =>
   simp only[if_true];have i:∀ j,LN O key p0 j n q->(∀ k,kk O key j k=kk O key p k)->n<=(run _ (Va f j _ 0)).2.1/\(run _ (Va f j _ 0)).2.1<=n + (f + 1) /\
     LN O key p0 _ _ _:=λj l e=>by
    have m:=wo f j (n + 1) 0 #[l.perm,l.size,_d _ _,l.dn.more (â (_d _ _) b) (by rw[e,e];exact Yb g),λk o r=>by
     have:=_v o r
     subst this;rfl] (â (Y5 (_j _ _ _)) a)
    exact#[Vb m.1,â m.2.1 (_u (Î _)),m.2.2]
   split
   .exact i _ (h.rev (â (V9 _ _) a)) (rev_eq ∅ h.eq)
   .exact i _ h λ_=>rfl
  |false =>
   simp only[VF,if_false];have s:run _ (KasT.ask _ _ λd=>if d=true then .ret _ else Va f p _ _) =
    run (cG O key) (if O.blt (kk O key p (n - 1)) (kk O key p n)=true then .ret (p,n,q) else Va f p (n + 1) (q + 1)):=rfl
   rw[s];cases u:O.blt _ _ with
   |true =>
    exact#[Î _,by show n<=n + (f + 1);exact V9 _ _,h]
   |false =>
    simp only[VF,if_false];have e:kk O key p n=kk O key p (n - 1):=O.total _ _ g u;have m:=wo f p (n + 1) (q + 1) #[h.perm,h.size,Xe b,h.dn.more (â (_d _ _) b) (by rw[e];exact V4 _),λk o r=>by
     show _=kk O key p n;by_cases v:k=n
     .rw[v]
     .rw[e];exact h.eq k ∅ (_m (_h r) v)] (â (Y5 (_j _ _ _)) a)
    exact#[Vb m.1,â m.2.1 (_u (Î _)),m.2.2]
structure LO(O:KeyOrd)(key:Nat->O.α)(p0:Array Nat)(nrem:Nat)(r:Nat × Array Nat):Prop where
 perm:r.2.Perm p0
 size:r.2.size=p0.size
 lo:1<=r.1
 hi:r.1<=nrem
 up:Up O key r.2 r.1
theorem yy(b:p.Perm p0)(hz:p.size=p0.size)(hd:Dn O key p n)(c:1<=n)(d:n<=e)(f:e<=p0.size):LO O key p0 e (run (cG O key) (kas_tail3 n e p)):=by
 unfold kas_tail3;rw[run_bind];have a:=Ay   (p:=Wg p 0 n) (e - n) n c (λi j h k=>by
  rw[Ax ∅,Ax ∅,Zv (⟨Vl _,V7 h k⟩),Zv (⟨Vl _,k⟩)]
  exact hd _ _ (Nat.sub_le_sub_left h _) ∅);exact#[(rq _ _ _).trans b,(rz _ _ _).trans hz,by exact â c a.1,by exact â a.2.1 (Y5 (_w d)),a.2.2.1]
theorem pV(a:p.Perm p0)(hz:p.size=p0.size)(hd:Dn O key p (n + 1))(b:n + 1<=c)(e:c<=p0.size):LO O key p0 c (run (cG O key) (Ym n c p)):=by
 unfold Ym;rw[run_bind];let(h,i,j):=(wo    _ p (n + 1) 0 #[a,hz,_d _ _,hd,λk f g=>by
  have:=_v f g
  subst this;rfl] (â (Y5 (_w b)) e));split
 .have m:=j.rev ∅
  exact yy m.perm m.size m.dn (â (_d _ _) h) (â i (Y5 (_w b))) e
 .exact yy j.perm j.size j.dn (â (_d _ _) h) (â i (Y5 (_w b))) e
theorem EY(b:1<=d)(f:d<=p.size):LO O key p d (run (cG O key) (kas_count d p)):=by
 unfold kas_count;rw[run_bind];have a:=Ay  (key:=key) (p:=p) (d - 1) 1 (Î _) (λi j g h=>by
  have:=_b (_v g (_G _ h))
  subst this;exact V4 _)
 generalize run _ _=n at a ⊢;let(l,m,o,q):=a;split
 .exact#[Xk _,rfl,l,by show n<=d;omega,o]
 .rename_i r;have s:n < d:=by grind
  have u:=q (Ò s (_N (Î _)))
  split
  .have x:run _ (KasT.ask _ _ λc=>if c=true then .ret _ else Ym n d _) =
    run (cG O key) (if O.blt (kk O key p 0) (kk O key p (n - 1))=true then .ret (n,p) else Ym n d (Wg p 0 n)):=rfl
   rw[x];cases y:O.blt _ _ with
   |true =>
    exact#[Xk _,rfl,l,by exact Vb s,o]
   |false =>
    have e:∀ k,0<=k->k < n->kk O key p k=kk O key p _:=λk _ A=>by
     refine KeyOrd.kle_antisymm (o k (n - 1) (Nat.le_sub_of_add_le A) (_t l (Vs _))) ?_
     rw[<-(O.total _ _ y (o 0 (n - 1) (Vl _) (_t l (Vs _))))];exact o 0 k (Vl _) A
    have er:=rev_eq (O:=O) (key:=key) (i:=0) (j:=n) (p:=p) (Vb (Ò s f)) e
    refine pV (rq _ _ _) (rz _ _ _) ?_ s f
    have B:Dn O key (Wg p 0 n) n:=λi j g h=>by
     rw[er,er,e i (Vl _) (V7 g h),e j (Vl _) h];exact V4 _
    refine B.more l ?_;rw[er,er];exact Yb u
  .have v:n=1:=by omega
   subst v;refine pV (Xk _) rfl ?_ ∅ f
   have B:Dn O key p 1:=λi j g h=>by
    have:i=j:=_b (_v g (_G _ h))
    subst this;exact V4 _
   exact B.more (Î _) (Yb u)
theorem rA(a:Up O key p k):∀ (f l r:Nat),l<=r->r<=k->r - l<=f->(∀ i,i < l->O.kle (kk O key p i) (kk O key p k))->(∀ i,r<=i->i < k->O.klt (kk O key p k) (kk O key p i)) ->
  run (cG O key) (Vu p k f l r)<=k/\(∀ i,i < run (cG O key) (Vu p k f l r)->O.kle (kk O key p i) (kk O key p k))/\(∀ i,run (cG O key) (Vu p k f l r)<=i->i < k->O.klt (kk O key p k) (kk O key p i))
 |0,l,r,b,d,e,g,h=>by
  have:=_i b (_e (_p e))
  subst this;exact#[d,g,h]
 |f + 1,l,r,b,d,e,g,h=>by
  have j:Vu p k (f + 1) l r=(if l ≥ r then .ret l else .ask _ _ _):=rfl;rw[j];by_cases m:l ≥ r
  .rw[Zv m];have:=_i b m
   subst this;exact#[d,g,h]
  .rw[Zw m];have n:run _ (KasT.ask _ _ λc=>if c=true then Vu p k f l _ else Vu p k f _ r) =
    run (cG O key) (if O.blt (kk O key p k) (kk O key p ((l + r) / 2))=true then Vu p k f l ((l + r) / 2) else Vu p k f ((l + r) / 2 + 1) r):=rfl
   rw[n];cases o:O.blt _ _ with
   |true =>
    exact rA a f l _ (_O (Nat.le_of_not_le m)) (Vb (Ò (_z m) d)) ∅ g λi q s=>KeyOrd.klt_of_klt_of_kle o (a _ i q s)
   |false =>
    exact rA a f _ r (Nat.succ_le_of_lt (_z m)) d ∅ (λi q=>KeyOrd.kle_trans (a i _ (_h q) (Ò (_z m) d)) o) h
theorem EZ:∀ (f:Nat) (p:Zr) (k:Nat),p.Perm p0->p.size=p0.size->Up O key p k->k + f<=p0.size ->
  (run (cG O key) (kas_bin f p k)).Perm p0/\Up O key (run (cG O key) (kas_bin f p k)) (k + f)
 |0,p,k,a,_,b,_=>#[a,b]
 |f + 1,p,k,a,hz,b,c=>by
  have e:kas_bin (f + 1) p k=(Vu p k k 0 k).bind _:=rfl;rw[e,run_bind];have pl:=rA   b k 0 k (Vl _) (Î _) (Î _) (λi g=>absurd g (Yx _)) (λi h m=>absurd m (_p h))
  generalize run _ _=l at pl ⊢;let(n,o,q):=pl;have r:=LM  (key:=key) (p:=p)  (d:=k - l) ∅ (_n _ _)
  have B:=EZ  f _ (k + 1) ((bubble_perm _ _ _).trans a) ((bubble_size _ _ _).trans hz) (λi j u v=>by
   rw[r,r];rw[_H n];by_cases y:i=l
   .rw[Zv y];by_cases z:j=l
    .rw[Zv z];exact V4 _
    .rw[Zw z,Zv ∅]
     exact Yb (q _ ∅ ∅)
   .rw[Zw y];by_cases g:l < i/\i<=k
    .rw[Zv g,Zw (Vx (Ò g.1 u)),Zv (⟨Ò g.1 u,_h v⟩)]
     exact b _ _ (Nat.sub_le_sub_right u _) ∅
    .rw[Zw g];by_cases z:j=l
     .rw[Zv z];exact o _ ∅
     .rw[Zw z];by_cases A:l < j/\j<=k
      .rw[Zv A];exact b _ _ ∅ (Ò (_I A.1) A.2)
      .rw[Zw A];exact b _ _ u ∅) (â (Y5 (_j _ _ _)) c)
  exact#[B.1,by have:=B.2;rwa [show k + 1 + f=k + (f + 1) by exact _A (_j _ _ _) (_J _)] at this]
theorem IC(a:1<=n):(run (cG O key) (YA n)).Perm (ë n).toArray/\Up O key (run (cG O key) (YA n)) n:=by
 unfold YA;rw[run_bind];have c:=EY  (key:=key) (p:=(ë n).toArray) a ⋯
 generalize run _ _=r at c ⊢;let(c1,c2,c3,c4,c5):=c;split
 .have b:=EZ   (n - max r.1 1) r.2 (max r.1 1) c1 c2 (by rw[Nat.max_eq_left c3];exact c5) (by simp;omega)
  simp_all
 .rw[(by omega:r.1=n)] at c5;exact#[c1,c5]
end
def cj{a:Type}(n:Nat):KasT a->Prop
 |.ret _=>True|.ask i j k=>(i < n/\j < n)/\∀ b,cj n (k b)
def kh{c:Type}(G:c->Prop):KasT c->Prop
 |.ret a=>G a|.ask _ _ k=>∀ b,kh G (k b)
theorem cj.bind{n:Nat}{f:α->KasT β}(c:∀ a,G a->cj n (f a)):∀ {t:KasT α},cj n t->kh G t->cj n (t.bind f)
 |.ret a,_,g=>c a g|.ask _ _ _,h,g=>#[h.1,λb=>cj.bind c (h.2 b) (g b)]
theorem kh.bind{f:α->KasT β}{G':β->Prop}(c:∀ a,G a->kh G' (f a)):∀ {t:KasT α},kh G t->kh G' (t.bind f)
 |.ret a,g=>c a g|.ask _ _ _,g=>λb=>kh.bind c (g b)
def LP(n:Nat)(p:Zr):Prop:=∀ i,p.getD i 0 < n
theorem Az(a:1<=n)(b:p.Perm q)(c:∀ x∈q.toList,x < n):LP n p:=λi=>by
 by_cases d:i < p.size
 .rw[(by simp[Array.getD,d]:p.getD i 0=p[i])];exact c _ (b.toList.mem_iff.mp ⋯)
 .rw[(by simp[Array.getD,d]:p.getD i 0=0)];exact a
structure Good(n:Nat)(q p:Array Nat):Prop where
 low:LP n p
 perm:p.Perm q
theorem Good.rev(a:1<=n)(b:∀ x∈q.toList,x < n)(g:Good n q p)(i j:Nat):Good n q (Wg p i j) :=
 have e:=(mirror_perm p i j _).trans g.perm
 #[Az a e b,e]
theorem Good.TH(a:1<=n)(b:∀ x∈q.toList,x < n)(g:Good n q p)(i j:Nat):Good n q (bubble p i j) :=
 have e:=(bubble_perm p i j).trans g.perm
 #[Az a e b,e]
section
variable {n:Nat}{q:Zr}
theorem rD(g:LP n p):∀ (f k:Nat),cj n (Wh p f k)
 |0,_=>trivial|f + 1,k=>#[#[g _,g _],λb=>by cases b with | true=>exact trivial | false=>exact rD g f _]
theorem km:∀ (f k:Nat),kh (λ_=>True) (Wh p f k)
 |0,_=>trivial|f + 1,k=>λb=>by cases b with | true=>exact trivial | false=>exact km f _
theorem pd(e:1<=n)(h:∀ x∈q.toList,x < n):∀ (f:Nat) (p:Zr) (k c:Nat),Good n q p->cj n (Va f p k c)/\kh (λr=>Good n q r.1) (Va f p k c)
 |0,p,k,c,g=>#[trivial,g]
 |f + 1,p,k,c,g=>by
  have a:=λi j l m=>(pd e h f i j l m).1;have r:=λi j l m=>(pd e h f i j l m).2;refine#[#[#[g.low _,g.low _],λb=>?_],λb=>?_]
  .cases b with
   |true =>
    split
    .exact a _ _ _ (g.rev e h _ _)
    .exact a _ _ _ g
   |false=>exact#[#[g.low _,g.low _],λd=>by cases d with | true=>exact trivial | false=>exact a _ _ _ g]
  .cases b with
   |true =>
    split
    .exact r _ _ _ (g.rev e h _ _)
    .exact r _ _ _ g
   |false=>exact λd=>by cases d with | true=>exact g | false=>exact r _ _ _ g
theorem js(a:1<=n)(b:∀ x∈q.toList,x < n)(g:Good n q p)(k m:Nat):cj n (kas_tail3 k m p)/\kh (λr=>Good n q r.2) (kas_tail3 k m p) :=
 have c:=g.rev a b 0 k
 And.intro (cj.bind (f:=λd=>YN _) (λ_ _=>WQ) (rD c.low _ k) (km _ k)) (kh.bind (f:=λd=>YN (d,Wg p 0 k)) (G':=λr=>Good n q r.2) (λ_ _=>c) (km _ k))
theorem fM(a:1<=n)(b:∀ x∈q.toList,x < n)(g:Good n q p)(k m:Nat):cj n (Ym k m p)/\kh (λr=>Good n q r.2) (Ym k m p):=by
 have d:=pd a b (m - (k + 1)) p (k + 1) 0 g;refine#[cj.bind (λr c=>?_) d.1 d.2,kh.bind (λr c=>?_) d.2]
 .split
  .exact(js a b (c.rev a b _ _) _ _).1
  .exact(js a b c _ _).1
 .split
  .exact(js a b (c.rev a b _ _) _ _).2
  .exact(js a b c _ _).2
theorem AA(a:1<=n)(c:∀ x∈q.toList,x < n)(g:Good n q p)(m:Nat):cj n (kas_count m p)/\kh (λr=>Good n q r.2) (kas_count m p):=by
 refine#[cj.bind (λk _=>?_) (rD g.low _ _) (km _ _),kh.bind (λk _=>?_) (km _ _)]
 .split
  .exact trivial
  .split
   .exact#[#[g.low _,g.low _],λb=>by cases b with | true=>exact trivial | false=>exact(fM a c (g.rev a c _ _) _ _).1]
   .exact(fM a c g _ _).1
 .split
  .exact g
  .split
   .exact λb=>by cases b with | true=>exact g | false=>exact(fM a c (g.rev a c _ _) _ _).2
   .exact(fM a c g _ _).2
theorem fu(g:LP n p)(k:Nat):∀ (f l r:Nat),cj n (Vu p k f l r)/\kh (λ_=>True) (Vu p k f l r)
 |0,_,_=>#[trivial,trivial]
 |f + 1,l,r=>by
  have e:Vu p k (f + 1) l r=(if l ≥ r then .ret l else .ask _ _ _):=rfl;rw[e];split
  .exact#[trivial,trivial]
  .refine#[#[#[g _,g _],λb=>?_],λb=>?_]
   .cases b with
    |true=>exact(fu g k f _ _).1|false=>exact(fu g k f _ _).1
   .cases b with
    |true=>exact(fu g k f _ _).2|false=>exact(fu g k f _ _).2
theorem yz(a:1<=n)(b:∀ x∈q.toList,x < n):∀ (f:Nat) (p:Zr) (k:Nat),Good n q p->cj n (kas_bin f p k)
 |0,_,_,_=>trivial|f + 1,p,k,g=>cj.bind (λl _=>yz a b f _ _ (g.TH a b _ _)) (fu g.low k k 0 k).1 (fu g.low k k 0 k).2
theorem Dl(a:1<=n):cj n (YA n):=by
 have b:∀ x∈((ë n).toArray).toList,x < n:=λx d=>by simp_all
 have c:=AA a b (#[Az a (Xk _) b,Xk _]) n;refine cj.bind (λr e=>?_) c.1 c.2;split
 .exact yz a b _ _ _ e
 .exact trivial
end
theorem uS{b:Type}{n:Nat}{cmp:Nat->Nat->Bool}{c:Nat->Nat->(Bool->Ç->Prop)->Ç->Prop}(h:∀ i j (C:Bool->Ç->Prop),i < n->j < n->C (cmp i j) s->c i j C s){Q:b->Ç->Prop} :
  ∀ (t:KasT b),cj n t->Q (run cmp t) s->t.kasWp c Q s
 |.ret _,_,q=>q|.ask i j k,a,q=>h i j _ a.1.1 a.1.2 (uS h _ (a.2 _) q)
def bh:Zi->Zi->Bool
 |[],[]=>false|[],_::_=>true|_::_,[]=>false|x::r,y::q=>if x=y then bh r q else decide (x < y)
theorem kn:∀ a,bh a a=false
 |[]=>rfl|x::r=>by show(if x=x then bh r r else _)=_;rw[Zv rfl];exact kn r
theorem gE:∀ a b c,bh a b->bh b c->bh a c
 |[],[],_,h,_=>by cases h
 |[],_::_,[],_,h=>by cases h
 |[],_::_,_::_,_,_=>rfl|_::_,[],_,h,_=>by cases h
 |_::_,_::_,[],_,h=>by cases h
 |x::a,y::b,z::c,d,e=>by
  have d:(if x=y then bh a b else decide _)=true:=d;have e:(if y=z then bh b c else decide _)=true:=e;show(if x=z then bh a c else decide _)=true;by_cases f:x=y
  .rw[Zv f] at d;by_cases g:y=z
   .rw[Zv g] at e;rw[Zv (f.trans g)];exact gE a b c d e
   grind
  grind
theorem fv:∀ a b,bh a b=false->bh b a=false->a=b
 |[],[],_,_=>rfl|[],_::_,h,_=>by cases h
 |_::_,[],_,h=>by cases h
 |x::a,y::b,c,d=>by
  have c:(if x=y then bh a b else decide _)=false:=c;have d:(if y=x then bh b a else decide _)=false:=d;by_cases e:x=y
  .subst e;rw[Zv rfl] at c d;rw[fv a b c d]
  grind
theorem yA(a b c:Zi)(h:bh a c):bh a b=true∨bh b c:=by
 cases d:bh a b with
 |true=>exact .inl rfl
 |false =>
  right;cases e:bh b a with
  |true=>exact gE b a c e h|false=>rw[<-fv a b d e];exact h
def AB:KeyOrd:=#[Zi,bh,kn,gE,yA,fv]
section
variable {P:å}{w:î}{A:þ}{E:Ä->Ç->Prop}{s:Ç}
def sortedBy(a:⇑Zi)(p:Zh):Prop:=p.Perm (ë a.length)/\(p.map λi=>a.getD i []).Pairwise λx y=>bh y x=false
theorem range_getD(d:α):∀ (l:⇑α),(ë l.length).map (λi=>l.getD i d)=l:=λl=>by
 refine List.ext_getElem ⋯ λi a b=>?_
 simp at a;simp[a]
def LQ(P:å)(w:î)(A:þ)(s:Ç)(a:Zk)(b:Zh->Prop)(c:W3):Prop:=∃ p:Zh,b p/\∀ (E:Ä->Ç->Prop) (Q:Unit × U2->Ç->Prop),(∀ d,failedOf d=none->arrOf d=(p.toArray).map (Uh (a.toArray.zip a.toArray))->Q ((),d) s)->Ü (ß P w) A (sortRuns'.run (Xi c (a.toArray.zip a.toArray) [].toArray 7 none)) Q E s
structure rE(P:Program)(w:World)(A:Around)(s:Shared)(vs:⇑Value)(Pr:⇑Nat->Prop)(kd:SortKind):Prop where
 len:vs.length<=60000
 few:vs.length < 2->Pr (range vs.length)
 all:∀ p,Pr p->p.length=vs.length
 kind:2<=vs.length->∀ (E:Value->Shared->Prop) (Q:SortKind->Shared->Prop),Q kd s->wpAny (model P w) A (keyKind' vs.toArray) Q E s
 run:2<=vs.length->LQ P w A s vs Pr kd
theorem LR(a:n=b.length)(c:n < 2):sortedBy b (ë n):=by
 subst a;refine#[.refl _,?_];rw[range_getD]
 match b,c with
 |[],_=>exact .nil|[_],_=>simp|_::_::_,q=>simp at q;omega
theorem ID(a:b.length=c.length)(d:b.length < 64)(f:∀ i j,i < b.length->j < b.length->∀ (E:Ä->Ç->Prop) (C:Bool->Ç->Prop),C (bh (c.getD i []) (c.getD j [])) s->Ü (ß P w) A (keyLt' h (b.getD i ð) (b.getD j ð)) C E s)(m:2<=b.length):LQ P w A s b (sortedBy c) h:=by
 have o:=IC (O:=AB) (key:=λi=>c.getD i [])  (Vb m)
 refine#[(run (cG AB λi=>c.getD i []) (YA b.length)).toList,?_,λE Q q=>?_]
 .generalize run _ _=p at o;refine#[?_,?_]
  .have:=o.1.toList;simp_all
  .rw[List.pairwise_iff_getElem];intro i j r v x;have z:=by simpa using r
   have B:=by simpa using v
   have g:∀ k,k < p.size->kk AB (λi=>c.getD i []) p k=c.getD (p.toList.getD k 0) []:=λk F=>by show c.getD _ []=_;simp_all
   simpa [z,B] using (by
    have:=(o.2 i j (Vb x) (_l B (by simpa using (o.1.size_eq))));rw[g i z,g j B] at this;exact this:bh (c.getD (p.toList.getD j 0) []) (c.getD (p.toList.getD i 0) [])=false)
 .refine UQ (kat_run (s:=s) (Q:=λI J=>J=s/\failedOf I=none/\arrOf I=(run (cG AB λi=>c.getD i []) (YA b.length)).map (Uh (b.toArray.zip b.toArray)))
   (G:=λp J=>J=s/\p=run (cG AB λi=>c.getD i []) (YA b.length)) rfl m d (λp I J a1 K L N=>#[N.1,L,by rw[K,N.2]])
   (uS (n:=b.length) (cmp:=cG AB λi=>c.getD i []) (λi j C r v U=>f i j r v _ C U) (YA b.length) (Dl (Vb m)) #[rfl,rfl])) ?_ λ_ _ e=>e
  rintro ⟨⟨⟩,I⟩ J ⟨X,hf,Y⟩;subst X;exact q I hf Y
def rF(h a:ö):Prop:=∀ b o,h.get? b=↑o->o.cls=.type "tuple"->a.get? b=↑o
theorem ko{a:È}{vs:Zk}{Pr:Zh->Prop}{kd:W3}{n:Nat}{R:PySem.Fin->Ç->Prop}(ho:s.heap.get? a=↑(UD "list" vs.toArray n))(hk:∀ h',rF s.heap h'->rE P w A { s with heap:=h' } vs Pr kd)
  (h:∀ (p:Zh) (h':ö) (c:Nat),Pr p->(∀ b o,b≠a->s.heap.get? b=↑o->h'.get? b=↑o)->h'.get? a=↑(UD "list" (p.map λi=>vs.getD i ð).toArray c)->R (.done (.ret .none)) { s with heap:=h' }) :
  Ü (ß P w) A (Vq.«list.sort» #[[↥a],[]]) R E s:=by
 have h64:=(hk s.heap λ_ _ e _=>e).len;obtain⟨e1,ho1⟩:∃ e1,(s.heap.update a _).get? a=↑(UD _ _ e1):=#[_,get?_update_seq ho _];have kp:∀ b o,b≠a->s.heap.get? b=↑o->(((s.heap.update a _).push (UD "tuple" vs.toArray 0)).push (UD "list" [].toArray 0)).get? b=↑o:=λb o hb e=>Â _ (Â _ (((U3 s.heap a (Ut λ_=>([].toArray:Zp))).2 b hb).trans e));have ho6:(((s.heap.update a (Ut λ_=>([].toArray:Zp))).push (UD "tuple" vs.toArray 0)).push (UD "list" [].toArray 0)).get? a=↑(UD _ _ e1):=Â _ (Â _ ho1);have hk6:=hk _ (λb o e hc=>kp b o (λq=>by grind) e)
 rw[list_sort_plain];refine À (Yl ho rfl (À (listUpdate_at ho rfl ?_ (by rw[á,gV];omega) (Vl _))))
 refine À (seqEpoch_at ho1 rfl (À (wpAny_newTuple ?_ (by show vs.length<=_;rw[gV];omega))));refine À (WY (û ?_) (Vl _))
 generalize hH:((s.heap.update a _).push _).push _=h6 at kp ho6 hk6 ⊢;have fin:∀ (p:Zh) (out:Zp),out=(p.map λi=>vs.getD i ð).toArray->Pr p->Ü (ß P w) A (do
   let touched:=(<-seqEpoch a) != e1
   Builtin.List.listUpdate _ λ_=>out
   if touched then rule "list.sort.modified";raiseError "ValueError" "list modified during sort"
   ret _) R E { s with heap:=h6 }:=λp out eo hp=>by
  subst eo;refine À (seqEpoch_at ho6 rfl (À (listUpdate_at ho6 rfl ?_ (Vl _) (â (Y5 (by rw[á,Æ,(hk s.heap λ_ _ e _=>e).all p hp])) (by rw[gV];omega)))))
  simp only[bne_self_eq_false,VF,if_false];exact Å (h p _ _ hp (λb o hb e=>((U3 h6 a (Ut λ_=>(p.map λi=>vs.getD i ð).toArray)).2 b hb).trans (kp b o hb e)) (get?_update_seq ho6 λ_=>(p.map λi=>vs.getD i ð).toArray))
 dsimp only;by_cases h2:vs.toArray.size < 2
 .rw[Zv h2,Zv h2];refine À (Å ?_);rw[StateT.run_pure];refine À (Å ?_);dsimp only;refine fin (ë vs.length) _ ?_ ((hk s.heap λ_ _ e _=>e).few (by simpa using h2))
  rw[range_getD];apply YG.mp;rw[Array.toList_map];show List.map _ (vs.toArray.zip vs.toArray).toList=vs;rw[ksk_zip];exact List.map_snd_zip (Î _)
 .rw[Zw h2,Zw h2];have h2':2<=vs.length:=by simpa using h2
  refine À (hk6.kind h2' _ _ ?_);let(p,hp,hr):=hk6.run h2';refine À (hr _ _ λst' hf har=>?_);dsimp only;rw[hf];exact fin p _ (kat_snds rfl har) hp
end
end MySort
namespace TS
open PySem PySem.W PyProof.Rows
structure Tw where
 a:Array Nat
 pending:Array (Nat × Nat × Nat)
 minGallop:Nat
abbrev TM:=StateT Tw Option
section
variable (n:Nat) (cmp:Nat->Nat->Bool)
def QV(x y:Nat):TM Bool:=if x < n/\y < n then pure (cmp x y) else λ_=>none
def yB(a:Zr)(i:Nat):TM Nat:=match a.toList[i]? with
 |↑p=>pure p|none=>λ_=>none
def E0(i j:Nat):TM Bool:=do
 let a:=(<-get).a
 QV n cmp (<-yB a i) (<-yB a j)
def OE(i j:Nat):TM Unit:=modify λs=>{ s with a:=mirror s.a i j ((j - i) / 2) }
def RE(a:Zr)(b c:Nat):Zr:=#[a.toList.take c++((a.toList.drop b).take 1++((a.toList.take b).drop c++a.toList.drop (b + 1)))]
theorem LS(h:src < a.size)(b:dst<=src):RE a src dst=bubble a src (src - dst):=by
 apply Array.ext_getElem?;intro k;rw[getElem?_bubble h _ (_n _ _) k,show src - (src - dst)=dst by exact _H b]
 have c:src < a.toList.length:=h;rw[<-Ug,<-Ug,<-Ug,<-Ug];show(a.toList.take dst++((a.toList.drop src).take 1++((a.toList.take src).drop dst++a.toList.drop _)))[k]?=_;generalize a.toList=l at c;rw[XE,XE,XE,US,US,VE,VE,US,show min dst l.length=dst by omega,show min 1 _=1 by exact _P c,show min src l.length - dst=src - dst by omega,List.getElem?_take,List.getElem?_take,WU,WU,WU,List.getElem?_take]
 by_cases c1:k < dst
 .rw[Zv c1,Zv c1,Zw (Ù c1),Zw ∅]
 .rw[Zw c1];by_cases c2:k=dst
  .rw[Zv (_K c2),Zv (_K c2),Zv c2,show src + (k - dst)=src by omega]
  .rw[Zw ∅,Zw c2]
   by_cases c3:k<=src
   .rw[Zv (_Q (_B c1 c2) c3),Zv ∅,Zv (⟨_B c1 c2,c3⟩),show dst + (k - dst - 1)=k - 1 by exact _R (_B c1 c2)]
   .rw[Zw ∅,Zw ∅,show src + 1 + (k - dst - 1 - (src - dst))=k by exact _S c3 b]
def E1(b c:Nat):TM Unit:=λt=>if b < t.a.size/\c<=b then ↑((),{ t with a:=RE t.a b c }) else none
end
section
variable {prog:å}{w:î}{A:þ}{E:Ä->Ç->Prop}{s:Ç}{κ:W3}{it:Array Keyed}{n:Nat}{cmp:Nat->Nat->Bool}
def co(κ:W3)(it:Array Keyed)(t:Tw):SortSt:=Xi κ (t.a.map (Uh it)) t.pending t.minGallop none
def rG(prog:å)(w:î)(A:þ)(E:Ä->Ç->Prop)(s:Ç)(κ:W3)(it:Array Keyed){a c:Type}(d:c->a)(m:StateT U2 Sem a)(f:TM c):Prop :=
 ∀ (t:Tw) (b:c) (e:Tw),f t=↑(b,e)->∀ Q:a->U2->Ç->Prop,Q (d b) (co κ it e) s->kasC (ß prog w) A E m Q (co κ it t) s
local macro_rules | `(tactic| trivial)=>`(tactic| skip)
section
variable {α β α' β':Type}{r:β->α}{r':β'->α'}
theorem nM(b:β)(e:a=r b):rG prog w A E s κ it r (pure a) (pure b):=λt c d h Q q=>by
 cases h;subst e;exact kasC_pure q
theorem gF(h:rG prog w A E s κ it r m f)(a:∀ b,rG prog w A E s κ it r' (k (r b)) (g b)):rG prog w A E s κ it r' (m >>= k) (f >>= g):=λt b c e Q q=>by
 obtain⟨⟨d,i⟩,j,l⟩:=Ê.mp e;exact kasC_bind (h t d i j _ (a d i b c l Q q))
theorem wq:rG prog w A E s κ it (co κ it) (get:StateT U2 Sem U2) (get:TM Tw):=λt b a e Q q=>by
 cases e;exact kasC_get q
theorem jt(h:∀ t,F (co κ it t)=co κ it (G t)):rG prog w A E s κ it (λu:Unit=>u) (modify F:StateT U2 Sem Unit) (modify G:TM Unit):=λt b t' e Q q=>by
 cases e;apply kasC_modify;rw[h t];exact q
theorem E2:rG prog w A E s κ it (λu:Unit=>u) (liftM (rule x):StateT U2 Sem Unit) (pure ():TM Unit):=λt b a e Q q=>by
 cases e;exact kasC_lift (WA q)
theorem IE[Decidable c](a:c->rG prog w A E s κ it r m f)(b:¬ c->rG prog w A E s κ it r d e):rG prog w A E s κ it r (if c then m else d) (if c then f else e):=by
 split
 .exact a (by assumption)
 .exact b (by assumption)
def jL(r:β->α):ForInStep β->ForInStep α
 |.done b=>.done (r b)|.yield b=>.yield (r b)
theorem yC(h:∀ x b,rG prog w A E s κ it (jL r) (body x (r b)) (a x b)):∀ (l:Zh) (b:β),rG prog w A E s κ it r (forIn l (r b) body) (forIn l b a)
 |[],b=>by
  exact nM b rfl
 |x::l,b=>by
  rw[XB,XB];refine gF (h x b) λc=>?_;cases c with
  |done d=>exact nM d rfl|yield d=>exact yC h l d
end
def ju(prog:å)(w:î)(A:þ)(s:Ç)(κ:W3)(it:Array Keyed)(n:Nat)(cmp:Nat->Nat->Bool):Prop:=∀ i j (C:Bool->Ç->Prop),i < n->j < n->C (cmp i j) s->kas_cmp prog w A κ it i j C s
theorem E3(O:ju prog w A s κ it n cmp)(x y:Nat):rG prog w A E s κ it (λo:Bool=>↑o) (lt' (Uh it x) (Uh it y)) (QV n cmp x y):=λt b a e Q q=>by
 unfold QV at e;split at e
 .rename_i h;cases e;refine kasC_bind (kasC_get ?_);exact kasC_bind (kasC_lift (XW (UQ (O x y (λc d=>d=s/\c=cmp x y) h.1 h.2 #[rfl,rfl]) (λc d f=>by let(rfl,rfl):=f;exact kasC_pure q) λ_ _ g=>g.elim)))
 .cases e
theorem rH(p:Zr)(i:Nat):rG prog w A E s κ it (Uh it) (elem' (p.map (Uh it)) i) (yB p i):=by
 rw[elem'_eq];unfold yB;rw[Array.getElem?_map,Ug];cases p[i]? with
 |none=>exact λt b a e=>by cases e
 |some x=>exact nM x rfl
theorem E4(O:ju prog w A s κ it n cmp)(i j:Nat):rG prog w A E s κ it (λo:Bool=>↑o) (ltAt' i j) (E0 n cmp i j):=by
 refine gF wq λt=>?_;exact gF (rH t.a i) λx=>gF (rH t.a j) λy=>E3 O x y
theorem IF(i j:Nat):rG prog w A E s κ it (λu:Unit=>u) (reverseSlice' i j) (OE i j):=by
 refine jt λt=>?_;show Xi κ (mirror (t.a.map _) i j _) t.pending t.minGallop none=Xi κ _ t.pending t.minGallop none;rw[show mirror _ i j _=(mirror t.a i j _).map _ from kas_swaps_map _ _ _ _ t.a]
theorem E5(k l:Nat):rG prog w A E s κ it (λu:Unit=>u) (moveDown' k l) (E1 k l):=λt b c e Q q=>by
 unfold E1 at e;split at e
 .rename_i h;cases e;apply kasC_modify;show Q () (Xi κ (bubble _ k _) t.pending t.minGallop none) s;rw[(by
   rw[LS h.1 h.2];exact kas_swaps_map _ _ _ _ t.a:bubble _ k _=(RE t.a k l).map _)];exact q
 .cases e
def gX{a:Type}(f:Nat->a->TM (ForInStep a)):Nat->Nat->a->TM a
 |0,_,b=>pure b
 |n + 1,i,b=>f i b >>= λx=>match x with
  |.done b=>pure b|.yield b=>gX f n (i + 1) b
theorem yD(f:Nat->β->TM (ForInStep β)):∀ (n i:Nat) (b:β),gX f n i b=forIn (Vw i n 1) b f
 |0,_,_=>rfl
 |n + 1,i,b=>by
  rw[Xn,XB];show(f i b >>= λx=>_)=_
  congr 1
  funext x
  cases x with
  |done b=>rfl|yield b=>exact yD f n _ b
theorem rJ{d f:Type}{r:f->d}{a b:Nat}{c:f}{g:Nat->d->StateT U2 Sem (ForInStep d)}{i:Nat->f->TM (ForInStep f)}(h:∀ x b,rG prog w A E s κ it (jL r) (g x (r b)) (i x b)):rG prog w A E s κ it r (forIn [a:b] (r c) g) (gX i (b - a) a c):=by
 rw[Std.Legacy.Range.forIn_eq_forIn_range',yD];rw[(by simp:[a:b].size=b - a)];exact yC h _ c
def cZ(prog:å)(w:î)(A:þ)(E:Ä->Ç->Prop)(s:Ç)(κ:W3)(it:Array Keyed){a b:Type}(r:b->a)(m:StateT U2 Sem a):Type:={f:TM b // rG prog w A E s κ it r m f}
section
variable {α β α' β':Type}{r:β->α}{r':β'->α'}
def aJ{a:α}(b:β)(e:a=r b):cZ prog w A E s κ it r (pure a):=#[pure b,nM b e]
def aE{m:StateT U2 Sem α}{k:α->StateT U2 Sem α'}(h:cZ prog w A E s κ it r m)(a:∀ b,cZ prog w A E s κ it r' (k (r b))):cZ prog w A E s κ it r' (m >>= k):=#[h.1 >>= λb=>(a b).1,gF h.2 λb=>(a b).2]
def cN{c:Prop}[Decidable c]{m a:StateT U2 Sem α}(b:cZ prog w A E s κ it r m)(d:cZ prog w A E s κ it r a):cZ prog w A E s κ it r (if c then m else a):=#[if c then b.1 else d.1,IE (λ_=>b.2) λ_=>d.2]
def iA{m:StateT U2 Sem α}:cZ prog w A E s κ it r m:=#[λ_=>none,λ_ _ _ e=>by cases e]
def BI{m a:StateT U2 Sem α}(e:m=a)(h:cZ prog w A E s κ it r a):cZ prog w A E s κ it r m:=#[h.1,by rw[e];exact h.2]
def iB{a b:Nat}(c:β){d:Nat->α->StateT U2 Sem (ForInStep α)}(h:∀ x b,cZ prog w A E s κ it (jL r) (d x (r b))):cZ prog w A E s κ it r (forIn [a:b] (r c) d):=#[gX (λx b=>(h x b).1) (b - a) a c,rJ λx b=>(h x b).2]
end
def uT(O:ju prog w A s κ it n cmp)(i j:Nat):cZ prog w A E s κ it (λo:Bool=>↑o) (ltAt' i j):=#[E0 n cmp i j,E4 O i j]
def E6(i j:Nat):cZ prog w A E s κ it (λu:Unit=>u) (reverseSlice' i j):=#[OE i j,IF i j]
def OF(i j:Nat):cZ prog w A E s κ it (λu:Unit=>u) (moveDown' i j):=#[E1 i j,E5 i j]
def BJ(x:String):cZ prog w A E s κ it (λu:Unit=>u) (liftM (rule x):StateT U2 Sem Unit):=#[pure (),E2]
def RF(O:ju prog w A s κ it n cmp)(a b ok:Nat):cZ prog w A E s κ it (λ_:Unit=>true) (binarySort' a b ok):=by
 refine BI (binarySort'_eq a b ok) ?_;refine aE (r:=λ_:Unit=>((none,()):Zs × Unit)) (iB () λk _=>?_) λ_=>aJ () rfl;refine aE (r:=λx:Nat × Nat=>((none,x):Zs × Nat × Nat)) (iB (0,k) λ_ x=>?_) λx=>aE (OF _ _) λ_=>aJ (ï ()) rfl;exact cN (aJ (ø x) rfl) (aE (uT O _ _) λo=>cN (aJ (ï (x.1,_)) rfl) (aJ (ï (_,x.2)) rfl))
def LU(O:ju prog w A s κ it n cmp)(a z:Nat):cZ prog w A E s κ it (λm:Nat=>↑m) (countRun' a z):=by
 refine BI (countRun'_eq a z) ?_;refine aE (r:=λm:Nat=>((none,m):Option Zu × Nat)) (iB 1 λ_ m=>aE (uT O _ _) λ_=>cN (aJ (ø m) rfl) (aJ (ï (m + 1)) rfl)) λm=>?_;refine cN (aJ m rfl) (cN (aE (uT O _ _) λ_=>cN (aJ m rfl) (aE (E6 _ _) λ_=>?_)) ?_)
 all_goals
  refine aE (BJ _) λ_=>aE (r:=λm:Nat=>((none,m,0):Option Zu × Nat × Nat)) (iB (m + 1) λ_ m=>aE (uT O _ _) λ_=>cN (cN iA (aJ (ï (m + 1)) rfl)) (aE (uT O _ _) λ_=>cN (aJ (ø m) rfl) iA)) λm=>?_;exact cN iA (aE (E6 _ _) λ_=>aE (r:=λm:Nat=>((none,m):Option Zu × Nat)) (iB m λ_ m=>aE (uT O _ _) λ_=>cN (aJ (ø m) rfl) (aJ (ï (m + 1)) rfl)) λm=>aJ m rfl)
def IG(O:ju prog w A s κ it n cmp)(x y:Nat):cZ prog w A E s κ it (λo:Bool=>↑o) (lt' (Uh it x) (Uh it y)):=#[QV n cmp x y,E3 O x y]
def gG(p:Zr)(i:Nat):cZ prog w A E s κ it (Uh it) (elem' (p.map (Uh it)) i):=#[yB p i,rH p i]
def BK:Bool->Keyed->Array Keyed->Nat->Nat->Nat->StateT SortSt Sem Zu:=sortPriv% PySem.Builtin.gallop
def wt(O:ju prog w A s κ it n cmp)(left:Bool)(y:Nat)(p:Zr)(a z c:Nat):cZ prog w A E s κ it (λm:Nat=>↑m) (BK left (Uh it y) (p.map (Uh it)) a z c):=by
 refine aE (r:=λb:Bool=>↑b) (aE (gG p (a + c)) λx=>cN (IG O x y) (aE (IG O y x) λb=>aJ (!b) rfl)) λb=>?_;refine cN ?_ ?_ <;> refine aE (r:=λx:Nat × Nat=>((none,x):Option Zu × Nat × Nat)) (iB (0,1) λ_ x=>cN (aJ (ø x) rfl) (aE (r:=λb:Bool=>↑b) (aE (gG p _) λx=>cN (IG O x y) (aE (IG O y x) λb=>aJ (!b) rfl)) λb=>cN (aJ (ø x) rfl) (aJ (ï (x.2,2 * x.2 + 1)) rfl))) λx=>?_
 .exact aE (r:=λx:Nat × Nat=>((none,x):Option Zu × Nat × Nat)) (iB (c + x.1 + 1,c + min x.2 (z - c)) λ_ x=>cN (aJ (ø x) rfl) (aE (r:=λb:Bool=>↑b) (aE (gG p _) λx=>cN (IG O x y) (aE (IG O y x) λb=>aJ (!b) rfl)) λb=>cN (aJ (ï (_,x.2)) rfl) (aJ (ï (x.1,_)) rfl))) λx=>aJ x.2 rfl
 .exact aE (r:=λx:Nat × Nat=>((none,x):Option Zu × Nat × Nat)) (iB (c + 1 - min x.2 (c + 1),c - x.1) λ_ x=>cN (aJ (ø x) rfl) (aE (r:=λb:Bool=>↑b) (aE (gG p _) λx=>cN (IG O x y) (aE (IG O y x) λb=>aJ (!b) rfl)) λb=>cN (aJ (ï (_,x.2)) rfl) (aJ (ï (x.1,_)) rfl))) λx=>aJ x.2 rfl
def wu{d e:Type}{r:e->d}{a b:Nat}{i:d}(f:Nat)(g:b=f)(c:e)(j:i=r c){k:Nat->d->StateT U2 Sem (ForInStep d)}(h:∀ x b,cZ prog w A E s κ it (jL r) (k x (r b))):cZ prog w A E s κ it r (forIn [a:b] i k):=#[gX (λx b=>(h x b).1) (f - a) a c,by subst g;subst j;exact rJ λx b=>(h x b).2]
def Et{a b:Type}{r:b->a}{c:Prop}[Decidable c]{m d:StateT U2 Sem a}(f:Bool)(e:c↔f=true)(g:cZ prog w A E s κ it r m)(i:cZ prog w A E s κ it r d):cZ prog w A E s κ it r (if c then m else d):=#[match f with
 |true=>g.1
 |false=>i.1,by
 cases f with
 |true=>rw[Zv (e.mpr rfl)];exact g.2
 |false=>rw[Zw λh=>by cases e.mp h];exact i.2]
def AD:cZ prog w A E s κ it (co κ it) (get:StateT U2 Sem U2):=#[get,wq]
def OG:Nat->StateT SortSt Sem Unit:=sortPriv% PySem.Builtin.setMinGallop
def KG(g:Nat):cZ prog w A E s κ it (λu:Unit=>u) (OG g):=#[modify λt=>{ t with minGallop:=g },jt λ_=>rfl]
def OH(O:ju prog w A s κ it n cmp)(left:Bool)(y:Nat)(p:Zr)(a z b c:Nat)(e:z=b):cZ prog w A E s κ it (λm:Nat=>↑m) (BK left (Uh it y) (p.map (Uh it)) a z c):=BI (by rw[e]) (wt O left y p a b c)
def E7:Array Keyed->Array Keyed->StateT SortSt Sem (Array Keyed):=sortPriv% PySem.Builtin.mergeLo
def rs{a:Type}(it:Array Keyed)(x:Option Zr × Zr × a):Option (Array Keyed) × Array Keyed × a:=(x.1.map (Array.map (Uh it)),x.2.1.map (Uh it),x.2.2)
theorem sz(it:Array Keyed)(i:Nat)(p:Zr):(i == (p.map (Uh it)).size)↔(i == p.size):=by rw[size_map]
local macro_rules
 | `(tactic| ac_rfl)=>`(tactic| simp only[rs,jL,map_some,Option.map_none,Array.map_append,Array.map_push,Yz,size_map])| `(tactic| rwa [$O:term,$p:term,$q:term,$out:term,$ia:term,$ib:term,$mg:term,$ac:term,$bc:term])=>`(tactic| exact aE (gG $p $ia) λy=>Et _ (sz _ _ _) (aJ (ø (some (push $out y++VQ $q $ib++VQ $p ($ia + 1)),push $out y,$ia + 1,$ib,$mg,$ac,$bc)) (by ac_rfl)) (cN (aJ (ø (none,push $out y,$ia + 1,$ib,$mg,$ac,$bc)) (by ac_rfl)) (aJ (ï (none,push $out y,$ia + 1,$ib,$mg,$ac,$bc)) (by ac_rfl))))| `(tactic| rwa [$O:term,$p:term,$q:term,$out:term,$ia:term,$ib:term,$mg:term,$ac:term,$bc:term,$_x0:term])=>`(tactic| exact aE (gG $q $ib) λy=>Et _ (sz _ _ _) (aJ (ø (some (push $out y++VQ $p $ia++VQ $q ($ib + 1)),push $out y,$ia,$ib + 1,$mg,$ac,$bc)) (by ac_rfl)) (aE (gG $p $ia) λz=>aE (OH $O true z $q ($ib + 1) _ (Array.size $q - ($ib + 1)) 0 (by simp[rs])) λk=>cN (Et _ (sz _ _ _) (aJ (ø (some (push $out y++VQ $q ($ib + 1) ($ib + 1 + k)++VQ $p $ia++VQ $q ($ib + 1 + k)),push $out y++VQ $q ($ib + 1) ($ib + 1 + k),$ia,$ib + 1 + k,$mg,$ac,k)) (by ac_rfl)) ((by rwa [$O:term,$p:term,$q:term,(push $out y++VQ $q ($ib + 1) ($ib + 1 + k)),$ia:term,($ib + 1 + k),$mg:term,$ac:term,k]))) ((by rwa [$O:term,$p:term,$q:term,(push $out y),$ia:term,($ib + 1),$mg:term,$ac:term,k]))))| `(tactic| rwa [$O:term,$p:term,$q:term,$out:term,$ia:term,$ib:term,$mg:term,$bc:term,$_x0:term,$_x1:term,$_x2:term])=>`(tactic| exact aE (KG $mg) λ_=>aE (gG $q $ib) λy=>aE (OH $O false y $p $ia _ (Array.size $p - $ia) 0 (by simp[rs])) λk=>cN (Et _ (sz _ _ _) (aJ (ø (some ($out++VQ $p $ia ($ia + k)++VQ $q $ib++VQ $p ($ia + k)),$out++VQ $p $ia ($ia + k),$ia + k,$ib,$mg,k,$bc)) (by ac_rfl)) (Et _ (sz _ _ _) (aJ (ø (some ($out++VQ $p $ia ($ia + k)++VQ $p ($ia + k)++VQ $q $ib),$out++VQ $p $ia ($ia + k),$ia + k,$ib,$mg,k,$bc)) (by ac_rfl)) ((by rwa [$O:term,$p:term,$q:term,($out++VQ $p $ia ($ia + k)),($ia + k),$ib:term,$mg:term,k,$bc:term,rfl])))) ((by rwa [$O:term,$p:term,$q:term,$out:term,$ia:term,$ib:term,$mg:term,k,$bc:term,rfl])))
def E8(O:ju prog w A s κ it n cmp)(p q:Zr):cZ prog w A E s κ it (Array.map (Uh it)) (E7 (p.map (Uh it)) (q.map (Uh it))):=by
 refine aE (BJ _) λ_=>aE (gG q 0) λx=>?_;refine Et _ (sz it _ _) (aJ ([x].toArray++p.extract 0++q.extract 1) (by simp only[Array.map_append,Yz,size_map,map_toArray,Ux,map_nil])) ?_
 refine Et _ (sz it _ _) (aJ ([x].toArray++q.extract 1++p.extract 0) (by simp only[Array.map_append,Yz,size_map,map_toArray,Ux,map_nil])) ?_
 refine aE AD λt=>?_;refine aE (r:=rs it) (wu (p.size + q.size) (by simp) (none,[x].toArray,0,1,t.minGallop) (by simp[rs];rfl) λ_ a=>?_) λa=>?_
 .let(_,out,b,ib,c):=a;refine aE (r:=rs it) (wu (p.size + q.size) (by simp) (none,out,b,ib,0,0) (by simp[rs]) λ_ a=>?_) λa=>?_
  .let(_,out,b,ib,d,e):=a;refine aE (gG q ib) λy=>aE (gG p b) λz=>aE (IG O y z) λo=>cN (aE (gG q ib) λy=>?_) (aE (gG p b) λy=>?_)
   .exact Et _ (sz it _ _) (aJ (ø (↑(out.push y++p.extract b++q.extract (ib + 1)),out.push y,b,ib + 1,0,e + 1)) (by simp[rs,jL])) (cN (aJ (ø (none,out.push y,b,ib + 1,0,e + 1)) (by simp[rs,jL])) (aJ (ï (none,out.push y,b,ib + 1,0,e + 1)) (by simp[rs,jL])))
   .exact Et _ (sz it _ _) (aJ (ø (↑(out.push y++q.extract ib++p.extract (b + 1)),out.push y,b + 1,ib,d + 1,0)) (by simp[rs,jL])) (cN (aJ (ø (none,out.push y,b + 1,ib,d + 1,0)) (by simp[rs,jL])) (aJ (ï (none,out.push y,b + 1,ib,d + 1,0)) (by simp[rs,jL])))
  .let(o,out,b,ib,d,e):=a;cases o with
   |some v=>exact aJ (ø (↑v,out,b,ib,c)) rfl
   |none =>
    refine aE (BJ _) λ_=>?_;refine aE (r:=rs it) (wu (p.size + q.size) (by simp) (none,out,b,ib,c + 1,d,e) (by simp[rs]) λ_ a=>?_) λa=>?_
    .let(_,out,b,ib,c,d,e):=a;exact cN ((by rwa [O,p,q,out,b,ib,(c - 1),e,rfl,rfl,rfl])) ((by rwa [O,p,q,out,b,ib,c,e,rfl,rfl,rfl]))
    .let(o,out,b,ib,c,d,e):=a;cases o with
     |some v=>exact aJ (ø (↑v,out,b,ib,c)) rfl|none=>exact aE (KG (c + 1)) λ_=>aJ (ï (none,out,b,ib,c + 1)) rfl
 .let(o,_):=a;cases o with
  |none=>exact iA|some v=>exact aJ v rfl
def RG(a:Tw){S:U2}(e:S=co κ it a):cZ prog w A E s κ it (λu:PUnit=>u) (set S:StateT U2 Sem PUnit):=#[modify λ_=>a,by subst e;exact jt (F:=λ_=>co κ it a) λ_=>rfl]
def LV{F:U2->U2}(G:Tw->Tw)(h:∀ t,F (co κ it t)=co κ it (G t)):cZ prog w A E s κ it (λu:Unit=>u) (modify F:StateT U2 Sem Unit):=#[modify G,jt h]
theorem fold_map(f:Nat->Keyed)(d:Nat):∀ (l:Zh) (j:Nat) (a:Zr),((l.map f).zipIdx j).foldl (λa x=>setIfInBounds a (d + x.2) x.1) (a.map f)=((l.zipIdx j).foldl (λa x=>setIfInBounds a (d + x.2) x.1) a).map f
 |[],_,_=>rfl
 |x::l,j,a=>by
  show((l.map f).zipIdx _).foldl _ ((a.map f).setIfInBounds (d + j) (f x))=_;rw[(⋯:(a.map f).setIfInBounds _ _=(a.setIfInBounds (d + j) x).map f)];exact fold_map f d l _ _
def QW(a:Zr)(d:Nat)(l:Zh):Zr:=#[a.toList.take d++(l++a.toList.drop (d + l.length))]
theorem E9(d:Nat):∀ (l:Zh) (j:Nat) (a:Zr),d + j + l.length<=a.size->(l.zipIdx j).foldl (λa x=>setIfInBounds a (d + x.2) x.1) a=QW a (d + j) l
 |[],j,a,_=>by
  show a=_;unfold QW;simp_all
 |x::l,j,a,h=>by
  have b:d + j + (l.length + 1)<=a.toList.length:=h;show(l.zipIdx _).foldl _ (a.setIfInBounds (d + j) x)=_;rw[E9 d l _ _ (by rw[Array.size_setIfInBounds];exact â (_u (Î _)) b)]
  unfold QW;rw[Array.toList_setIfInBounds,List.set_eq_take_append_cons_drop,Zv (Ò (_a (V9 _ _)) b)]
  generalize a.toList=m at b;have c:(m.take (d + j)).length=d + j:=by rw[US];exact Yy (â (V9 _ _) b)
  have e:(m.take (d + j)++x::m.drop (d + j + 1)).take (d + (j + 1))=m.take (d + j)++[x]:=by
   rw[List.take_append,c,show d + (j + 1) - (d + j)=1 by exact _T (_J _),Vz (â (Y5 c) ∅)]
   rfl
  have f:(m.take (d + j)++x::m.drop (d + j + 1)).drop (d + (j + 1) + l.length)=m.drop (d + j + (l.length + 1)):=by
   rw[List.drop_append,c,show d + (j + 1) + l.length - (d + j)=l.length + 1 by omega,W6 (â (Y5 c) (by exact _q (V9 _ _))),List.drop_succ_cons,List.drop_drop,V8,show d + j + 1 + l.length=d + j + (l.length + 1) by omega]
  rw[e,f,Vt];rfl
def OI{F:U2->U2}(c:Tw->Bool)(G:Tw->Tw)(h:∀ t,c t=true->F (co κ it t)=co κ it (G t)):cZ prog w A E s κ it (λu:Unit=>u) (modify F:StateT U2 Sem Unit):=#[λt=>match c t with
 |true=>↑((),G t)
 |false=>none,λt b t' e Q q=>by
 dsimp only at e;cases hc:c t with
 |false=>rw[hc] at e;cases e
 |true =>
  rw[hc] at e;cases e;refine kasC_modify ?_;rw[h t hc];exact q]
def yE(O:ju prog w A s κ it n cmp)(i:Nat):cZ prog w A E s κ it (λ_:Unit=>true) (mergeAt' i):=by
 refine aE AD λt=>?_;generalize (pendingOf (co κ it t))[i]?=b;generalize (pendingOf (co κ it t))[i + 1]?=c;rcases b with _ | ⟨d,f,g⟩
 .exact iA
 rcases c with _ | ⟨sb,h,_⟩
 .exact iA
 refine aE (RG { t with pending:=(t.pending.setIfInBounds i (d,f + h,g)).eraseIdxIfInBounds (i + 1) } rfl) λ_=>?_;refine aE (gG t.a sb) λy=>aE (wt O false y t.a d f 0) λk=>?_;refine cN (aJ () rfl) (aE (gG t.a _) λy=>aE (wt O true y t.a sb h (h - 1)) λh=>cN (aJ () rfl) (cN (aE (BI ?_ (E8 O (t.a.extract (d + k) sb) (t.a.extract sb (sb + h)))) λv=>?_) iA))
 .rw[Yz,Yz];rfl
 .refine aE (OI (λu=>ble (d + k + v.toList.length) u.a.size) (λu=>{ u with a:=QW u.a (d + k) v.toList }) λu j=>?_) λ_=>aE AD λ_=>aJ () rfl;have e:=fold_map (Uh it) (d + k) v.toList 0 u.a;rw[<-Array.toList_map,E9 (d + k) v.toList 0 u.a (Nat.le_of_ble_eq_true j)] at e;exact congrArg (λa=>Xi κ a u.pending u.minGallop none) e
structure OJ(prog:Program)(w:World)(A:Around)(E:Value->Shared->Prop)(s:Shared)(κ:SortKind)(it:Array Keyed)(z:Nat)(m:StateT SortSt Sem Unit) where
 body:Nat->Nat->TM (ForInStep Nat)
 tail:Nat->TM Unit
 sim:rG prog w A E s κ it (λu:Unit=>u) m (gX body z 0 0 >>= tail)
def TJ{a:Type}{r:Nat->a}{i:a}{z:Nat}(c:i=r 0){B:Nat->a->StateT U2 Sem (ForInStep a)}{k:a->StateT U2 Sem Unit}(d:∀ x e,cZ prog w A E s κ it (jL r) (B x (r e)))(f:∀ e,cZ prog w A E s κ it (λu:Unit=>u) (k (r e))) :
  OJ prog w A E s κ it z (forIn [0:z] i B >>= k) where
 body:=λx e=>(d x e).1
 tail:=λe=>(f e).1
 sim:=by
  subst c;exact gF (rJ λx b=>(d x b).2) λb=>(f b).2
structure uU(prog:Program)(w:World)(A:Around)(E:Value->Shared->Prop)(s:Shared)(κ:SortKind)(it:Array Keyed)(m:StateT SortSt Sem Unit) where
 body:Tw->Nat->Nat->TM (ForInStep Nat)
 tail:Tw->Nat->TM Unit
 sim:rG prog w A E s κ it (λu:Unit=>u) m (get >>= λt=>gX (body t) t.a.size 0 0 >>= tail t)
def TK{F:U2->StateT U2 Sem Unit}(h:∀ t:Tw,OJ prog w A E s κ it t.a.size (F (co κ it t))):uU prog w A E s κ it (get >>= F) where
 body:=λt=>(h t).body
 tail:=λt=>(h t).tail
 sim:=gF wq λt=>(h t).sim
def uU.cast{m a:StateT U2 Sem Unit}(e:m=a)(h:uU prog w A E s κ it a):uU prog w A E s κ it m:=#[h.body,h.tail,by rw[e];exact h.sim]
def dN(O:ju prog w A s κ it n cmp):uU prog w A E s κ it sortRuns':=by
 refine uU.cast sortRuns'_eq (TK λt=>?_);generalize hz:Array.size (arrOf (co κ it t))=z;have b:t.a.size=z:=Array.size_map.symm.trans hz;clear hz;subst b;refine TJ (r:=λm:Nat=>((none,m):Option Unit × Nat)) rfl (λ_ c=>cN (aJ (ø c) rfl) (aE (LU O _ _) λm=>?_)) (λ_=>?_)
 .refine cN (aE (BJ _) λ_=>aE (RF O _ _ _) λ_=>cN iA (aE AD λu=>?_)) (aE AD λu=>?_)
  all_goals
   generalize Array.back? (pendingOf (co κ it u))=d;rcases d with _ | ⟨s1,n1,_⟩
   .exact aE (LV (λu=>{ u with pending:=u.pending.push (c,_,0) }) λ_=>rfl) λ_=>aJ (ï (c + _)) rfl
   .refine aE (r:=λ_:Unit=>((none,()):Option Unit × Unit)) (iB () λ_ _=>aE AD λu=>?_) λ_=>aE (LV (λu=>{ u with pending:=u.pending.modify (u.pending.size - 1) λx=>(x.1,x.2.1,_) }) λ_=>rfl) λ_=>aE (LV (λu=>{ u with pending:=u.pending.push (c,_,0) }) λ_=>rfl) λ_=>aJ (ï (c + _)) rfl;dsimp only;generalize (if Array.size (pendingOf (co κ it u)) > 1 then(pendingOf (co κ it u))[Array.size (pendingOf (co κ it u)) - 2]? else none)=e;rcases e with _ | ⟨_,_,f⟩
    .exact aJ (ø ()) rfl
    .exact cN (aJ (ø ()) rfl) (aE (yE O _) λ_=>cN iA (aJ (ï ()) rfl))
 .exact aE (r:=λ_:Unit=>((none,()):Option Unit × Unit)) (iB () λ_ _=>aE AD λu=>cN (aJ (ø ()) rfl) (aE (yE O _) λ_=>cN iA (aJ (ï ()) rfl))) λ_=>aJ () rfl
end
def gY:Nat->Nat->Nat->Zh
 |0,_,h=>[h]|b + 1,v,h=>gY b (2 * v) (h + v)++gY b (2 * v) h
def neN:Nat->Nat->Nat->Zh
 |0,_,_=>[]|b + 1,v,h=>(h + v)::(neN b (2 * v) (h + v)++neN b (2 * v) h)
def sN(b:Nat):Zh:=0::neN b 1 0
def kq:Nat->Nat->Nat->Zh
 |0,_,_=>[]|k + 1,i,m=>if Nat.testBit m 0 then i::kq k (i + 1) (m / 2) else kq k (i + 1) (m / 2)
def IH:Zh->Zh->Bool
 |[],[]=>false|[],_::_=>true|_::_,[]=>false|a::r,b::q=>if beq a b then IH r q else Nat.blt a b
def eY(K i j:Nat):Bool:=IH (kq K 0 i) (kq K 0 j)
section
variable {prog:å}{w:î}{A:þ}{E:Ä->Ç->Prop}{s:Ç}{κ:W3}{it:Array Keyed}
def T0(K:Nat):Tw:=#[#[ë (2 ^ K)],[].toArray,7]
def TZ(K p:Nat):Tw:=#[#[sN K],[(0,2 ^ K,p)].toArray,7]
theorem jM{a:Type}{f:Nat->a->TM (ForInStep a)}{n i:Nat}{b c:a}{t d:Tw}{r:Option (a × Tw)}(h:f i b t=↑(.yield c,d))(e:gX f n (i + 1) c d=r):gX f (n + 1) i b t=r:=by
 show Option.bind _ _=r;rw[h];exact e
def Il{K:Nat}(O:ju prog w A s κ it (2 ^ K) (eY K)):TM Unit:=get >>= λt=>gX ((dN (E:=E) O).body t) t.a.size 0 0 >>= (dN (E:=E) O).tail t
theorem two{K n:Nat}{t:Tw}(O:ju prog w A s κ it (2 ^ K) (eY K))(h:gX ((dN (E:=E) O).body (T0 K)) (2 ^ K) 0 0 (T0 K)=↑(n,t))(a:(dN (E:=E) O).tail (T0 K) n t=r):Il (E:=E) O (T0 K)=r:=by
 show Option.bind (gX _ (ë _).length 0 0 _) _=r;rw[ó,h];exact a
theorem w1(O:ju prog w A s κ it (2 ^ 1) (eY 1)):Il (E:=E) O (T0 1)=↑((),TZ 1 0):=by kernel_rfl
theorem w2(O:ju prog w A s κ it (2 ^ 2) (eY 2)):Il (E:=E) O (T0 2)=↑((),TZ 2 0):=by kernel_rfl
theorem w3(O:ju prog w A s κ it (2 ^ 3) (eY 3)):Il (E:=E) O (T0 3)=↑((),TZ 3 0):=by kernel_rfl
theorem w4(O:ju prog w A s κ it (2 ^ 4) (eY 4)):Il (E:=E) O (T0 4)=↑((),TZ 4 0):=by kernel_rfl
theorem w5(O:ju prog w A s κ it (2 ^ 5) (eY 5)):Il (E:=E) O (T0 5)=↑((),TZ 5 0):=by kernel_rfl
theorem w6(O:ju prog w A s κ it (2 ^ 6) (eY 6)):Il (E:=E) O (T0 6)=↑((),TZ 6 1):=by kernel_rfl
theorem RH(O:ju prog w A s κ it (2 ^ 7) (eY 7)):(dN (E:=E) O).body (T0 7) 0 0 (T0 7)=↑(.yield 32,#[#[sN 5++Vw 32 96],[(0,32,0)].toArray,7]):=by kernel_rfl
theorem RI(O:ju prog w A s κ it (2 ^ 7) (eY 7)):(dN (E:=E) O).body (T0 7) 1 32 #[#[sN 5++Vw 32 96],[(0,32,0)].toArray,7]=↑(.yield 64,#[#[sN 5++(gY 5 1 32++Vw 64 64)],[(0,32,2),(32,32,0)].toArray,7]):=by kernel_rfl
theorem RJ(O:ju prog w A s κ it (2 ^ 7) (eY 7)):(dN (E:=E) O).body (T0 7) 2 64 #[#[sN 5++(gY 5 1 32++Vw 64 64)],[(0,32,2),(32,32,0)].toArray,7]=↑(.yield 96,#[#[sN 6++(gY 5 1 64++Vw 96 32)],[(0,64,1),(64,32,0)].toArray,7]):=by kernel_rfl
theorem RK(O:ju prog w A s κ it (2 ^ 7) (eY 7)):(dN (E:=E) O).body (T0 7) 3 96 #[#[sN 6++(gY 5 1 64++Vw 96 32)],[(0,64,1),(64,32,0)].toArray,7]=↑(.yield 128,#[#[sN 6++(gY 5 1 64++gY 5 1 96)],[(0,64,1),(64,32,2),(96,32,0)].toArray,7]):=by kernel_rfl
theorem RL(O:ju prog w A s κ it (2 ^ 7) (eY 7)):gX ((dN (E:=E) O).body (T0 7)) 124 4 128 #[#[sN 6++(gY 5 1 64++gY 5 1 96)],[(0,64,1),(64,32,2),(96,32,0)].toArray,7]=↑(128,#[#[sN 6++(gY 5 1 64++gY 5 1 96)],[(0,64,1),(64,32,2),(96,32,0)].toArray,7]):=by kernel_rfl
theorem RM(O:ju prog w A s κ it (2 ^ 7) (eY 7)):(dN (E:=E) O).tail (T0 7) 128 #[#[sN 6++(gY 5 1 64++gY 5 1 96)],[(0,64,1),(64,32,2),(96,32,0)].toArray,7]=↑((),TZ 7 1):=by kernel_rfl
theorem w7(O:ju prog w A s κ it (2 ^ 7) (eY 7)):Il (E:=E) O (T0 7)=↑((),TZ 7 1):=two O (jM (RH O) (jM (RI O) (jM (RJ O) (jM (RK O) (RL O))))) (RM O)
theorem RN(O:ju prog w A s κ it (2 ^ 8) (eY 8)):(dN (E:=E) O).body (T0 8) 0 0 (T0 8)=↑(.yield 32,#[#[sN 5++Vw 32 224],[(0,32,0)].toArray,7]):=by kernel_rfl
theorem RO(O:ju prog w A s κ it (2 ^ 8) (eY 8)):(dN (E:=E) O).body (T0 8) 1 32 #[#[sN 5++Vw 32 224],[(0,32,0)].toArray,7]=↑(.yield 64,#[#[sN 5++(gY 5 1 32++Vw 64 192)],[(0,32,3),(32,32,0)].toArray,7]):=by kernel_rfl
theorem RP(O:ju prog w A s κ it (2 ^ 8) (eY 8)):(dN (E:=E) O).body (T0 8) 2 64 #[#[sN 5++(gY 5 1 32++Vw 64 192)],[(0,32,3),(32,32,0)].toArray,7]=↑(.yield 96,#[#[sN 6++(gY 5 1 64++Vw 96 160)],[(0,64,2),(64,32,0)].toArray,7]):=by kernel_rfl
theorem RQ(O:ju prog w A s κ it (2 ^ 8) (eY 8)):(dN (E:=E) O).body (T0 8) 3 96 #[#[sN 6++(gY 5 1 64++Vw 96 160)],[(0,64,2),(64,32,0)].toArray,7]=↑(.yield 128,#[#[sN 6++(gY 5 1 64++(gY 5 1 96++Vw 128 128))],[(0,64,2),(64,32,3),(96,32,0)].toArray,7]):=by kernel_rfl
theorem RS(O:ju prog w A s κ it (2 ^ 8) (eY 8)):(dN (E:=E) O).body (T0 8) 4 128 #[#[sN 6++(gY 5 1 64++(gY 5 1 96++Vw 128 128))],[(0,64,2),(64,32,3),(96,32,0)].toArray,7]=↑(.yield 160,#[#[sN 7++(gY 5 1 128++Vw 160 96)],[(0,128,1),(128,32,0)].toArray,7]):=by kernel_rfl
theorem RT(O:ju prog w A s κ it (2 ^ 8) (eY 8)):(dN (E:=E) O).body (T0 8) 5 160 #[#[sN 7++(gY 5 1 128++Vw 160 96)],[(0,128,1),(128,32,0)].toArray,7]=↑(.yield 192,#[#[sN 7++(gY 5 1 128++(gY 5 1 160++Vw 192 64))],[(0,128,1),(128,32,3),(160,32,0)].toArray,7]):=by kernel_rfl
theorem RU(O:ju prog w A s κ it (2 ^ 8) (eY 8)):(dN (E:=E) O).body (T0 8) 6 192 #[#[sN 7++(gY 5 1 128++(gY 5 1 160++Vw 192 64))],[(0,128,1),(128,32,3),(160,32,0)].toArray,7]=↑(.yield 224,#[#[sN 7++(gY 6 1 128++(gY 5 1 192++Vw 224 32))],[(0,128,1),(128,64,2),(192,32,0)].toArray,7]):=by kernel_rfl
theorem RV(O:ju prog w A s κ it (2 ^ 8) (eY 8)):(dN (E:=E) O).body (T0 8) 7 224 #[#[sN 7++(gY 6 1 128++(gY 5 1 192++Vw 224 32))],[(0,128,1),(128,64,2),(192,32,0)].toArray,7]=↑(.yield 256,#[#[sN 7++(gY 6 1 128++(gY 5 1 192++gY 5 1 224))],[(0,128,1),(128,64,2),(192,32,3),(224,32,0)].toArray,7]):=by kernel_rfl
theorem RX(O:ju prog w A s κ it (2 ^ 8) (eY 8)):gX ((dN (E:=E) O).body (T0 8)) 248 8 256 #[#[sN 7++(gY 6 1 128++(gY 5 1 192++gY 5 1 224))],[(0,128,1),(128,64,2),(192,32,3),(224,32,0)].toArray,7]=↑(256,#[#[sN 7++(gY 6 1 128++(gY 5 1 192++gY 5 1 224))],[(0,128,1),(128,64,2),(192,32,3),(224,32,0)].toArray,7]):=by kernel_rfl
theorem RY(O:ju prog w A s κ it (2 ^ 8) (eY 8)):(dN (E:=E) O).tail (T0 8) 256 #[#[sN 7++(gY 6 1 128++(gY 5 1 192++gY 5 1 224))],[(0,128,1),(128,64,2),(192,32,3),(224,32,0)].toArray,7]=↑((),TZ 8 1):=by kernel_rfl
theorem w8(O:ju prog w A s κ it (2 ^ 8) (eY 8)):Il (E:=E) O (T0 8)=↑((),TZ 8 1):=two O (jM (RN O) (jM (RO O) (jM (RP O) (jM (RQ O) (jM (RS O) (jM (RT O) (jM (RU O) (jM (RV O) (RX O))))))))) (RY O)
theorem RZ{K:Nat}(a:1<=K)(b:K<=8)(O:ju prog w A s κ it (2 ^ K) (eY K)):∃ p,Il (E:=E) O (T0 K)=↑((),TZ K p):=by
 match K,a,b,O with
 |1,_,_,O=>exact#[_,w1 O]|2,_,_,O=>exact#[_,w2 O]|3,_,_,O=>exact#[_,w3 O]|4,_,_,O=>exact#[_,w4 O]|5,_,_,O=>exact#[_,w5 O]|6,_,_,O=>exact#[_,w6 O]|7,_,_,O=>exact#[_,w7 O]|8,_,_,O=>exact#[_,w8 O]
theorem runL{K:Nat}(a:1<=K)(b:K<=8)(c:d.length=2 ^ K)(O:ju prog w A s κ (d.toArray.zip d.toArray) (2 ^ K) (eY K)):MySort.LQ prog w A s d (λp=>p=sN K) κ:=by
 refine#[sN K,rfl,λE Q q=>?_];let(f,e):=RZ  a b O;rw[(by
  have e:=kas_range (d.toArray.zip d.toArray);rw[show(d.toArray.zip d.toArray).size=2 ^ K by simp[c]] at e
  show _=Xi κ ((toArray _).map _) [].toArray 7 none;rw[e]:Xi κ _ _ 7 none=co κ _ (T0 K))];refine UQ ((dN  O).sim _ () _ e (λu g i=>i=s/\failedOf g=none/\arrOf g=((sN K).toArray).map _) #[rfl,rfl,rfl]) (λx i h=>?_) λ_ _ e=>e;let(rfl,k,l):=h;exact q x.2 k l
end
end TS
namespace HT
open PySem PyProof.Rows
section
open PySem.SeqAt
open PySem.AutoSeq1 (wpAny_loadPart')
open PySem.MeetsSeq PySem.MeetsSeq2 PySem.MeetsSeq3
open MySort (bh)
def leB(a b:Zi):Bool:=!bh b a
theorem Fb(x y:Int)(r q:Zi):leB (x::r) (y::q)=if x=y then leB r q else decide (x<=y):=by
 show(!(if y=x then bh q r else decide _))=_;by_cases e:x=y
 .rw[Zv e,Zv e.symm];rfl
 grind
theorem Fc(A:þ)(s:Ç)(a:Int)(t:Tok)(c:Int)(u:Tok)(P:å)(w:î)(E:Ä->Ç->Prop)(Q:Ä->Ç->Prop)(h:Q (.bool (decide (a<=c))) s):Ü (ß P w) A (richCompare .LtE (.int a t) (.int c u)) Q E s :=
 (PyProof.Rows.le_int h:Ü _ A _ Q E s)
theorem uk(l b:È)(f i:Zp)(n n2:Nat)(dd j:Zl)(sl k:Array Zn)(m o:Zi)(hi:Wu f.toList m)(hj:Wu i.toList o) :
  Meets (Vq.«tuple.__le__» #[[↥l,↥b],[]]) (λ_ R s=>s.heap.get? l=↑{ cls:=.type "tuple",dict:=dd,data:=.seq f n,slots:=sl }/\s.heap.get? b=↑{ cls:=.type "tuple",dict:=j,data:=.seq i n2,slots:=k }/\R (.ok (.ret (.bool (leB m o)))) s) :=
 .of_wp λP w A R s h=>by
  let(p,g,d,r,v):=s;let(hl,hb,h):=h;have f2:=AutoSeq1.sub_tuple_tuple;have z1:f.size=m.length:=by rw[<-hi.length];simp
  have z2:i.size=o.length:=by rw[<-hj.length];simp
  wp_walk using VA hl,VA hb,wpAny_forIn_list _ (λz b B=>b.1=none/\B=#[p,g,d,r,v]/\∃ (C E:Zk) (F G:Zi),z=C.zip E/\Wu C F/\Wu E G/\F.length + i.size=G.length + f.size/\R (.ok (.ret (.bool (leB F G)))) #[p,g,d,r,v]) _
  case turn =>
   rintro ⟨y,x⟩ z b B ⟨H,rfl,C,E,F,G,hz,I,J,hlen,hR⟩;cases I with
   |nil=>rw[List.zip_nil_left] at hz;cases hz
   |cons a t K =>
    cases J with
    |nil=>rw[List.zip_nil_right] at hz;cases hz
    |cons c u L =>
     rw[WK] at hz;injection hz with N U;injection N with hy hx;subst hy hx;rw[Fb] at hR;simp only[Þ] at hlen;let(e,he,X):=EL A.in1 #[p,g,d,r,v] a t c u;refine À (he P w _ _ ?_);cases e with
     |true =>
      rw[Zv (X.mp rfl)] at hR;wp_walk;exact#[rfl,rfl,_,_,_,_,U,K,L,by omega,hR]
     |false =>
      rw[Zw (λq=>absurd (X.mpr q) ê)] at hR;have Y:=Fc A.in1 #[p,g,d,r,v] a t c u P w
      wp_walk using Y
      exact#[_,rfl,by simpa using hR]
  case fin =>
   rintro ⟨b1,b2⟩ B ⟨H,rfl,C,E,F,G,hz,I,J,hlen,hR⟩;simp only at H;subst H;have hv:leB F G=decide (f.size<=i.size):=by
    cases I with
    |nil =>
     cases J with
     |nil=>simp only[UG] at hlen;exact(Zz (Y5 (_b (_L hlen)))).symm|cons c u hw=>simp only[UG,Þ] at hlen;exact(Zz ∅).symm
    |cons a t hv =>
     cases J with
     |nil=>simp only[UG,Þ] at hlen;exact(ZA ∅).symm|cons c u hw=>rw[WK] at hz;cases hz
   rw[hv] at hR;wp_walk;exact#[_,rfl,by simpa [tupleCompareSizes] using hR]
  case h=>exact#[rfl,rfl,f.toList,i.toList,m,o,rfl,hi,hj,by omega,h]
end
section
variable {P:å}{w:î}{A:þ}{E:Ä->Ç->Prop}{s:Ç}
theorem AE(a:XM s.heap l c)(d:XM s.heap b e)(f:Wu c.toList ns)(g:Wu e.toList ms)
  (i:A.units < Vj) (h:Q (.bool (leB ns ms)) s):Ü (ß P w) A (UP .LtE ↥l ↥b) Q E s:=by
 obtain⟨⟨j,k,m,sl⟩,o,p,n,hd⟩:=id a;obtain⟨⟨q,r,u,v⟩,y,z,n2,B⟩:=id d;subst p hd z B;exact richCompare_meets_room (op:=.LtE) #[_,o,rfl] #[_,y,rfl] PySem.F.slot_tuple_le PySem.F.entry_tuple_le (PySem.F.args_tuple_le_2 _ _) (uk l b c e n n2 k r sl v ns ms f g)
  #[o,y,show Xl _≠Value.notImplemented/\Q _ s from#[(λx=>nomatch x),h]] i
theorem BL{t b:È}{a:Zk}{Q:Ä->Ç->Prop}(c:XM s.heap t [].toArray)(d:XM s.heap b a.toArray)(h:Q ↥b s):Ü (ß P w) A (UT .Add ↥t ↥b) Q E s:=by
 obtain⟨⟨e,f,g,sl⟩,i,j,n,hd⟩:=id c;obtain⟨⟨k,l,m,o⟩,p,q,n2,r⟩:=id d;subst j hd q r;exact concat_meets #[_,i,rfl] #[_,p,rfl] XO YZ VY VT (VN _ _) (tuple_addW0 t b _ a.toArray n n2 f l sl o ⋯) #[i,p,h]
theorem nO:seqRepeat? (.type "tuple")=pure ↑(.builtin "tuple.__mul__"):=by
 first | kernel_rfl | rfl | grind
theorem iX:fillsNumberSlot (.type "tuple") "mul"=pure false:=by
 first | kernel_rfl | rfl
theorem rK(a:Int)(t:Tok)(l:È)(b:Zp)(n:Nat)(c:Zl)(sl:Array Zn) :
  Meets (Vq.«int.__rmul__» #[[.int a t,↥l],[]]) (λ_ R s=>s.heap.get? l=↑{ cls:=.type "tuple",dict:=c,data:=.seq b n,slots:=sl }/\R (.ok (.ret Value.notImplemented)) s) :=
 .of_wp λP w A R s h=>by let(d,h):=h;wp_walk;exact#[_,rfl,h]
theorem yF(l:È)(a:Zp)(k:Int)(u:Tok)(n:Nat)(b:Zl)(sl:Array Zn)(c:¬ (decide (k < -(2 ^ 63)) || decide (k ≥ 2 ^ 63)))(d:(a.isEmpty || k == 1)) :
  Meets (Vq.«tuple.__mul__» #[[↥l,.int k u],[]]) (λ_ R s=>s.heap.get? l=↑{ cls:=.type "tuple",dict:=b,data:=.seq a n,slots:=sl }/\R (.ok (.ret ↥l)) s) :=
 .of_wp λP w A R s h=>by
  let(e,h):=h
  wp_walk using Vk e
  simp only[c,if_false]
  wp_walk using Vk e
  exact#[_,rfl,h]
theorem mul_zero(l:È)(a:Zp)(k:Int)(u:Tok)(n:Nat)(b:Zl)(sl:Array Zn)(c:¬ (decide (k < -(2 ^ 63)) || decide (k ≥ 2 ^ 63)))(d:¬ (a.isEmpty || k == 1))(e:(decide (k<=0) || a.isEmpty)) :
  Meets (Vq.«tuple.__mul__» #[[↥l,.int k u],[]]) (λ_ R s=>s.heap.get? l=↑{ cls:=.type "tuple",dict:=b,data:=.seq a n,slots:=sl }/\R (.ok (.ret ↥s.heap.objs.size)) { s with heap:=s.heap.push { cls:=.type "tuple",data:=.seq [].toArray } }) :=
 .of_wp λP w A R s h=>by
  let(f,h):=h
  wp_walk using Vk f
  simp only[c,if_false]
  wp_walk using Vk f
  exact#[_,rfl,h]
theorem yG(l:È)(a:Zp)(k:Int)(u:Tok)(n:Nat)(b:Zl)(sl:Array Zn)(c:¬ (decide (k < -(2 ^ 63)) || decide (k ≥ 2 ^ 63)))(d:¬ (a.isEmpty || k == 1))(e:¬ (decide (k<=0) || a.isEmpty))
  (f:¬ (a.size:Int) * k > (2 ^ 63 - 1) / 8) (g:¬ tupleTooMany ((a.size:Int) * k)) (i:(foldl (λx y=>x++y) [].toArray (ì k.toNat a)).size<=sizeLine) :
  Meets (Vq.«tuple.__mul__» #[[↥l,.int k u],[]]) (λ_ R s=>s.heap.get? l=↑{ cls:=.type "tuple",dict:=b,data:=.seq a n,slots:=sl }/\R (.ok (.ret ↥s.heap.objs.size)) { s with heap:=s.heap.push { cls:=.type "tuple",data:=.seq (foldl (λx y=>x++y) [].toArray (ì k.toNat a)) } }) :=
 .of_wp λP w A R s h=>by
  let(j,h):=h
  wp_walk using Vk j
  simp only[c,if_false]
  wp_walk using Vk j
  simp only[f,g,if_false];refine À (m:=Yh _) (Uj (Å ?_) i);exact#[_,rfl,h]
end
theorem mw(f:α->Option β)(g:α->β):∀ (l:⇑α),(∀ k∈l,f k=↑(g k))->l.filterMap f=l.map g
 |[],_=>rfl|x::r,h=>by rw[Ud,h x Í,Ux,mw f g r λk a=>h k (É _ a)]
section
variable {P:å}{w:î}{A:þ}{E:Ä->Ç->Prop}{s:Ç}
theorem me{t sl:È}{a:Zp}{b c:Ä}{d e:Zq}{Q:Ä->Ç->Prop}(f:XM s.heap t a)(hs:s.heap.IsSliceOf sl b c .none)(pl:Yc b d)(g:Yc c e)
  (hw:dg a.size 0 d=0/\dg a.size a.size e=a.size) (h:Q ↥t s):Ü (ß P w) A (W4 ↥t ↥sl) Q E s:=by
 let(i,j,k,l):=id hs;delta W4;try with_reducible apply û
 refine À (Xq f.typeIs (-0) ?_);refine À (Uk  f.typeIs é (My é f.typeIs entry_tuple_getitem ?_ (Xc _ _)))
 show Ü _ _ (X6 _ >>= _) _ _ s;refine À (YY f (À (Vh #[i,j,k] ?_)));refine À (dE hs pl g ?_);rw[hw.1,hw.2];show Ü _ _ (if (((0:Nat):Int) == 0&&(1:Int) == 1&&(a.size - 0) == a.size)=true then _ else _) _ _ s;rw[Zv ⋯]
 apply À ;refine À (Vh f.typeIs (Å ?_))
 first
  |grind
  |exact À (WA (À (Å (Å #[_,rfl,Å h]))))
theorem gZ{t sl:È}{a:Zk}{u:Tok}{Q:Ä->Ç->Prop}(b:XM s.heap t a.toArray)(hs:s.heap.IsSliceOf sl .none .none (.int (-1) u))
  (h:Q ↥s.heap.objs.size { s with heap:=s.heap.push { cls:=.type "tuple",data:=.seq a.reverse.toArray } }) (hz:a.length<=sizeLine):Ü (ß P w) A (W4 ↥t ↥sl) Q E s:=by
 let(c,d,f,g):=id hs;delta W4;try with_reducible apply û
 refine À (Xq b.typeIs (-0) ?_);refine À (Uk  b.typeIs é (My é b.typeIs entry_tuple_getitem ?_ (Xc _ _)))
 show Ü _ _ (X6 _ >>= _) _ _ s;refine À (YY b (À (Vh #[c,d,f] ?_)));refine À ((λ{R} q=>by
  refine À (À (UH d g (x:=.none) rfl (À (UH d g (x:=.none) rfl (À (UH d g  rfl (Å ?_)))))));show Ü _ _ (match Yw none none (-1) _ with | (n,o)=>pure (n,(-1),Ws n o (-1))) _ _ s
  rw[(by simp[Yw]:Yw none none (-1) (a.toArray.size)=((a.length:Int) - 1,-1))];show Ü _ _ (pure _) _ _ s;rw[(by
   delta Ws
   rw[Zw (-0)]
   split
   .simp only[Int.neg_neg,Int.ediv_one];omega
   .omega:Ws ((a.length) - 1) (-1) (-1)=a.length)];exact Å q:∀ {R:Int × Int × Nat->Ç->Prop},R _ s->Ü (ß P w) A.in1 (sliceApplied _ (pure _)) R E s) ?_);show Ü _ _ (if (((a.length:Int) - 1) == 0&&(-1) == 1&&a.length == a.toArray.size)=true then _ else _) _ _ s;rw[Zw ⋯]
 have pick:((ë a.length).filterMap λ(k:Nat)=>a.toArray[((a.length:Int) - 1 + (k) * -1).toNat]?)=a.reverse:=by
  refine ext_getElem? λi=>?_;have p:∀ k∈ë a.length,a.toArray[((a.length:Int) - 1 + (k) * -1).toNat]?=↑(a.getD (a.length - 1 - k) ð):=λk r=>by
   have v :=by simpa using r
   have e:((a.length:Int) - 1 + (k) * -1).toNat=a.length - 1 - k:=by omega
   rw[e];have:a.length - 1 - k < a.length:=by omega
   simp[this]
  rw[mw _ _ _ p,Ú];by_cases o:i < a.length
  .have y:a.length - 1 - i < a.length:=V7 (_n _ _) (_I o)
   rw[Wz o,List.getElem?_reverse o];simp[y]
  .rw[Xm (by simpa using o),Xm (by simpa using o)];rfl
 rw[pick];have z :=by show a.reverse.toArray.size<=sizeLine;rw[á,Xg];exact hz
 first
  |exact À  (Uj (Å #[_,rfl,Å h]) z)
  |exact À  _
  |exact À _
  |exact À _
end
end HT
namespace L2
open PySem PySem.Spec PyProof.Rows
theorem ae.j6{K:Ã}{H b:Hp}{a:È}{xs:⇑V}(e:ae H b)(h:dY K H a xs):dY K b a xs:=by
 rcases h with (h | ⟨o,h⟩) | h
 .exact .inl (.inl (e _ _ h))
 .exact .inl (.inr #[o,e _ _ h])
 .exact .inr h
theorem ae.new(o:HO)(n:H p=none):ae H (upd H p o):=λb u e=>by rw[ag (ax e n)];exact e
def wx(K:Ã)(H:Hp)(a:⇑V)(Q:VK):Prop:=∀ p b,ae H b->dY K b p a->Q ↥p b
section
variable {X:Cx}{aa:⇑(È × Obj)}{σ:St}{H:Hp}{s:Ç}
theorem wx.here(q:wx X.K H zs Q)(I:Inv X aa σ H s)(h:dY X.K H a zs):EP X aa σ Q ↥a s:=#[↥a,H,I,rfl,q a H (ae.refl H) h]
theorem wx.new(q:wx X.K H zs Q)(I:Inv X aa σ H s)(r:Vals zs us)(hz:zs.length<=sizeLine) :
  EP X aa σ Q ↥s.heap.objs.size { s with heap:=s.heap.push { cls:=.type "tuple",data:=.seq us.toArray } } :=
 have a :=I.aM.fresh (Î _)
 #[↥s.heap.objs.size,_,I.laid  (o:=.tup zs) (λb c q=>Â _ q) (Î _) #[hz,_,r,IsTup.new _ _],rfl,q _ _ (ae.new _ a) (dY.of ao)]
end
section
variable {X:Cx}
inductive OK (K:PySem.W.Frag) (x:V) (y:V) (H:Hp) (Q:VK):Prop where
 |mk (a b ns ms) (h0_:x=↥a) (h1_:y=↥b) (h2_:dY K H a (ns.map V.int)) (h3_:dY K H b (ms.map V.int)) (h4_:Q (.bl (HT.leB ns ms)) H):OK K x y H Q
theorem LW(c:X.A.units < Vj):gS X (UP .LtE) (OK X.K):=by
 intro d s e H x y v u Q I f g h;let(a,b,i,j,rfl,rfl,k,l,q):=h;subst f;subst g;let(v1,m,n,_):=I.tuple k;let(v2,o,p2,_):=I.tuple l;exact HT.AE n p2 (show Wu v1.toArray.toList i from intsAre_of m) (show Wu v2.toArray.toList j from intsAre_of o) c #[.bl _,H,I,rfl,q]
inductive Fd (K:PySem.W.Frag) (x:V) (y:V) (H:Hp) (Q:VK):Prop where
 |mk (a b xs ys) (h0_:x=↥a) (h1_:y=↥b) (h2_:dY K H a xs) (h3_:dY K H b ys) (h4_:xs.length + ys.length<=sizeLine) (h5_:wx K H (xs++ys) Q):Fd K x y H Q
theorem II:gS X (UT .Add) (Fd X.K):=by
 intro c s d H x y v u Q I f g h;let(a,b,i,j,rfl,rfl,k,l,hz,q):=h;subst f;subst g;let(v1,m,n,_):=I.tuple k;let(v2,o,p2,_):=I.tuple l;by_cases p:i=[]
 .subst p;have e:=m.jq.mpr rfl;subst e;exact HT.BL n p2 (q.here I l)
 .refine HT.Bw n p2 (λz=>p (m.jq.mp z)) (λz=>?_) (λz=>q.new I (m.append o) (by simp_all)) (by rw[<-m.length,<-o.length];exact hz)
  have e:=o.jq.mp z;subst e;rw[Wa] at q;exact q.here I k
inductive Fe (K:PySem.W.Frag) (x:V) (y:V) (H:Hp) (Q:VK):Prop where
 |mk (a k xs) (h0_:x=↥a) (h1_:y= ~~~k) (h2_:dY K H a xs) (h3_:0<=k) (h4_:k < 1000000) (h5_:k.toNat * xs.length<=sizeLine) (h6_:wx K H (replicate k.toNat xs).flatten Q):Fe K x y H Q
theorem IJ:gS X (UT .Mult) (Fe X.K):=by
 intro aa s σ H x y v u Q I rx ry h;let(a,k,xs,rfl,rfl,ha,hk,hk2,hz,q):=h;subst rx;let(t,rfl):=ry;let(v1,r1,p1,_):=I.tuple ha;have hl:=r1.length;obtain⟨⟨cls,dd,data,sl⟩,ho,hc,n,hd⟩:=id p1;subst hc hd;have h1:¬ (decide (k < -(2 ^ 63)) || decide (k ≥ 2 ^ 63))=true:=by grind
 refine WL   (-0) #[_,ho,rfl] (λs'=>Xb s' k t) HT.iX F.fills_int_mul VR HT.nO Y6.lookup
  (UU VR (Xb s k t) Y7 (YO _ _) (HT.rK k t a v1.toArray n dd sl) #[ho,rfl,#[_,ho,rfl],?_])
 by_cases hx:v1=[]∨k=1
 .refine UU WC #[_,ho,rfl] Wq (Wb _ _) (HT.yF a v1.toArray k t n dd sl h1 (by simp_all)) #[ho,?_]
  rw[(by
   rcases hx with hx | hx
   .simp_all
   .rw[hx];simp:(ì k.toNat xs).flatten=xs)] at q;exact q.here I ha
 .have h2:¬ (v1.toArray.isEmpty || k == 1)=true:=by simp_all
  by_cases hk0:k=0
  .refine UU WC #[_,ho,rfl] Wq (Wb _ _) (HT.mul_zero a v1.toArray k t n dd sl h1 h2 (by simp[hk0])) #[ho,?_]
   rw[show(ì k.toNat xs).flatten=[] by rw[hk0];rfl] at q
   exact q.new I .nil (Vl _)
  have hfl :=by
   have:=foldl_rep v1 k.toNat [];rw[V8] at this;exact this
  have hsz:v1.length * k.toNat<=sizeLine:=by rw[<-hl,YU];exact hz
  have hcast:((v1.toArray.size:Nat):Int) * k=((v1.length * k.toNat:Nat):Int):=by rw[á,Int.natCast_mul,VO hk]
  have hline:(sizeLine:Nat)<=(2 ^ 63 - 1) / 8:=by decide
  refine UU WC #[_,ho,rfl] Wq (Wb _ _) (HT.yG a v1.toArray k t n dd sl h1 h2 (by simp[λz=>hx (.inl z)];omega) (by rw[hcast];generalize v1.length * k.toNat=m at hsz;omega) (by rw[hcast];generalize v1.length * k.toNat=m at hsz;delta tupleTooMany;intro z;have z':=ZC z;omega)
   (by rw[hfl,á,len_rep,YU];exact hsz)) #[ho,?_]
  rw[hfl];exact q.new I (r1.rep k.toNat) (by rw[len_rep];exact hz)
inductive OL (K:PySem.W.Frag) (x:V) (lo:Option Int) (hi:Option Int) (H:Hp) (Q:VK):Prop where
 |mk (a xs) (h0_:x=↥a) (h1_:dY K H a xs) (h2_:wx K H (vZ xs lo hi) Q):OL K x lo hi H Q
theorem IK:Oz X (OL X.K):=by
 intro b s c H x v d f g i sl Q I j hs pl k h;let(a,l,rfl,m,q):=h;subst j;let(n,r,o,hz):=I.tuple m;have p:n.toArray.size=l.length:=by exact r.length.symm
 refine#[_,_,é.lookup,o.typeIs,?_];by_cases hw:HT.dg l.length 0 g=0/\HT.dg l.length l.length i=l.length
 .apply HT.me o hs pl k (by rw[p];exact hw)
  rw[(by delta vZ;rw[hw.1,hw.2];simp:vZ l g i=l)] at q;exact q.here I m
 .refine HT.nF o hs pl k (by rw[p];exact hw) ?_ (by rw[p];exact hz)
  rw[p];exact q.new I ((r.drop _).take _) (â (ke l g i) hz)
def E6(K:Ã)(b c:TE):TE:=λd H Q=>b d H λx e=>c d e λy f=>y= ~~~(-1)/\((∃ a g,x=↥a/\dY K f a g/\wx K f g.reverse Q)∨∃ a g,x=↥a/\gU K f a g/\∀ p,f p=none->Q ↥p (upd f p (.lst g.reverse)))
theorem LX{e c:Ö}{d f:TE}{p2 pos:Pos}(g:PE X e d)(i:PE X c f):PE X (.Subscript e (.Slice none none ↑c p2) pos) (E6 X.K d f):=by
 intro j s k H Q I h;refine Subscript_ (bQ (g j s k H _ I h) λv s1 #[x,H1,l,m,n]=>?_);apply wpAny_Slice;refine Å (Å ?_);refine bQ (i j s1 k H1 _ l n) λp s2 #[y,u,z,A,B]=>?_;let(rfl,B):=B;let(t,rfl):=A;have C:Inv X j k u { s2 with heap:=s2.heap.push { cls:=.type "slice",data:=.fields [.none,.none,.int (-1) t].toArray } }:=z.kept  λb E q=>Â _ q;rcases B with ⟨a,F,rfl,G,q⟩ | ⟨a,F,rfl,G,q⟩
 .cases m;let(J,r,L,hz):=C.tuple G;exact tail_any  L.typeIs é.lookup (HT.gZ L (Wk ..) (q.new C r.reverse (by simp_all)) (by rw[<-r.length];exact hz)) (rfl)
 .cases m;let(J,r,L,hz):=C.list G;have N:=r.length;refine tail_any  L.isList.typeIs slot_list_getitem.lookup (WZ L.isList (Wk ..) .none .none (.int _ t) ⋯ ?_ (by grind)) (rfl)
  rw[krv_pick];refine#[↥_,_,C.laid (t':=s2.toks) (o:=.lst F.reverse) (λb E q=>Â _ q) (Î _) ?_,rfl,q _ (C.aM.fresh (Î _))];exact#[by rw[Xg];exact hz,J.reverse,0,r.reverse,Ì _ rfl]
theorem Inv.big(I:Inv X a σ H s):Yv < s.heap.objs.size:=by
 exact Nat.lt_trans (-0) ((I.mod.glob.keeps I.bk).lt)
def OM:TE:=λ_ H Q=>∀ p,H p=none->Q ↥p (upd H p (.dK []))
theorem BM{pos:Pos}:PE X (.Dict [] [] pos) OM:=λa s b H Q I h =>
 wpAny_Dict_empty #[↥s.heap.objs.size,_,I.laid  (o:=.dK [])  (λ_ _ q=>Â _ q) (Î _) #[Vl _,beq_eq_false_iff_ne.mpr (ñ (Ù I.big)),[],.nil,ö.DictOf.new _],rfl,h _ (I.aM.fresh (Î _))]
end
end L2
namespace MySort
open PySem PySem.W PyProof.Rows
section
variable {P:å}{w:î}{A:þ}{E:Ä->Ç->Prop}{s:Ç}
theorem pW(a:s.heap.get? l=↑o)(b:o.cls=.type "list"∨o.cls=.type "tuple")(hd:o.data=.seq c.toArray n)
  (h:Q c { s with heap:=(s.heap.push (UD "list" [].toArray 0)).update s.heap.objs.size (Ut (·++c.toArray)) }) (hz:c.length<=sizeLine):Ü (ß P w) A (collect ↥l) Q E s:=by
 refine À (Yt (Uu entry_proto_collect' ?_));refine À (WY (Å #[X8 _ (by decide +kernel),Uu entry_list_iadd' ?_]))
 show Ü _ _ (Builtin.List.listExtendWith _ _ _) _ _ _;have d:(s.heap.push (UD "list" [].toArray 0)).get? l=↑o:=Â _ a;have e:Ü (ß P w) A (do
   let o <-load s.heap.objs.size
   match o.data with
   |.seq f _=>pure f.toList
   |_=>unsupported "internal:collect") Q E { s with heap:=(s.heap.push (UD "list" [].toArray 0)).update s.heap.objs.size (Ut (·++c.toArray)) }:=by
  refine À (wpAny_load (get?_update_seq (Ì _ rfl) _) ?_);show Ü _ _ (pure _) Q E _;rw[show(([].toArray:Zp)++c.toArray).toList=c by simp];exact Å h
 rcases b with b | b
 .refine À (Vh  #[o,d,b] ?_);rw[Zv ⋯]
  refine À (Yl d hd (À (Yl   (Ì _ rfl) rfl ?_)));exact À (listUpdate_at   (Ì _ rfl) rfl (Å e) (Vl _) (by simp only[Array.size_append,á,UG];omega))
 .refine À (Vh (T:="tuple") #[o,d,b] ?_);rw[Zv (by rw[show(UZ "tuple" == UZ "tuple")=true by rfl];simp)]
  refine À (Yl d hd (À (Yl (xs:=[].toArray) (n:=0) (Ì _ rfl) rfl ?_)));rw[Zw ⋯]
  exact À (listUpdate_at (xs:=[].toArray) (n:=0) (Ì _ rfl) rfl (Å e) (Vl _) (by show([].toArray++c.toArray).size<=sizeLine + 1;simp only[Array.size_append,á,UG];omega))
theorem Dm(a:s.heap.get? l=↑o)(d:o.cls=.type "list"∨o.cls=.type "tuple")(hd:o.data=.seq f.toArray n)
  (g:∀ j,rF s.heap j->rE P w A.in1.in1 { s with heap:=j } f k m)
  (h:∀ (p:Zh) (j:ö) (c:Nat),k p->(∀ b o,s.heap.get? b=↑o->j.get? b=↑o)->j.get? (s.heap.objs.size + 1)=↑(UD "list" (p.map λi=>f.getD i ð).toArray c)->Q ↥(s.heap.objs.size + 1) { s with heap:=j }) :
  Ü (ß P w) A (call (.builtin "sorted") [↥l]) Q E s:=by
 have r:=(g s.heap λ_ _ e _=>e).len;apply VH kind_sorted plain_sorted entry_sorted (args_sorted1 _);refine À  (Å ?_);refine À (pW a d hd ?_ (by rw[gV];omega));refine À (WY ?_ (by rw[gV];omega))
 have u:((s.heap.push (UD "list" [].toArray 0)).update s.heap.objs.size (Ut (·++f.toArray))).objs.size=s.heap.objs.size + 1:=⋯
 have v:(((s.heap.push (UD "list" [].toArray 0)).update s.heap.objs.size (Ut (·++f.toArray))).push (UD "list" f.toArray 0)).get? (s.heap.objs.size + 1)=↑(UD "list" f.toArray 0):=by rw[<-u];exact Ì _ rfl
 have keep:∀ b o,s.heap.get? b=↑o->(((s.heap.push _).update s.heap.objs.size _).push (UD "list" f.toArray 0)).get? b=↑o:=λb o q=>by
  have x :=à q;rw[Yp _ _ _ (by rw[u];exact Ù (Uw x)),Heap.get?_update_ne _ _ _ _ (Ù x),Yp _ _ _ (Ù x)];exact q
 rw[u];refine À (û (My slot_list_sort #[_,v,rfl] entry_list_sort (ko v (λj y=>g j λb o e d=>y b o (keep b o e) d) λp j c z y B=>#[_,rfl,Å #[_,rfl,h p j c z (λb o e=>y b o (Ù (Uw (à e))) (keep b o e)) B]]) (YE _)))
end
end MySort
namespace L2
open PySem PySem.Spec PyProof.Rows
open MySort (sortedBy)
section
variable {X:Cx}
def uV(X:Cx)(H:Hp)(a:⇑V)(b:Zh->Prop):Prop:=∀ (c:⇑(È × Obj)) (d:St) (s:Ç) (e:Zk),Inv X c d H s->Vals a e->∃ f,∀ g,MySort.rF s.heap g->MySort.rE X.prog X.w X.A.in1.in1 { s with heap:=g } e b f
theorem nQ:bN X (.builtin "sorted") (λargs H Q=>∃ a b,∃ d:Zh->Prop,args=[↥a]/\(gU X.K H a b∨dY X.K H a b)/\uV X H b d/\(∀ p,d p->∀ i∈p,i < b.length)/\∀ p l,d p->H l=none->Q ↥l (upd H l (.lst (p.map λi=>b.getD i .cD)))):=by
 intro f s g H args us Q I r h;let(a,b,d,rfl,k,m,v,q):=h;let(u,rfl,y):=vals1 r;subst y;have z:∀ (B:Zk) (o:Obj) (n:Nat),Vals b B->s.heap.get? a=↑o->(o.cls=.type _∨o.cls=.type _)->o.data=.seq B.toArray n->Ü _ X.A _ (EP X f g Q) X.xe s:=λB o n C E F hd=>by
  let(kd,G):=m f g s B I C;have J:=G s.heap λ_ _ e _=>e;refine MySort.Dm E F hd G λp h' c L kp N=>?_;have P:(p.map λi=>b.getD i .cD).length<=sizeLine:=by rw[Æ,J.all p L,gV];have:=J.len;omega
  exact#[↥_,_,I.laid  kp (V9 _ 1) (show bY X.prog X.w _ h' _ (.lst _) from#[P,_,c,by
   have Y:=v p L;clear L N P
   induction p with
   |nil=>exact .nil
   |cons i r ih =>
    refine .cons ?_ (ih λj hj=>Y j (É _ hj));have hi:=Y i Í;let(u,hu,ru):=C.get (i:=i) (x:=b[i]) ⋯
    simp_all,N]),rfl,q p _ L (I.aM.fresh (V9 _ 1))]
 rcases k with k | k
 .let(B,C,pl,_):=I.list k;let(o,E,F,n,hd):=pl.isList;exact z B o n C E (.inl F) hd
 .obtain⟨B,C,⟨o,E,F,n,hd⟩,_⟩:=I.tuple k;exact z B o n C E (.inr F) hd
end
section
variable {K:Ã}{g:TG}{tt:TT}{te:TE}{σ0:St}{H:Hp}{Q:VK}
theorem Ff{lo:Int}{n:Nat}(a:Nat->⇑V->Hp->Prop)(hz:n<=sizeLine)(c:a 0 [] H)(d:∀ i f H,a i f H->f.length<=i)
  (hs:∀ i f H,i < n->a i f H->g (~~~(lo + i)) σ0 H λh j=>tt h j λb k=>if b=true then te h k (λy l=>a (i + 1) (f++[y]) l) else a (i + 1) f k)
  (hd:∀ f H p,a n f H->H p=none->Q ↥p (upd H p (.lst f))):rl (NW lo n) σ0 H g tt te Q:=by
 refine#[λi m f H=>m=n - i/\i<=n/\a i f H,#[n,⋯,Vl _,c],?_]
 rintro i m f H ⟨rfl,o,p⟩;by_cases r:i < n
 .refine .inr #[r,Ò (V7 (d i f H p) r) hz,_,λs u v=>#[_,_r r (Vs _),rfl,r,v],λx u y=>?_]
  let(e,y):=y;simp_all
 .have e:=_i o (_g r)
  subst e;exact .inl #[Î _,λz hz=>hd f H z p hz]
end
inductive D where
 |cD | bl (b:Bool) | int (i:Int) | str (x:Str) | tup (ds:⇑D) | lst (ds:⇑D) | dct
def D.ty:D->String
 |.cD=>"NoneType"|.bl _=>"bool"|~~~_=>"int"|.str _=>"str"|.tup _=>"tuple"|.lst _=>"list"|.dct=>"dict"
mutual
def Fg(K:Ã)(H:Hp):D->V->Prop
 |.cD,v=>v=.cD|.bl b,v=>v=.bl b|~~~i,v=>v= ~~~i|.str x,v=>v=.str x|.tup ds,v=>∃ a c,v=↥a/\dY K H a c/\pg K H ds c|.lst ds,v=>∃ a c,v=↥a/\gU K H a c/\pg K H ds c|.dct,v=>∃ a e,v=↥a/\H a=↑(.dK e)
def pg(K:Ã)(H:Hp):⇑D->⇑V->Prop
 |[],c=>c=[]|d::ds,c=>∃ x r,c=x::r/\Fg K H d x/\pg K H ds r
end
def Fh(T C:String):Bool:=T == C || (T == "bool"&&C == "int")
theorem Fi(K:Ã)(d:D):∀ C∈["int","bool","tuple","list","str"],XQ K (.type d.ty) (.type C)=↑(Fh d.ty C):=by
 intro C a;simp[Ur,Ub,ZF] at a;rcases a with rfl | rfl | rfl | rfl | rfl <;> cases d <;> first | rfl | kernel_rfl | decide +kernel
section
variable {X:Cx}
theorem Fj:bN X (.builtin "isinstance") (λc H Q=>∃ d x C,c=[x,.ty C]/\Fg X.K H d x/\C∈["int","bool","tuple","list","str"]/\Q (.bl (Fh d.ty C)) H):=by
 intro f s g H c j Q I r h;let(d,x,C,rfl,hd,k,q):=h;let(u,l,rfl,m,rt):=vals2 r;cases (show l=UZ C from rt);have e:=Fi X.K d C k;have n:∀ v,EP X f g Q _ _:=λv=>#[.bl _,H,I.tok v,rfl,q];cases d with
 |cD=>subst hd;subst m;exact V2 kitx_none I.lF WQ e (λz=>nomatch z) n|bl b=>subst hd;subst m;exact V2 kitx_bool I.lF WQ e (λz=>nomatch z) n|int i=>subst hd;let(t,rfl):=m;exact V2 kitx_int I.lF WQ e (λz=>nomatch z) n
 |str y=>subst hd;let(t,rfl):=m;exact V2 kitx_str I.lF WQ e (λz=>nomatch z) n
 |tup ds =>
  let(a,A,rfl,B,_):=hd;cases m;obtain⟨E,_,⟨o,F,G,_⟩,_⟩:=I.tuple B;exact V2 kitx_tuple I.lF #[o,F,G] e (λz=>nomatch z) n
 |lst ds =>
  let(a,A,rfl,B,_):=hd;cases m;let(E,_,pl,_):=I.list B;let(o,F,G,_):=pl.isList;exact V2 kitx_list I.lF #[o,F,G] e (λz=>nomatch z) n
 |dct =>
  let(a,J,rfl,B):=hd;subst m;let(_,_,L,_,p):=(show bY X.prog X.w H s.heap a _ from I.aM a _ B);let(o,N,P,F,G,_):=p;exact V2 kitx_dict I.lF #[o,F,G.1] e (λz=>nomatch z) n
end
def hide(a:È)(H:Hp):Hp:=λb=>if b=a then none else H b
theorem cm(a:È)(H:Hp):ae (hide a H) H:=λb o e=>by
 delta hide at e
 simp_all
theorem ph{a:È}{H c:Hp}(e:∀ b o,b≠a->H b=↑o->c b=↑o):ae (hide a H) (hide a c):=λb o h=>by
 delta hide at h ⊢
 simp_all
theorem fU{a b:È}{H:Hp}{o:HO}(h:H b=↑o)(n:b≠a):hide a H b=↑o:=by
 delta hide;rw[Zw n];exact h
end L2
namespace L2
open PySem PySem.Spec PyProof.Rows
def pj(a b:ò)(N own:Zj)(c:⇑(Str × Nat)):Bool :=
 a.kind == .function&&a.names.all (λy=>y.2 != .cell)&&a.names.all (λy=>y.2 != .local || a.names.lookup y.1 == ↑.local) &&
  a.names.all (λy=>y.2 != .free || (b.names.lookup y.1 == ↑.cell || b.names.lookup y.1 == ↑.free))&&c.all λp=>N[p.2]? == ↑p.1&&a.names.lookup p.1 == ↑.free
theorem fq.of{a scX:ò}{N own:Zj}(e:X.env.scope=scX)(b:X.N=N)(h:pj a scX N own c):fq X a own c:=by
 refine BB.b5 h λd f g i j=>?_;rw[Uq] at f g i j;refine#[by simpa using d,λy k=>by simpa using f y k,λy k l=>?_,λy k m=>?_,λp n=>?_]
 .have:=g y k;simp_all
 .have:=i y k;show X.env.scope.names.lookup y.1=_∨X.env.scope.names.lookup y.1=_
  simp_all
 .rw[b];simpa using (j p n)
theorem gN{R:St->Hp->Prop}(h:R (σ.set i ↑v) H):gp i v σ H R:=h
theorem Fl{R:Bool->Hp->Prop}(h:R true H):nJ σ H R:=h
theorem nR{n:Nat}(h:n<=64):n<=sizeLine:=â h (-0)
section
variable {X:Cx}
theorem LY(K:Ã)(d:D):kitAny K (.type d.ty) [.type "tuple",.type "list"]=↑(Fh d.ty "tuple" || Fh d.ty "list"):=by
 unfold kitAny;rw[Fi K d _ ⋯];cases Fh d.ty _ with
 |true=>rfl
 |false =>
  show kitAny K _ _=_;unfold kitAny;rw[Fi K d _ ⋯];cases Fh d.ty _ <;> rfl
theorem Dp:bN X (.builtin "isinstance") (λc H Q=>∃ d x a,c=[x,↥a]/\Fg X.K H d x/\dY X.K H a [.ty "tuple",.ty "list"]/\Q (.bl (Fh d.ty "tuple" || Fh d.ty "list")) H):=by
 intro f s g H c us Q I r h;let(d,x,a,rfl,hd,j,q):=h;let(u,k,rfl,l,rt):=vals2 r;cases (show k=tv a from rt);obtain⟨m,v,⟨⟨A,dd,B,sl⟩,C,E,n,F⟩,_⟩:=I.tuple j;subst E F;have G:m=[.type "tuple",.type "list"]:=by
  cases v with
  |cons p r=>cases r with
   |cons p2 J=>cases J;rw[show _=UZ _ from p,show _=UZ _ from p2]
 subst G;have e:=LY X.K d;have L:∀ N,EP X f g Q _ _:=λN=>#[.bl _,H,I.tok N,rfl,q];cases d with
 |cD=>subst hd;subst l;exact kia_tup kitx_none I.lF WQ C e (λz=>nomatch z) L|bl b=>subst hd;subst l;exact kia_tup kitx_bool I.lF WQ C e (λz=>nomatch z) L|int i=>subst hd;let(t,rfl):=l;exact kia_tup kitx_int I.lF WQ C e (λz=>nomatch z) L
 |str y=>subst hd;let(t,rfl):=l;exact kia_tup kitx_str I.lF WQ C e (λz=>nomatch z) L
 |tup ds =>
  let(b,ys,rfl,P,_):=hd;cases l;obtain⟨_,_,⟨o,U,Y,_⟩,_⟩:=I.tuple P;exact kia_tup kitx_tuple I.lF #[o,U,Y] C e (λz=>nomatch z) L
 |lst ds =>
  let(b,ys,rfl,P,_):=hd;cases l;let(_,_,pl,_):=I.list P;let(o,U,Y,_):=pl.isList;exact kia_tup kitx_list I.lF #[o,U,Y] C e (λz=>nomatch z) L
 |dct =>
  let(b,kvs,rfl,P):=hd;subst l;let(_,_,vs,_,p):=(show bY X.prog X.w H s.heap b _ from I.aM b _ P);let(o,es,ep,U,Y,_):=p;exact kia_tup kitx_dict I.lF #[o,U,Y.1] C e (λz=>nomatch z) L
end
open PySem PySem.Spec PyProof.Rows PySem.SeqAt
theorem um(l b:È)(a:Array DictEntry)(n:Nat)(it:Zp)(n2:Nat)(c d:Zl)(sl e:Array Zn) :
  Meets (Vq.«dict.__ne__» #[[↥l,↥b],[]]) (λ_ R s=>s.heap.get? l=↑{ cls:=.type "dict",dict:=c,data:=.dict a n,slots:=sl }/\s.heap.get? b=↑{ cls:=.type "tuple",dict:=d,data:=.seq it n2,slots:=e }/\R (.ok (.ret .notImplemented)) s) :=
 .of_wp λf w A R s h=>by
  let(g,i,h):=h;have j:=F.sub_tuple_dict
  wp_walk using VA g,VA i
  exact#[_,rfl,h]
theorem uo(l b:È)(a:Array DictEntry)(n:Nat)(it:Zp)(n2:Nat)(c d:Zl)(sl e:Array Zn) :
  Meets (Vq.«tuple.__ne__» #[[↥b,↥l],[]]) (λ_ R s=>s.heap.get? l=↑{ cls:=.type "dict",dict:=c,data:=.dict a n,slots:=sl }/\s.heap.get? b=↑{ cls:=.type "tuple",dict:=d,data:=.seq it n2,slots:=e }/\R (.ok (.ret .notImplemented)) s) :=
 .of_wp λf w A R s h=>by
  let(g,i,h):=h;have j:=F.sub_dict_tuple
  wp_walk using VA g,VA i
  exact#[_,rfl,h]
section
variable {X:Cx}
theorem IL(hu:X.A.units + 64 < Vj):gS X (UP .NotEq) (λx y H Q=>∃ a b c d,x=↥a/\y=↥b/\H a=↑(.dK c)/\dY X.K H b d/\Q (.bl true) H):=by
 intro aa s σ H x y v u Q I f g h;let(a,b,c,d,rfl,rfl,i,j,q):=h;subst f;subst g;obtain⟨v2,r2,⟨k,l,c2,n2,m⟩,_⟩:=I.tuple j;let(_,_,vs,_,p):=(show bY X.prog X.w H s.heap a _ from I.aM a _ i);let(n,o,n1,r,c1,z,_):=p;have c1:=c1.1;let(B,C,E,sl):=n;let(G,J,L,N):=k;subst c1 z c2 m;refine rc_ne_decline_or  #[_,r,rfl] #[_,l,rfl] (-0) F.sub_tuple_dict F.slot_dict_ne F.slot_tuple_ne_refl
  (λ_ Y=>UU F.slot_dict_ne #[_,r,rfl] F.entry_dict_ne (F.args_dict_ne_2 _ _) (um a b o n1 v2.toArray n2 C J sl N) #[r,l,Y])
  (λ_ Y=>UU F.slot_tuple_ne_refl #[_,l,rfl] F.entry_tuple_ne (F.args_tuple_ne_2 _ _) (uo a b o n1 v2.toArray n2 C J sl N) #[r,l,Y])
  (λ_ Y=>wpAny_isSame_ref_other (λe=>by simp_all) r l ⋯ Y) (.inr (V7 (V9 _ _) hu)) #[.bl true,H,I,rfl,q]
end
end L2
namespace L2
open PySem PySem.Spec PyProof.Rows
section
variable {P:å}{w:î}{A:þ}{E:Ä->Ç->Prop}{s:Ç}
abbrev R0(h:ö)(l:È):Heap:=h.push { cls:=.type "tuple_iterator",data:=.fields [↥l,.int 0 0].toArray }
abbrev R1(h:ö)(l:È):Heap:=(R0 h l).push { cls:=.type "enumerate",data:=.fields [.none,.bool false,↥h.objs.size,UM 0,.none,.none].toArray }
set_option tactic.hygienic true in
theorem yH(l:È)(a:Zp) :
  Meets (Vq.«enumerate.__new__» #[[.type "enumerate",↥l],[]]) (λ_ R s=>s.heap.IsTuple l a/\R (.ok (.ret ↥(R0 s.heap l).objs.size)) { s with heap:=R1 s.heap l }) :=
 .of_wp λP w A R s h=>by
  let(b,g,d,e,f):=s;let(i,h):=h;have j:=sub_enumerate;have k:=i
  wp_walk;refine wpAny_stack_any λq=>Å ?_;split
  .rename_i c _ _ _ _ _;cases (c == UZ "enumerate") <;> (wp_walk using Wd k) <;> exact#[_,rfl,h]
  .wp_walk using Wd k
   exact#[_,rfl,h]
theorem AF(a:s.heap.IsTuple l xs)
  (h:∀ b,IsEnum b (s.heap.objs.size + 1) s.heap.objs.size 0 .none->b.IsTupleIter s.heap.objs.size l 0->(∀ c o,s.heap.get? c=↑o->b.get? c=↑o)->Q ↥(s.heap.objs.size + 1) { s with heap:=b }) :
  Ü (ß P w) A (call (.type "enumerate") [↥l]) Q E s:=by
 refine callType_new F.called_enumerate (-0) (F.typeCall_enumerate_1 _) (F.newCall_enumerate_1 _) (λobj=>F.args_object_init_2 obj _) F.entry_enumerate_new (yH l xs) #[a,?_]
 have n1:(R0 s.heap l).objs.size=s.heap.objs.size + 1:=Wy ..;have d:(R1 s.heap l).get? _=↑_:=Ì _ rfl;rw[n1] at d;rw[n1];exact#[#[_,d,rfl],h _ d #[_,Â _ (Ì _ rfl),rfl,rfl] λc o q=>Â _ (Â _ q)]
theorem Dq(a:A.handled=none){it l:È}(n:l≠it):Draws P w A it [it,l] xs.size (λi x=>xs[i]?=↑x) (λi h=>h.IsTupleIter it l i/\h.IsTuple l xs) where
 live:=λi h q=>by obtain⟨⟨o,e,_⟩,_⟩:=q;exact#[o,e]
 frame:=λi h b q k=>by
  obtain⟨⟨o,e,r⟩,⟨c,d,f⟩⟩:=q;exact#[#[o,k it ⋯ _ e,r],#[c,k l ⋯ _ d,f]]
 item:=λi s Q E g q k=>jr q.1 q.2 (x:=xs[i]) (by simp[g]) λb j m=>k _ b s.toks (by simp[g]) #[j,q.2.extBut m.extBut n] m
 done:=λs Q E q k=>iz a q.1 q.2 ⋯ λb e j m=>k b e j m
end
theorem Fm{w:î}{A:þ}(b:Bool)(a:A.handled=none){it l:È}{xs:Zp}(n:l≠it):Draws P w A it [it,l] xs.size (λi x=>xs[i]?=↑x) (λi h=>kf b h it l i/\wm b h l xs):=match b with
 |true=>Draws.list a it l n xs|false=>Dq a n
def QX(b:Bool)(K:Ã)(a:È):It :=
 #[λi H=>∃ c x,yg b K H a c/\c[i]?=↑x,
  λi H v d=>∃ T,v=↥T/\H T=none/\∀ c x,yg b K H a c->c[i]?=↑x->d=upd H T (.tup [~~~i,x]),
  λi H=>∃ c,yg b K H a c/\c.length=i]
theorem uW{P:å}{w:î}{K:Ã}{es:Zm}{ek:Nat}{ep:Pos}{a e it:È}{b:Bool}(d:e≠it)(h2:a≠e)(h3:a≠it) :
  Turn P w K (.Tuple es ek ep) (QX b K a) [e,it] e (λi h=>(∃ f,IsEnum h e it i f)/\kf b h it a i) where
 mem:=⋯
 obj:=λi h j c l=>by
  obtain⟨⟨f,m⟩,j⟩:=j;let(o1,n,d1,_):=j.obj;simp only[Ur,Ub,ZF] at l;rcases l with rfl | rfl
  .exact#[_,m,λv e=>by cases e]
  .exact#[_,n,d1]
 keep:=λi h h' j k=>by
  obtain⟨⟨f,m⟩,j⟩:=j;let(o1,n,_,r1):=j.obj;exact#[#[f,k e ⋯ _ m],r1 h' (k it ⋯ _ n)]
 item:=by
  intro X p hw r l i z s B H E I C j F;subst p hw r;let(xs,x,hq,hx):=F;let(v1,rv,p1,_,z1):=I.qp hq;let(u,hu,ru):=rv.get hx;obtain⟨⟨f,m⟩,G⟩:=j;have hl:i < v1.toArray.size:=by simpa using (Ý.mp hu).1
  refine wpAny_pyNext_enum_itemD (Fm (A:=X.A.in1) b (by exact I.ok.hd l) h3) m #[G,p1] hl d (by simp[d,h2.symm]) λy n J hy ge gs gT sz kp=>#[_,rfl,?_]
  have L:v1[i]?=↑y:=by simpa using hy
  rw[hu] at L;cases L;refine wpAny_letOwnedTupleGo_enum (s:={ s with heap:=n,toks:=J + 1 }) ge λN ge2 sb=>?_;have hT:H s.heap.objs.size=none:=I.aM.fresh (Î _);have U:∀ c o,c ∉ [e,it]->s.heap.get? c=↑o->N.get? c=↑o:=λc o l q=>by
   simp only[Ur,Ub,ZF,not_or] at l;exact sb.extBut _ _ l.1 (kp c o l.1 l.2 q)
  have I2:Inv X z B H { s with heap:=N,toks:=J + 1 }:=I.qG (t':=J + 1) C U;have fT:j9 X z H s.heap.objs.size:=I.mI (Î _) hT;have gT2:N.get? s.heap.objs.size=↑{ cls:=.type "tuple",data:=.seq [.int i J,u].toArray }:=sb.extBut _ _ (λq=>Ui _ (by have:=à m;rw[<-q] at this;exact this)) gT
  have I3:Inv X z B (upd H s.heap.objs.size (.tup [~~~i,x])) { s with heap:=N,toks:=J + 1 }:=I2.BE fT I.sz (I2.aM.EV hT (ar:=[.int i J,u]) (.cons #[_,rfl] (.cons ru .nil)) (by show 2<=sizeLine;rw[gV];decide) #[_,gT2,rfl,_,rfl])
  refine#[↥s.heap.objs.size,_,I3,rfl,#[_,rfl,hT,λxs' x' e1 e2=>?_],#[#[_,ge2],by let(o,q1,_,q2):=gs.1.obj;exact q2 _ (sb.extBut _ _ d.symm q1)],λc l=>?_]
  .rw[z1 _ e1] at e2;rw[hx] at e2;cases e2;rfl
  .rw[ag]
   .exact(C c l).1
   .intro q;simp only[Ur,Ub,ZF] at l;rcases l with l | l
    .exact Ui _ (by have:=à m;rw[<-l,q] at this;exact this)
    .let(o,ho,_):=kf.obj G;exact Ui _ (by have:=à ho;rw[<-l,q] at this;exact this)
 done:=by
  intro X p hw r l i z s B H E I C j F;subst p hw r;let(xs,hq,rfl):=F;let(v1,rv,p1,_,z1):=I.qp hq;obtain⟨⟨f,m⟩,G⟩:=j;refine wpAny_pyNext_enum_endD (Fm (A:=X.A.in1) (xs:=v1.toArray) b (by exact I.ok.hd l) h3) m #[by rw[show v1.toArray.size=xs.length by simpa using rv.length.symm];exact G,p1] λg kp=>#[rfl,I.qG (t':=s.toks) C λc o Y q=>?_]
  simp only[Ur,Ub,ZF,not_or] at Y;exact kp c o Y.2 q
 self:=λ_ _ _ _ _ j h=>by obtain⟨⟨_,m⟩,_⟩:=j;exact wpAny_pyIter_enum m h
def KH(K:Ã)(c:TA):TI:=λd H R=>c d H λe f=>∃ b a,e=[↥a]/\(∃ g,yg b K f a g)/\R (QX b K a) f
theorem rM(d:wm b s.heap l xs)
  (h:∀ e,IsEnum e (s.heap.objs.size + 1) s.heap.objs.size 0 .none->kf b e s.heap.objs.size l 0->(∀ c o,s.heap.get? c=↑o->e.get? c=↑o)->Q ↥(s.heap.objs.size + 1) { s with heap:=e }) :
  Ü (ß P w) A (call (.type "enumerate") [↥l]) Q E s:=match b,d,h with
 |true,d,h=>call_enumerate_list d λe a b _ c=>h e a b c|false,d,h=>AF d h
theorem uX:ý "enumerate"=↑(.type "enumerate"):=by decide +kernel
theorem IM{p pos:Pos}(d:Gl X "enumerate")(f:X.mg "enumerate"=none)(g:PA X [a] i)(hs:Ul [a] X.env=[(false,eval a X.env)]:=by rfl) :
  PI X (.Tuple j k l) (.Call (.Name "enumerate" p) [a] [] pos) (KH X.K i):=by
 intro m s n H R I h;refine Call_ (f7 I d f uX (Ua (bQ (g pos m s n H _ I h) λus s1 #[o,H1,v,x,y]=>?_) (by rw[hs];rfl) (by rfl)))
 obtain⟨b,z,e,⟨A,B⟩,q⟩:=y;subst e;let(u,rfl,r):=vals1 x;subst r;let(v1,C,E,F,_):=v.qp B;refine rM E λG J L N=>wpAny_pyIter_enum  J ?_;refine#[_,_,_,_,H1,rfl,v.kept  N,uW (Nat.succ_ne_self _) (Ù (Uw F)) (Ù F),#[#[_,J],L],λc P=>?_,q];have U:s1.heap.objs.size<=c:=by
  simp[Ur,Ub,ZF] at P;rcases P with rfl | rfl
  .simp_all
  .exact Î _
 exact v.mI U (v.aM.fresh U)
end L2
namespace HT
open PySem PySem.W PyProof.Rows
set_option maxRecDepth 100000
section
variable {P:å}{w:î}{A:þ}{E:Ä->Ç->Prop}{s:Ç}
theorem uu{a b c:Int}{n:Nat}(hh:A.handled=none)(hr:IsRange s.heap r a b c t u v)(hs:YF a b c=true)(hn:UC a b c=n)(hl:n<=2 ^ 24)
  (hQ:∀ (h':ö) (tk:Nat) (acc:Zp),(∀ b o,s.heap.get? b=↑o->h'.get? b=↑o)->s.heap.objs.size<=h'.objs.size->ItemsOf (λi v=>∃ t,v=.int (a + i * c) t) acc n->Q acc.toList { s with heap:=h',toks:=tk }):Ü (ß P w) A (collect ↥r) Q E s:=by
 refine À (Yt (Uu PySem.F.entry_proto_collect ?_));refine À (Uj (Å #[W0 PySem.F.plain_list_iadd _,Uu PySem.F.entry_list_iadd ?_]));have hS:(s.heap.push _).get? s.heap.objs.size=↑{ cls:=.type "list",data:=.seq [].toArray 0 }:=Ì _ rfl;refine UQ (wpAny_extend_range   (R:=λx s'=>x=.ok _/\∃ h' tk acc c',s'={ s with heap:=h',toks:=tk }/\(∀ b o,s.heap.get? b=↑o->h'.get? b=↑o)/\h'.get? s.heap.objs.size=↑{ cls:=.type _,dict:=none,data:=.seq acc c',slots:=[].toArray }/\ItemsOf _ acc n) hh (Â _ hr) hs hn hl _ _ 0 hS λh' tk acc c' hk hS' hi=>#[rfl,h',tk,acc,c',rfl,λb o e=>hk b o (Ù (à e)) (Â _ e),hS',hi]) (λfin s' h=>?_) λe s' h=>?_
 .have go:∀ s',(∃ h' tk acc c',s'={ s with heap:=h',toks:=tk }/\(∀ b o,s.heap.get? b=↑o->h'.get? b=↑o)/\h'.get? s.heap.objs.size=↑{ cls:=.type "list",dict:=none,data:=.seq acc c',slots:=[].toArray }/\ItemsOf (λi v=>∃ t,v=.int (a + i * c) t) acc n)->Ü (ß P w) A (match tv s.heap.objs.size with
   |tv a=>do
    match (<-load a).data with
     |Data.seq xs _=>pure xs.toList|_=>unsupported "internal:collect"
   |_=>unsupported "internal:collect") Q E s':=λs' #[h',tk,acc,c',e,hk,hS',hi]=>by
   subst e;exact À (wpAny_load hS' (Å (hQ h' tk acc hk (Vb (à hS')) hi)))
  cases fin with
  |done f =>
   let(e,h):=h;cases e;exact go _ h
  |again c'=>exact#[h.1,U4 h.2 λx s'' hx=>by let(rfl,hx):=hx;exact go _ hx]
 .exact absurd h.1 ⋯
open AutoSeq1 (wpAny_loadPart')
theorem qr{a b c:Int}{n:Nat}(d:A.handled=none)(e:IsRange s.heap r a b c t u v)(hs:YF a b c)(f:UC a b c=n)(g:n<=200000)
  (h:∀ (j:ö) (k:Nat) (l:Zp),(∀ b o,s.heap.get? b=↑o->j.get? b=↑o)->s.heap.objs.size<=j.objs.size->ItemsOf (λi v=>∃ t,v=.int (a + i * c) t) l n->Q ↥j.objs.size { s with heap:=j.push { cls:=.type "tuple",data:=.seq l },toks:=k }) :
  W5 (ß P w) A (.call (.builtin "tuple.__new__") #[[.type "tuple",↥r],[]]) (wants Q E) s:=by
 apply codeAny_of_tree;refine À (wpAny_of_eq (PySem.F.newCall_tuple_1 _) (Å #[W0 PySem.F.plain_tuple_new _,Uu PySem.F.entry_tuple_new ?_]));rw[Xo PySem.F.plain_tuple_new _];have m:=sub_tuple_self;have p:=init_tuple_lookup;have q:=madeHere_tuple
 wp_walk using Vh x,uu  (show A.in1.handled=none from d) e hs f ∅
 intro j k l y hz z;show Ü _ _ (Yh l.toList.toArray >>= λv=>ret v) _ _ _;refine À (Uj (Å (h j k l y hz z)) (by show l.size<=_;rw[z.1,gV];omega))
theorem tuple_range{n:Nat}(d:A.handled=none)(e:IsRange s.heap r a b c t u v)(hs:YF a b c)(f:UC a b c=n)(g:n<=200000)
  (h:∀ (j:ö) (k:Nat) (l:Zp),(∀ b o,s.heap.get? b=↑o->j.get? b=↑o)->s.heap.objs.size<=j.objs.size->ItemsOf (λi v=>∃ t,v=.int (a + i * c) t) l n->Q ↥j.objs.size { s with heap:=j.push { cls:=.type "tuple",data:=.seq l },toks:=k }):Ü (ß P w) A (call (.type "tuple") [↥r]) Q E s:=by
 refine callType_codes (Q₁:=λobj m=>m.TypeIs obj _/\Q obj m) Y3 (PySem.F.typeCall_tuple_1 _) PySem.F.entry_object_init (qr d e hs f g λj k l p hz q=>#[#[_,Ì _ rfl,rfl],h j k l p hz q]) λobj m x=>?_;exact#[x.1,PySem.F.args_object_init_2 obj _,object_init_meets Y3.init.lookup Y3.made (-0) P w A.in1 _ m #[x.1,rfl,x.2]]
end
end HT
namespace L2
open PySem PySem.Spec PyProof.Rows
theorem bY.there(x:bY P w H h a o):∃ u,h.get? a=↑u:=by
 cases o with
 |lst b=>let(_,_,_,_,e):=x;exact#[_,e]
 |tup b=>let(_,_,_,o,e,_):=x;exact#[_,e]
 |dK c=>let(_,_,_,_,o,_,_,e,_):=x;exact#[_,e]
 |dT c=>let(_,_,_,_,o,_,_,e,_):=x;exact#[_,e]
 |set S n=>let(o,_,_,_,e,_):=x;exact#[_,e]
 |ins C d fs=>let(_,_,_,e,_):=x;exact#[_,e]
 |own y=>let(_,e):=x;exact#[_,e]
 |xd fs=>obtain⟨_,⟨_,_,_,e,_⟩,_⟩:=x;exact#[_,e]
 |D9 g i=>let(_,_,_,e):=x;exact#[_,e]
 |frz j u=>let(e,_):=x;exact#[_,e]
 |cK k=>exact#[_,(show h.get? a=↑_ from x)]|met f y=>exact#[_,(show h.get? a=↑_ from x)]|ext l=>obtain⟨_,⟨_,e⟩,_⟩:=x;exact#[_,e]
def ON(B:ö)(fs:Zo)(a:Hp)(h c:ö):Prop:=∀ b u,c.get? b=↑u->b ∉ fs->((∃ o,h.get? b=↑o)∨a b≠none)->B.get? b=↑u
inductive pX (P:Program) (w:World) (outer:⇑Env) (H:Hp) (s:Shared) (E:XK) (e:Value) (s':Shared):Prop where
 |mk (a:Addr) (cls a0:Value) (H':Hp) (B:Heap) (h0_:e=↥a) (h1_:s'.os=s.os) (h2_:AllBare s'.gens) (h3_:Un (eM outer) [] H H' s.heap s'.heap) (h4_:jm P w H' s'.heap) (h5_:Heap.FlyingW B outer a cls a0 s'.heap) (h6_:H' a=none) (h7_:ON B (eM outer) H' s.heap s'.heap) (h8_:E cls ↑a H'):pX P w outer H s E e s'
section
variable {X:Cx}{aa:⇑(È × Obj)}{σ:St}{H H':Hp}{s s':Ç}{B h'':ö}{a:È}{cls a0:Ä}{E:XK}
theorem wy(hS:X.stack=X.env::X.outer)(hx:X.ex=[])(hf:X.env.frame=↑X.env.locals)(I:Inv X aa σ H s)(os:s'.os=s.os)(bare:Xz s'.gens)(un:Un (eM X.stack) [] H H' s.heap s'.heap)(d:jm X.prog X.w H' s'.heap)
  (f:ON B (eM X.stack) H' s.heap s'.heap) (na:H' a=none) (g:Heap.FlyingW B X.outer a cls a0 h'') (sm:s'.heap.UpToSlots h'') (he:E cls ↑a H'):pX X.prog X.w X.outer X.H₀ X.s₀ E ↥a { s' with heap:=h'' }:=by
 have h:eM X.stack=X.env.locals::eM X.outer:=by unfold eM;simp_all
 have i:=I.base;rw[hx] at i;have U :=(i.mono (λb j=>by rw[h];simp_all) λb j=>j).trans un
 have k:∀ b o,X.s₀.heap.get? b=↑o->b ∉ eM X.outer->b ∉ eM X.stack:=λb o e l m=>by
  rw[h] at m;rcases ã.mp m with z | z
  .exact absurd (à e) (by rw[z];exact Nat.not_lt.mpr I.ok.above)
  .exact l z
 have p:∀ b∈eM X.stack,H' b=none:=λb j=>by
  let(_,o,r,_):=I.stack.mem j;exact un.free b o r (I.gv b j) ⋯
 have v:∀ b o,X.s₀.heap.get? b=↑o->b ∉ eM X.outer->∃ u,s'.heap.get? b=↑u/\B.get? b=↑u:=λb o e l=>by
  let(x,y):=i.there b o e ⋯
  let(A,C):=un.there b x y ⋯
  exact#[A,C,f b A C (k b o e l) (.inl #[x,y])]
 have Kv:∀ b,H' b≠none->∃ u,s'.heap.get? b=↑u/\B.get? b=↑u:=λb j=>by
  let(o,e):=XZ.mp j;let(u,F):=(d b o e).there;exact#[u,F,f b u F (λm=>by rw[p b m] at e;cases e) (.inr j)]
 refine#[a,cls,a0,H',B,rfl,os.trans I.os,bare,#[λb o e n j _=>?_,λb o e n j _=>?_,λb o e n j=>U.free b o e n j,λb o e _=>?_,U.tups,U.frzs,U.tbls],λc o e=>?_,g,na,λb u e l G=>?_,he]
 .let(u,y,C):=v b o e j;have J:=U.keep b o e n (k b o e j) ⋯
  rw[y] at J;cases J;exact g.1 b _ C
 .let(sl,y):=U.slot b o e n (by rw[h];simp_all) ⋯
  let(_,K,L,hd):=I.ok.j7.mem j;rw[e] at L;cases L;let(N,C):=sm b _ y hd;exact#[N,C]
 .by_cases j:b∈eM X.outer
  .let(_,K,L,_):=g.2.2.1.mem j;exact#[K,L]
  .let(u,_,C):=v b o e j;exact#[u,g.1 b _ C]
 .refine(d c o e).iR (λb u j q=>?_) (λ_ q=>q) λ_ _ q=>q;have P:H' b≠none:=by grind
  let(Y,y,C):=Kv b P;rw[q] at y;cases y;exact g.1 b _ C
 .have:∃ Y,B.get? b=↑Y:=by
   rcases G with ⟨o,r⟩ | G
   .let(Y,_,C):=v b o r l;exact#[Y,C]
   .let(Y,_,C):=Kv b G;exact#[Y,C]
  let(Y,C):=this;have J:=g.1 b _ C
  simp_all
end
section
variable {P:å}{w:î}{K:Ã}{mg:Str->Zn}{base:ö}{N:Zj}{qual:Str}{scope:ò}{f:È}{cd:Ä}{A:þ}{outer:⇑Env}{s₀:Ç}{H₀:Hp}{E:XK}
theorem Dr(I:Inv (iU (pX P w) P w K mg base N qual scope f cd A outer s₀ H₀ E) c σ H s)(d:Heap.MadeExcOf s.heap g e cls h)(i:E cls ↑e H) :
  (iU (pX P w) P w K mg base N qual scope f cd A outer s₀ H₀ E).xe ↥e { s with heap:=g }:=by
 refine wpAny_leaves_madeW   I.ok.frames rfl (λb o q=>of_hideAll _ q) (PySem.W.funFrames_hide I.stack (λk i a l=>WT.mpr #[k,i,l])) d λn t p _ _ r=>?_;refine wy   rfl rfl rfl I rfl I.bare (Un.kept d.keeps) (I.aM.kept d.keeps) (λb u q y B=>?_) (by
  cases z:H e with
  |none=>rfl|some o=>let(u,x):=(I.aM e o z).there;rw[d.new] at x;cases x) p r i;let(o,C):=(by
  rcases B with B | B
  .exact B
  .let(o,z):=XZ.mp B;exact(I.aM b o z).there:∃ o,s.heap.get? b=↑o);have F :=q;rw[d.keeps b o C] at F;cases F;exact hideAll_get _ C y
theorem OO:Passes (pX P w) (iU (pX P w) P w K mg base N qual scope f cd A outer s₀ H₀ E) E:=by
 intro b c H s e d I h;let(a,g,i,j,B,rfl,k,bare,un,l,m,n,o,p):=h;refine wpAny_leaves_onW I.ok.frames rfl m λq r u=>?_;exact wy   rfl rfl rfl I k bare un l o n r u p
end
set_option tactic.hygienic true in
theorem IP{K:Ã}{h:ö}{C:È}{bmB:Zk}{newId:String}(KX:K.In h)(hq:Wv K C bmB newId=true) :
  ∃ bm N nm q bs hdct sn sub ab col dd k0 k1 k2 k3 k5 mN,h.get? C=↑(excClassObj nm q C N bs bm hdct sn sub ab col dd k0 k1 k2 k3 k5 newId)/\h.Ns N mN/\mN "__init__"=none/\OwnTail h bmB bm:=by
 delta Wv at hq
 split at hq
 case h_2=>cases hq
 case h_1 dd cd sl ho =>
  split at hq
  case h_2=>cases hq
  case h_1 C' bm k0 k1 k2 k3 n k5 hm hs =>
   simp[Á,Zy,ç] at hq;obtain⟨⟨⟨⟨⟨z1,z2⟩,hdel⟩,ht⟩,aM⟩,hni⟩:=hq;subst z1 z2;cases cd with
   |mk nm bs mro ns qn hd sn sub ab col del =>
    dsimp only at hm hdel aM hni;subst hm hdel;have esl:sl=[k0,k1,k2,k3,↑(.builtin n),k5].toArray:=by cases sl with | mk l=>simp only at hs;rw[hs]
    subst esl;refine#[bm,ns,nm,qn,bs,hd,sn,sub,ab,col,dd,k0,k1,k2,k3,k5,h.nsMap ns,KX _ _ ho,?_,PySem.W.nsMap_none_of_in KX aM hni,PySem.W.tail_of_in KX ht];exact .of_isNs (PySem.W.isNs_of_in KX aM)
def rN(X:Cx)(E:XK):Prop:=∀ (a:⇑(È × Obj)) (b:St) (H:Hp) (s:Ç) (c:ö) (e:È) (d:Ä) (f:Zk),Inv X a b H s->Heap.MadeExcOf s.heap c e d f->E d ↑e H->X.xe ↥e { s with heap:=c }
theorem Ds{P:å}{w:î}{K:Ã}{a:Str->Zn}{b:ö}{N:Zj}{c:Str}{d:ò}{f:È}{e:Ä}{A:þ}{g:⇑Env}{h:Ç}{i:Hp}{E:XK} :
  rN (iU (pX P w) P w K a b N c d f e A g h i E) E:=λ_ _ _ _ _ _ _ _ I j k=>Dr I j k
def LZ(E:XK)(C:È)(t:TA):TS:=λ_ a H=>t a H λb c=>b.length<=sizeLine/\∀ e,c e=none->E ↥C ↑e c
section
variable {X:Cx}{x:Str}{C:È}{E:XK}{e₀:Ö}{rest:Zm}{t:TA}{np cpos pos:Pos}
theorem Fo(a:rN X E)(b:X.calm)(c:Gl X x)(d:X.mg x=↑↥C)(f:Wv X.K C [.type "ValueError",.type "Exception",.type "BaseException",.type "object"] "ValueError.__new__")(g:PA X (e₀::rest) t)
  (i:(x == ("__debug__":Str))=false:=by decide) (j:Ul (e₀::rest) X.env=(false,eval e₀ X.env)::Ul rest X.env:=by rfl) (l:(backTo cpos (Ul rest X.env)).any (·.1)=false:=by rfl) :
  PS X (.Raise ↑(.Call (.Name x np) (e₀::rest) [] cpos) none pos) (LZ E C t):=by
 intro m s n H D I h;let(bm,N,p,q,bs,v,y,sub,ab,A,B,G,k1,k2,k3,k5,mN,hC,hN,J,T):=IP I.ok.mod.kin f;refine wpAny_Raise_call_subT  (nm:=p) (q:=q) (N:=N) (bs:=bs)  (hdct:=v) (sn:=y) (sub:=sub) (ab:=ab) (col:=A) (dd:=B) (k0:=G) (k1:=k1) (k2:=k2) (k3:=k3) (k5:=k5)
  PySem.F.excBase_ValueError  (T.hasType PySem.F.excBase_ValueError.hasBase) (I.ok.hd b) (by rw[j];exact l) J (lH I c d #[rfl,?_] i)
 have k:=g cpos m s n H _ I h;rw[j] at k ⊢;refine Calls.evalArgs_plain (bQ k λus s2 #[vs,L,P,r,z,q]=>#[rfl,by rw[<-r.length];exact z,P.bk _ _ hC,hN.keeps P.bk,T.keeps P.bk,λh' e U=>?_])
 refine a m n L s2 h' e _ us P U (q e ?_);cases z:L e with
 |none=>rfl|some o=>let(u,Y):=(P.aM e o z).there;rw[U.new] at Y;cases Y
end
open PySem PySem.Spec PyProof.Rows PySem.W PySem.Builtin PySem.Builtin.ObjectAttr PySem.Builtin.Getset_descriptor
section
variable {prog:å}{w:î}{A:þ}{E:Ä->Ç->Prop}{K:Ã}{h:ö}{gg:Array GenState}{d:Drawn}{t:Nat}{os:OsState}{x D:È}{ox:Obj}
structure dZ(K:PySem.W.Frag)(D:Addr):Prop where
 ga:findIn K ↥D "__getattribute__"=↑↑(.builtin "BaseException.__getattribute__")
 gh:findIn K ↥D "__getattr__"=↑none
 mb:mroIn K D (.type "BaseException")=↑true
 mo:mroIn K D (.type "object")=↑true
 fc:findIn K ↥D "__class__"=↑↑(.builtin "object.__class__")
 fg:specialIn K (.builtin "object.__class__") "__get__"=↑↑(.builtin "getset_descriptor.__get__")
 ft:takesIn K (.builtin "object.__class__")=↑true
def excAt(a D:È)(h:ö):Prop:=∃ ox,h.get? a=↑ox/\ox.cls=↥D
theorem excAt.ty{M:Model}{a D:È}(p:excAt a D h):Looks M h (typeOf ↥a) ↥D:=by
 let(ox,e,c):=p;rw[<-c];exact(Looks.ld e).andThen .now
theorem Fp{M:Model}(a:K.In h)(L:dZ K D):Looks M h (find ↥x ↥D "__class__") (.bind (.builtin "getset_descriptor.__get__") (.builtin "object.__class__")):=by
 have b:=looks_takesIn (M:=M) a L.ft;have c:Looks M h (dataDescriptor? ↑_ ↑_) ↑(.builtin "getset_descriptor.__get__",.builtin _):=b.andThen .now;exact(looks_findIn a L.fc).andThen ((looks_specialIn a L.fg).andThen (c.andThen (Looks.tag .now)))
theorem IQ{R:Result->Ç->Prop}{tp:Ä}(KX:K.In h)(I:excAt x D h)(hm:mroIn K D (.type "object")=↑true)(hq:R (.ok (.ret ↥D)) #[h,gg,d,t,os]) :
  W5 (ß prog w) A (.call (.builtin "getset_descriptor.__get__") #[[.builtin "object.__class__",↥x,tp],[]]) R #[h,gg,d,t,os]:=by
 have L0:=I.ty (M:=ß prog w);have L1:=looks_mroIn (M:=ß prog w) KX hm
 (refine X1 KF.slot_gs.plain KF.entry_gs (KF.slot_gs.check _ _ _ _ _ _ _ _ KF.type_class (KF.args_gs _ _ _) ?_);delta Vq.«getset_descriptor.__get__» descrGet;rw[dga_obj];refine À (Å ?_);delta descrGetter descrCheckInstance descrNameAndClass isInstance;simp only[KF.owner_class];repeat lk)
 (refine#[X8 _ (by decide +kernel),Uu KF.entry_class ?_];repeat lk)
 exact hq
theorem Dt{M:Model}{nameV:Ä}{Q:Unit->Ç->Prop}(KX:K.In h)(I:excAt x D h)(L:dZ K D)(hq:Q () #[h,gg,d,t,os]) :
  Ü M A (checkBuiltinCall "BaseException.__getattribute__" #[[↥x,nameV],[]]) Q E #[h,gg,d,t,os]:=by
 have L0:=I.ty (M:=M);have L1:=looks_mroIn (M:=M) KX L.mb;refine À (À (L0.at (L1.at ?_)))
 repeat (first | assumption | wp_step)
theorem Dw(a:K.In h)(I:excAt x D h)(L:dZ K D)(b:Q (.done (.ret ↥D)) #[h,gg,d,t,os]) :
  Ü (ß prog w) A (Vq.«object.__getattribute__» #[[↥x,.str "__class__" c],[]]) Q E #[h,gg,d,t,os]:=by
 have e:=I.ty (M:=ß prog w);have f:=Fp (M:=ß prog w) (x:=x) a L;refine À (Å (À (Å (À (e.at (À (f.at ?_)))))));refine À (û (Xa (IQ a I L.mo ?_)));exact Å b
theorem Fq{R:Result->Ç->Prop}(a:K.In h)(I:excAt x D h)(L:dZ K D)(b:R (.ok (.ret ↥D)) #[h,gg,d,t,os]) :
  W5 (ß prog w) A (.call (.builtin "BaseException.__getattribute__") #[[↥x,.str "__class__" c],[]]) R #[h,gg,d,t,os] :=
 X1 F.attr_ValueError.ga.plain F.entry_bexc_ga (Dt a I L (Dw a I L b))
theorem L4{fill expr:Bool}(KX:K.In h)(I:excAt x D h)(L:dZ K D)(hq:Q ↥D #[h,gg,d,t,os]) :
  Ü (ß prog w) A (getAttrBy ↥x (.str "__class__" tk) fill expr) Q E #[h,gg,d,t,os]:=by
 have L0:=I.ty (M:=ß prog w);have L1:=looks_findIn (M:=ß prog w) KX L.ga;have L2:=looks_findIn (M:=ß prog w) KX L.gh;have f3:=F.attr_ValueError.ga.bind ↥x;have hno:(expr&&onTheHeap (Value.builtin "BaseException.__getattribute__"))=false:=by cases expr <;> rfl
 (refine û (À (L0.at (À (L1.at ?_)))));
 refine À (L2.at ?_)
 repeat (any_goals (first | assumption | (with_reducible refine Xa (Fq KX I L ?_)) | wp_step))
theorem Fs(a:K.In s.heap)(I:excAt x D s.heap)(L:dZ K D)(b:Q ↑↥D { s with toks:=s.toks + 1 }):Ü (ß prog w) A (getAttr? ↥x "__class__") Q E s:=by
 refine À (wpAny_mkText (À (XW (L4 a I L ?_))));exact Å b
theorem yI(L:dZ K D)(hd:hasDictIn K D=true):KitX K ↥x ↥D (excAt x D) where
 ty:=λ_ _ _ I=>I.ty
 it:=λM h KX _=>by
  let(cdD,hcD,_):=any_some hd;unfold clsIn at hcD;split at hcD
  case h_2=>cases hcD
  case h_1 ho =>
   intro A' Q' E' s' k q;unfold isType loadHead;exact À (wpAny_loadPart (k _ _ (KX _ _ ho)) (Å q))
 ne:=λh tp dd ar n sl KX htp=>by
  let(cdD,hcD,_):=any_some hd;refine Bool.eq_false_iff.mpr λsame=>?_;cases tv.inj (Zy.mp same);unfold clsIn at hcD;split at hcD
  case h_2=>cases hcD
  case h_1 ho=>cases (KX _ _ ho).symm.trans htp
 ca:=λKX I k=>Fs KX I L k
end
def Dx(H:Hp)(a D:È):Prop:=H a=↑(.ext (excAt a D))
theorem AG{a D:È}(h:excAt a D b)(k:∀ o,b.get? a=↑o->d.get? a=↑o):excAt a D d:=by
 let(f,e,c):=h;exact#[f,k _ e,c]
section
variable {X:Cx}
theorem AH:bN X (.builtin "isinstance") (λd H Q=>∃ (a D:È) (c:V) (f:Ä) (b:Bool),d=[↥a,c]/\((∃ C,c=↥C/\f=↥C)∨∃ T,c=.ty T/\f=.type T)/\Dx H a D/\dZ X.K D/\hasDictIn X.K D/\kitOne X.K ↥D f=↑b/\Q (.bl b) H):=by
 intro g s i H d j Q I r h;let(a,D,c,f,b,rfl,k,l,L,hd,e,q):=h;let(u,m,rfl,n,rt):=vals2 r;cases (show u=tv a from n);let(o,_,_):=(show bY X.prog X.w H s.heap a _ from I.aM a _ l);have x:m=f:=by
  rcases k with ⟨C,rfl,rfl⟩ | ⟨T,rfl,rfl⟩
  .exact rt
  .exact rt
 subst x;exact kia_one (yI L hd) I.lF o e (λz=>by grind) (λv=>#[.bl b,H,I.tok v,rfl,q])
end
end L2
namespace L2
open PySem PySem.Spec PyProof.Rows
section
variable {X:Cx}{aa:⇑(È × Obj)}{σ:St}{H H':Hp}{s s':Ç}{B h4:ö}
theorem Ft(I:Inv X aa σ H s)(a:s'.os=s.os)(bare:Xz s'.gens)(un:Un (eM X.stack) [] H H' s.heap s'.heap)(d:jm X.prog X.w H' s'.heap)(f:ON B (eM X.stack) H' s.heap s'.heap)(g:B.StaysIn h4)(h:s'.heap.UpToSlots h4) :
  Inv X aa σ H' { s' with heap:=h4 }:=by
 have l:∀ b o,s.heap.get? b=↑o->b∈eM X.stack->∃ sl,h4.get? b=↑{ o with slots:=sl }:=λb o e j=>by
  let(sl,m):=un.slot b o e (I.gv b j) j ⋯
  let(_,p,r,hd):=I.stack.mem j;rw[e] at r;cases r;let(v,x):=h b _ m hd;exact#[v,x]
 have y:∀ b o,s.heap.get? b=↑o->b ∉ eM X.stack->∃ u,s'.heap.get? b=↑u/\h4.get? b=↑u:=λb o e z=>by
  let(A,x):=un.there b o e ⋯
  exact#[A,x,g b _ (f b A x z (.inl #[o,e]))]
 refine I.Eo   a #[λb o e n j _=>?_,λb o e n j _=>l b o e j,un.free,λb o e _=>?_,un.tups,un.frzs,un.tbls] (λc o e=>?_) bare λb j=>absurd j ⋯
 .let(u,m,x):=y b o e j;have C:=un.keep b o e n j ⋯
  simp_all
 .by_cases j:b∈eM X.stack
  .let(sl,m):=l b o e j;exact#[_,m]
  .let(u,_,x):=y b o e j;exact#[u,x]
 .refine(d c o e).iR (λb u j q=>?_) (λ_ q=>q) λ_ _ q=>q;have E:H' b≠none:=by grind
  exact g b _ (f b u q (λF=>E ((λb j=>by
  let(_,o,k,_):=I.stack.mem j;exact un.free b o k (I.gv b j) ⋯:∀ b∈eM X.stack,H' b=none) b F)) (.inr E))
theorem Inv.BN(I:Inv X aa σ H s)(a:∀ (i:Nat) (x:Str) (v:V),X.N[i]?=↑x->σ[i]?=↑↑v->Bq X.env.scope x->∃ u,RelV v u/\Look X.env s.heap m x u)
  (f:g.Ns X.env.locals h) (hs:V6 X.env.locals s.heap g) (j:∀ (i:Nat) (x:Str),X.N[i]?=↑x->h x=m x):Inv X aa σ H { s with heap:=g,toks:=t' }:=by
 have y:∀ b o,b≠X.env.locals->s.heap.get? b=↑o->g.get? b=↑o:=λb o A e=>(hs.2 b A).trans e;have C:∀ b o,X.s₀.heap.get? b=↑o->b≠X.env.locals:=λb o e=>Ù (Ò (à e) I.ok.above);have E:∀ x c v,X.env.cells.lookup x=↑c->s.heap.IsCell c v->g.IsCell c v:=λx c v e #[o,F,hd]=>#[o,y c o (I.C5 x c e) F,hd];refine#[I.ok,I.os,I.bare,#[λb o e n A G=>y b o (C b o e) (I.base.keep b o e n A G),λb o e n A G=>?_,I.base.free,λb o e G=>?_,I.base.tups,I.base.frzs,I.base.tbls],#[h,f,λi x v J K L=>?_],λx c e=>?_,I.free,I.freeC,λp P=>?_,λc o e=>?_,I.len]
 .let(sl,J):=I.base.slot b o e n A G;exact#[sl,y b _ (C b o e) J]
 .let(U,J):=I.base.there b o e G;exact#[U,y b _ (C b o e) J]
 .let(u,r,l):=a i x v J K L;refine#[u,r,?_];rcases l with ⟨k,z⟩ | ⟨k,c,Y,z⟩
  .exact .inl #[k,(j i x J).trans z]
  .exact .inr #[k,c,Y,E x c _ Y z]
 .let(v,z):=I.cell x c e;exact#[v,E x c v e z]
 .let(e,n,ne,nf,d):=I.pin p P;exact#[y _ _ ne e,n,ne,nf,d]
 .refine(I.aM c o e).iR (λb u A q=>y b u (λz=>?_) q) (λ_ q=>q) λ_ _ q=>q;rcases A with rfl | A
  .rw[z,I.free] at e;cases e
  .rw[z,I.free] at A;cases A
theorem Inv.AI{T:È}{o:HO}(I:Inv X aa σ H s)(a:H T=none)(n0:X.s₀.heap.get? T=none)(d:T≠X.env.locals)(f:∀ x c,X.env.cells.lookup x=↑c->c≠T)(g:∀ p∈X.pn++aa,p.1≠T)(new:bY X.prog X.w (upd H T o) s.heap T o) :
  Inv X aa σ (upd H T o) s:=by
 have u:=I.base;refine#[I.ok,I.os,I.bare,#[u.keep,u.slot,λb h e n i=>?_,u.there,λb j e=>?_,λb h j e=>?_,λb k e=>?_],I.loc,I.cell,?_,λx c e=>?_,λp l=>?_,λc v e=>?_,I.len]
 .rw[ag (λz=>by grind)];exact u.free b h e n i
 .have z:=u.tups b j e;rw[ag (ax z a)];exact z
 .have z:=u.frzs b h j e;rw[ag (ax z a)];exact z
 .let(more,z):=u.tbls b k e;exact#[more,by rw[ag (ax z a)];exact z]
 .rw[ag d.symm];exact I.free
 .rw[ag (f x c e)];exact I.freeC x c e
 .let(e,n,r):=I.pin p l;exact#[e,by rw[ag (g p l)];exact n,r]
 .by_cases m:c=T
  .subst m;rw[ao] at e;cases e;exact new
  .rw[ag m] at e;exact(I.aM c v e).iR (λ_ _ _ q=>q) (λb q=>by rw[ag (ax q a)];exact q) λb j q=>by rw[ag (ax q a)];exact q
end
structure nU(P:Program)(w:World)(K:PySem.W.Frag)(mg:Str->Option Value)(base:Heap)(CX:Ej)(k:Nat)(f:Addr)(fd:FuncData)(ps:⇑Str)(sp:Shared->Sp):Prop where
 len:∀ s vs H Q E,sp s vs H Q E->vs.length=ps.length
 run:∀ (A:Around) (outer:⇑Env) (s:Shared) (H:Hp) (args:Args) (us:⇑Value) (vs:⇑V) (Q:VK) (E:XK),ez k A->uj P w K mg base A outer s H->BindsTo s fd args (ps.zip us)->Vals vs us->sp s vs H Q E ->
  codeAny (model P w) A (.call ↥f args) (CR CX outer P w H s Q E) s
theorem L5{a:Ej}{P:å}{w:î}{K:Ã}{c:Str->Zn}{d:ö}{k:Nat}{f:È}{g h:Str}{i:Wr}{j:⇑Uv}{l:ò}{dV kV m pm p ct oc:Ä}{an od:Zl}
  {osl:Array Zn}{N ps:Zj}{sp:Ç->Sp} (lk:K.lookup f=↑#[oc,od,.func (fnOf g h i j l dV kV m pm an p ct),osl]) (hcd:PySem.W.codeIn K p h) (S:eP N ps l)
  (len:∀ s z H Q E,sp s z H Q E->z.length=ps.length)
  (B:∀ (A:þ) (C:⇑Env) (s:Ç) (H:Hp) (z:⇑V) (Q:VK) (E:XK),ez k (A.deeper (Xu h l s.heap.objs.size f p))->sp s z H Q E ->
   ∃ t,dM (iU a P w K c d N h l f p A C s H E) j t/\t { nx:=λ_ F=>Q .cD F,rt:=Q } (start N z) H) :
  nU P w K c d a (k + 1) f (fnOf g h i j l dV kV m pm an p ct) ps sp:=by
 refine#[len,λA C s H args us z Q E hr G hb r L=>?_];have KX :=G.mod.kin.keeps λb o e=>(G.bs b o e).1;have lim :=G.mod.nolimit.keeps λb o e=>(G.bs b o e).1;refine codeAny_call_function hr.depth (KX _ _ lk) rfl S.co S.gen rfl (codeRec_of KX hcd) (hb _ _ _ _ ?_);refine wpAny_newFunctionEnv_cells S.kind (λ#[n,v] hy=>by
  rcases S.par n (of_mem_zip hy).1 with q | q
  .exact .inl q
  .exact .inr #[q,cellsFrom_some _ _ _ (.inl q)]) λenv he s1 x=>?_;subst he;refine#[lim.keeps x.toInCall.keep,codeAny_func ?_];let(t,ht,hq):=B A C s H z Q E (hr.deeper _) L;refine UQ (ht [] s1 _ H _ (uN S hr.hd G (len _ _ _ _ _ L) r x) hq) (λfl s' hs=>?_) λe s' hs=>hs;have X:∀ {Y:St}{F:Hp}{v:V}{u:Ä},Inv (iU a P w K c d N h l f p A C s H E) [] Y F s'->RelV v u->Q v F->CE C P w H s Q u s' :=
  λ{Y F v u} J rv q=>#[v,F,J.os,J.bare,J.base,J.aM,rv,q]
 cases fl with
 |ret u =>
  let(v,Y,F,J,rv,q):=hs;exact X J rv q
 |next =>
  let(Y,F,J,q):=hs;exact X (v:=V.cD)  J rfl q
 |brk =>
  let(_,_,_,q):=hs;exact ú q
 |cont =>
  let(_,_,_,q):=hs;exact ú q
theorem ES.TL{P:å}{w:î}{K:Ã}{a:Str->Zn}{b:ö}{x c:Str}{d:Uv}{f:È}{fd:UA}{N e:Zj}{k:Nat}{g:Ç->Sp}(F:ES K x c d f fd)(S:eP N e (bo d))(len:∀ s i H Q E,g s i H Q E->i.length=e.length)
  (j:∀ (l:Ä) (A:þ) (m:⇑Env) (s:Ç) (H:Hp) (i:⇑V) (Q:VK) (E:XK),ez k (A.deeper (Xu c (bo d) s.heap.objs.size f l))->g s i H Q E ->
   ∃ t,dM (iU yu P w K a b N c (bo d) f l A m s H E).QS (eQ d) t/\t { nx:=λ_ n=>Q .cD n,rt:=Q } (start N i) H):nU P w K a b yu (k + 1) f fd e g:=by
 let(o,p,kV,r,u,v,l,y,z,rfl,B,C):=F.ex;refine L5 B C S len λA m s H i Q E G I=>?_;let(t,h,q):=j l A m s H i Q E G I;exact#[t,h.QS,q]
def iY(P:å)(w:î)(K:Ã)(mg:Str->Zn)(base:ö)(N:Zj)(qual:Str)(scope:ò)(f:È)(cd:Ä)(cl:⇑(Str × È))(A:þ)(outer:⇑Env)(s:Ç)(H:Hp)(E:XK):Cx where
 prog:=P
 w:=w
 K:=K
 mg:=mg
 base:=base
 A:=A.deeper (envX qual scope s.heap.objs.size f cd cl)
 N:=N
 s₀:=s
 H₀:=H
 env:=envX qual scope s.heap.objs.size f cd cl
 outer:=outer
 stack:=envX qual scope s.heap.objs.size f cd cl::outer
 ex:=[]
 calm:=true
 fn:=λ_=>false
 pn:=[]
 xe:=λe s'=>Ü (ß P w) (A.deeper (envX qual scope s.heap.objs.size f cd cl)) (leaving (envX qual scope s.heap.objs.size f cd cl) e) (λ_ s''=>pX P w outer H s E e s'') (λe' s''=>pX P w outer H s E e' s'') s'
section
variable {P:å}{w:î}{K:Ã}{mg:Str->Zn}{base:ö}{N:Zj}{qual:Str}{scope:ò}{f:È}{cd:Ä}{cl:⇑(Str × È)}{A:þ}{outer:⇑Env}{s₀:Ç}{H₀:Hp}{E:XK}
theorem qH:Passes (pX P w) (iY P w K mg base N qual scope f cd cl A outer s₀ H₀ E) E:=by
 intro b c H s e d I h;let(a,g,i,j,B,rfl,k,bare,un,l,m,n,o,p):=h;refine wpAny_leaves_onW I.ok.frames rfl m λq r u=>?_;exact wy   rfl rfl rfl I k bare un l o n r u p
structure g6(scope:Scope)(cl:⇑(Str × Addr))(N:⇑Str)(vs:⇑V)(H:Hp)(h:Heap):Prop where
 inj:∀ x y c,cl.lookup x=↑c->cl.lookup y=↑c->x=y
 has:∀ x,(scope.names.lookup x=↑.cell∨scope.names.lookup x=↑.free)->∃ c,cl.lookup x=↑c
 cell:∀ x c,cl.lookup x=↑c->∃ v,h.IsCell c v
 free:∀ x c,cl.lookup x=↑c->H c=none
 val:∀ (i:Nat) (x:Str) (v:V),N[i]?=↑x->vs[i]?=↑v->scope.names.lookup x=↑.free/\∃ c u,cl.lookup x=↑c/\RelV v u/\h.IsCell c ↑u
 len:vs.length=N.length
theorem IS(a:uj P w K mg base A outer s₀ H₀)(hd:A.handled=none)(d:scope.kind=.function)(e:g6 scope cl N g H₀ s₀.heap)(j:l.Ns s₀.heap.objs.size λ_=>none)
  (m:∀ b o,s₀.heap.get? b=↑o->l.get? b=↑o) :
  Inv (iY P w K mg base N qual scope f cd cl A outer s₀ H₀ E) [] (g.map some) H₀ { s₀ with heap:=l,toks:=t }:=by
 have n:∀ b ,b ∉ (iY P w K mg base N qual scope f cd cl A outer s₀ H₀ E).ex:=λb z=>absurd (show b∈([]:Zo) from z) ⋯
 have q:∀ c v,s₀.heap.IsCell c v->l.IsCell c v:=λc v #[o,s,hd]=>#[o,m c o s,hd];refine#[#[a.mod,d,rfl,rfl,Î _,e.inj,e.has,(λ_ _ z=>nomatch z),(λ_=>hd),Xp a.frames,.inr #[rfl,rfl],λb z=>absurd z (n b),a.bs,a.bsz,λb _ _=>n b,λb z=>absurd z (n b),a.j7,a.frf],
  rfl,a.bare,Un.kept m,#[_,j,λi x v y B C=>?_],λx c h=>?_,a.aM.fresh (Î _),e.free,λp F=>absurd (show p∈([]:⇑_) from F) ⋯,a.aM.kept m,?_]
 .let(k,c,u,H,r,z):=e.val i x v y (by simp_all);exact#[u,r,.inr #[.inr k,c,H,q c _ z]]
 .let(v,z):=e.cell x c h;exact#[v,q c v z]
 .rw[Æ];exact e.len
end
def recAt(c:È)(a:Str):ö->Prop:=λh=>h.CodeRec ↥c a
theorem jv(h:recAt c qual a)(k:∀ o,a.get? c=↑o->b.get? c=↑o):recAt c qual b:=by
 let(d,f,g,i,e,j,hd,l):=h;cases e;exact#[c,f,g,i,rfl,k _ j,hd,l]
section
variable {P:å}{w:î}{K:Ã}{mg:Str->Zn}{base:ö}{N:Zj}{qual:Str}{scope:ò}{f c':È}{cl:⇑(Str × È)}{s₀:Ç}{H₀:Hp}{k:Nat}{pm ctv cls:Ä}{params:Wr}{body:Ö}{vs:⇑V}
theorem g6.later{a:⇑Env}{H:Hp}{s:Ç}(b:g6 scope cl N vs H₀ s₀.heap)(un:Un (eM a) [] H₀ H s₀.heap s.heap):g6 scope cl N vs H s.heap:=by
 have d:∀ x c v,cl.lookup x=↑c->s₀.heap.IsCell c v->s.heap.IsCell c v:=λx c v e #[o,g,hd]=>by
  let(sl,h):=un.any g (b.free x c e) ⋯
  exact#[_,h,hd]
 refine#[b.inj,b.has,λx c e=>?_,λx c e=>?_,λi x v j l=>?_,b.len]
 .let(v,z):=b.cell x c e;exact#[v,d x c v e z]
 .let(v,o,g,_):=b.cell x c e;exact un.free c o g (b.free x c e) ⋯
 .let(k,c,u,m,r,z):=b.val i x v j l;exact#[k,c,u,m,r,d x c _ m z]
end
def Tab(H:Hp)(P:È)(a:Str):Prop:=∃ b:Zp,H P=↑(.cK b)/\Yr b.toList/\∀ pos c,WH pos b.toList=↑c->∃ d,c=↥d/\H d=↑(.ext (recAt d a))
theorem rO{line col:Int}{pos':Pos}{c c2:Ä}(tl:Zk)(h:Yr tl)(e:WH pos' (tl++[UM line,UM col,c])=↑c2):c2=c∨WH pos' tl=↑c2:=by
 fun_induction Yr tl with
 |case1 =>
  dsimp only [V8,WH,UM] at e
  simp_all
 |case2 a t b u x rest ih =>
  dsimp only [cons_append,WH] at e ⊢;split at e
  .rename_i hc;rw[Zv hc];exact .inr e
  .rename_i hc;rw[Zw hc];exact ih h e
 |case3 tl h1 h2=>exact h.elim
theorem yJ(a:∀ y∈b.names,y.2=.free->∃ c,env.cells.lookup y.1=↑c):∃ d,closureFor b env=pure d/\(∀ x c,d.lookup x=↑c->env.cells.lookup x=↑c)/\∀ y∈b.names,y.2=.free->∃ c,d.lookup y.1=↑c:=by
 let(d,e,f,_,g):=qE env b.names [] a (λx c z=>by simp at z)
 refine#[d,?_,f,g]
 delta closureFor
 simp_all
structure g7(P:Addr)(H H':Hp):Prop where
 same:∀ b o,b≠P->H b=↑o->H' b=↑o
section
variable {X:Cx}{aa:⇑(È × Obj)}{σ:St}{H:Hp}{s:Ç}{c P:È}{qual:Str}{params:Wr}{body:Ö}{bj:ò}{lpos:Pos}{A:þ}{Q:Ä->Ç->Prop}{E:Ä->Ç->Prop}
theorem nV(I:Inv X aa σ H s)(hdef:defaultsOf params X.env=([],[]))(a:X.env.code=↥c)(hhd:Ue X.K c P)(TB:Tab H P qual)(hqu:X.env.qual++"<lambda>"=qual)
  (hbm:∃ bm ob,X.mg "__builtins__"=↑↥bm/\bm≠U9/\X.base.get? bm=↑ob/\ob.cls=.type "module"/\ob.dict=↑U9/\ob.data=.plain)
  (hfr:∀ y∈bj.names,y.2=.free->∃ c,X.env.cells.lookup y.1=↑c)
  (k:∀ (d:⇑(Str × È)) (f g:È) (pm h:Ä) (h2:ö) (i:Tok) (H2:Hp),(∀ x c,d.lookup x=↑c->X.env.cells.lookup x=↑c)->(∀ y∈bj.names,y.2=.free->∃ c,d.lookup y.1=↑c) ->
   Inv X aa σ H2 { s with heap:=h2,toks:=i }->Tab H2 P qual->g7 P H H2->(∃ o,h2.get? f=↑o/\o.data=.func (YI "<lambda>" qual params body bj d pm ↥g h))->H2 f=none->H2 g=↑(.ext (recAt g qual))->s.heap.objs.size<=f ->
   Q ↥f { s with heap:=h2,toks:=i }):Ü (ß X.prog X.w) A (eval (.Lambda params body bj lpos) X.env) Q E s:=by
 apply kla_eval hdef;rw[hqu];let(d,ecl,cl1,cl2):=yJ hfr;let(ps,j,ht,l):=TB;have v :=I.aM P _ j;have hg:=I.mod.glob.keeps I.bk;have bsN:∀ b o,X.base.get? b=↑o->b≠P:=λb o e z=>by have:=(I.bs b o e).2;simp_all
 let(bm,ob,b1,b2,b3,b4,b5,b6):=hbm;have BA:s.heap.BuiltinsAt X.mg P:=#[bm,ob,b1,b2,λq=>by
  let(o,es,ep,e,hd,_):=I.mod.glob
  grind,bsN _ _ b3,I.bk _ _ b3,b4,b5,b6];have CH:=codeHd_of_K I.lF hhd;cases B:WH lpos ps.toList with
 |some cv =>
  let(g,rfl,hc'):=l lpos cv B;refine PySem.W.kla_makeFunctionHit ecl I.ok.glob hg a CH v ht B BA λh C i hk hsz=>?_;have F:∀ b o,s.heap.get? b=↑o->(C.push { cls:=.type "function",data:=.func (YI "<lambda>" qual params body bj d ((X.mg "__name__").getD .none) ↥g h) }).get? b=↑o:=λb o e=>Â _ (hk b o e);exact k d C.objs.size g _ h _ i H cl1 cl2 (I.kept  F) #[ps,j,ht,l] #[λ_ _ _ e=>e] #[_,Ì _ rfl,rfl] (I.aM.fresh hsz) hc' hsz
 |none =>
  refine PySem.W.kla_makeFunction ecl I.ok.glob hg a CH v ht B (by let(o,_,_,e,_):=I.mod.glob;exact bsN _ o e) BA λg h C i hx G hlt hrec htb=>?_;have lP :=à v;have cP :=Vx (Ò lP G);have nC :=I.aM.fresh G;have F:∀ b o,b≠P->s.heap.get? b=↑o->(C.push (kla_obj "<lambda>" qual params body bj d ((X.mg "__name__").getD .none) g h)).get? b=↑o:=λb o J e=>Â _ (hx b o J e);have tb:(C.push (kla_obj "<lambda>" qual params body bj d ((X.mg "__name__").getD .none) g h)).get? P=↑_:=Â _ htb;have rc:recAt g qual (C.push (kla_obj "<lambda>" qual params body bj d ((X.mg "__name__").getD .none) g h)):=jv hrec λo q=>Â _ q;have L:upd (upd H P (.cK (ps++[UM lpos.line,UM lpos.col,↥g].toArray))) g (.ext (recAt g qual)) P=↑(.cK (ps++[UM lpos.line,UM lpos.col,↥g].toArray)):=by rw[ag cP.symm];exact ao
  have N:∀ b,b≠P->b≠g->upd (upd H P (.cK (ps++[UM lpos.line,UM lpos.col,↥g].toArray))) g (.ext (recAt g qual)) b=H b:=λb h1 h2=>by rw[ag h2,ag h1]
  have U:∀ b o,H b=↑o->b≠g:=λb o e=>ax e nC;have I2:Inv X aa σ (upd (upd H P (.cK (ps++[UM lpos.line,UM lpos.col,↥g].toArray))) g (.ext (recAt g qual))) { s with heap:=C.push (kla_obj "<lambda>" qual params body bj d ((X.mg "__name__").getD .none) g h),toks:=i }:=by
   have nP:∀ b,H b=none->b≠P:=λb n z=>by rw[z,j] at n;cases n
   refine I.step   (ch:=[]) (λb J=>absurd J ⋯) (λb o _ _ _ e n=>F b o (nP b n) e) (λb o _ _ _ e n=>#[o.slots,F b o (nP b n) e]) (λb o _ e n=>?_) (λb o _ e=>?_) (λb xs e=>?_) (λb o u e=>?_) (λb qs e=>?_) (λm hm=>?_) (λb u e=>?_) I.bare
   .rw[N b (nP b n) (Ù (Ò (à e) G))];exact n
   .by_cases J:b=P
    .subst J;exact#[_,tb]
    .exact#[o,F b o J e]
   .rw[N b (λz=>by rw[z,j] at e;cases e) (U b _ e)];exact e
   .rw[N b (λz=>by rw[z,j] at e;cases e) (U b _ e)];exact e
   .by_cases J:b=P
    .subst J;rw[j] at e;cases e;exact#[_,L]
    .exact#[[].toArray,by rw[N b J (U b _ e),e];simp]
   .let(o,es,ep,ho,r):=hm;exact#[o,es,ep,F _ o (nP _ I.free) ho,r]
   .by_cases hbc:b=g
    .subst hbc;rw[ao] at e;cases e;let(_,oc,_,_,e1,e2,_):=id rc;cases e1;exact#[rc,#[oc,e2],λh1 h2 p kk=>jv p kk]
    .by_cases J:b=P
     .subst J;rw[L] at e;cases e;exact tb
     .rw[N b J hbc] at e;refine(I.aM b u e).iR (λb2 u2 hb2 q=>F b2 u2 (λz=>?_) q) (λb2 q=>?_) λb2 xs q=>?_
      .rcases hb2 with y | y
       .exact J (y.symm.trans z)
       .rw[z,j] at y;cases y
      .rw[N b2 (λz=>by rw[z,j] at q;cases q) (U b2 _ q)];exact q
      .rw[N b2 (λz=>by rw[z,j] at q;cases q) (U b2 _ q)];exact q
  have lf :=Vb (V7 G hlt);refine k d C.objs.size g _ h _ i _ cl1 cl2 I2 #[_,L,?_,λpos cc e=>?_] #[λb o J e=>by rw[N b J (U b _ e)];exact e] #[_,Ì _ rfl,rfl] ?_ ao lf
  .rw[YH];exact TriplesOk_snoc _ _ _ _ ht
  .rw[YH] at e;rcases rO _ ht e with z | z
   .exact#[g,z,ao]
   .let(c2,rfl,Y):=l pos cc z;exact#[c2,rfl,by rw[N c2 (λy=>by rw[y,j] at Y;cases Y) (U c2 _ Y)];exact Y]
  .rw[N _ (Vx (Ò lP lf)) (Vx hlt)];exact I.aM.fresh lf
end
def BMain(a:Str->Zn)(h:ö):Prop:=∃ b c,a "__builtins__"=↑↥b/\b≠U9/\h.get? b=↑c/\c.cls=.type "module"/\c.dict=↑U9/\c.data=.plain
theorem L6{w:î}:Passes (pX P w) X (λ_ _ _=>False):=λ_ _ _ _ _ _ _ h=>by
 let(_,_,_,_,_,_,_,_,_,_,_,_,_,e):=h;exact e.elim
theorem Tab.same{H a:Hp}(t:Tab H P q)(s:ae H a):Tab a P q:=by
 let(b,e,d,h):=t;refine#[b,s _ _ e,d,λpos c f=>?_];let(g,i,j):=h pos c f;exact#[g,i,s _ _ j]
def L7(P:å)(w:î)(a:Hp)(b:Ç)(f:È)(fd:UA):Prop:=∀ (e:⇑Env) (s:Ç) (H:Hp),Un (eM e) [] a H b.heap s.heap->ae a H->jm P w H s.heap->∃ c d sl,s.heap.get? f=↑#[c,d,.func fd,sl]
theorem L7.new{w:î}{fd:UA}(a:∃ o,b.heap.get? f=↑o/\o.data=.func fd)(g:i f=none):L7 P w i b f fd:=λj s H un _ _=>by
 obtain⟨⟨c,d,k,sl⟩,e,hd⟩:=a;subst hd;let(sl,h):=un.any e g ⋯
 exact#[_,_,sl,h]
structure jw(P:Program)(w:World)(K:PySem.W.Frag)(mg:Str->Option Value)(base:Heap)(k:Nat)(f:Addr)(H₀:Hp)(s₀:Shared)(cls:Value)(RR:Hp->Prop):Prop where
 fn:∃ fd,L7 P w H₀ s₀ f fd
 run:∀ (A:Around) (outer:⇑Env) (s:Shared) (H:Hp),ez k A->uj P w K mg base A outer s H->Un (eM outer) [] H₀ H s₀.heap s.heap->ae H₀ H ->
  codeAny (model P w) A (.call ↥f ⟨[],[]⟩) (CR (pX P w) outer P w H s (λ_ _=>False) λc _ H'=>c=cls/\RR H') s
def OP(X:Cx)(i j:Nat)(f C:È)(b:Hp->Prop):TS:=λD c H=>c[i]?=↑↑↥f/\ae X.H₀ H/\∀ a d,b d->d a=none->D.nx (c.set j ↑↥a) (upd d a (.ext (excAt a C)))
section
variable {X:Cx}{k i j:Nat}{f C D:È}{x y z n:Str}{p1 p2 p3 p4 p5 p6 p7 p8 p9:Pos}
theorem Dy(hx0:X.ex=[])(hS:X.stack=X.env::X.outer)(hf:X.env.frame=↑X.env.locals)(hr:ez k X.A)(th:jw X.prog X.w X.K X.mg X.base k f X.H₀ X.s₀ ↥C RR)
  (hy:X.N[i]?=↑y) (vy:Bq X.env.scope y) (dy:(y == ("__debug__":Str))=false) (cy:(y == ("__classdict__":Str))=false)
  (hg:Gl X x) (hm:X.mg x=↑↥D) (dx:(x == ("__debug__":Str))=false) (he:PySem.W.exmOne X.K ↥C ↥D=↑true)
  (hn:X.env.kindOf n=↑.local) (nN:n ∉ X.N) (dn:(n == ("__debug__":Str))=false) (hN:X.N.Nodup) (hz:X.N[j]?=↑z) (lz:Loc X.env.scope z) (hfn:X.fn z) :
  PS X (.Try [.Expr (.Call (.Name y p1) [] [] p2) p3] [.ExceptHandler ↑(.Name x p4) ↑n [.Assign [.Name z p5] (.Name n p6) p7] p8] [] [] p9) (OP X i j f C RR):=by
 intro aa s σ H Dd I h;let(eσ,sH,q):=h;have U0:Un (eM X.stack) [] X.H₀ H X.s₀.heap s.heap:=by
  have u:=I.base;rw[hx0] at u;exact u.mono (λb d=>by rw[hS];delta eM;rw[Ud,hf];exact É _ d) λb d=>d
 let(fd,hfd):=th.fn;let(c0,d0,sl,hof):=hfd X.stack s H U0 sH I.aM;have g:(X.env.scope.kind == .class || (X.env.scope.kind == .module&&X.env.locals != X.env.globals))=false:=by rw[I.ok.kind];rfl
 refine wpAny_Try_except (wpAny_execs_cons ?_);refine wpAny_Expr_any ?_ I.quiet rfl;apply VJ;apply (λ{Q E} F=>by
  let(m,hnm,hl):=I.loc;let(u,r,l):=hl i y _ hy eσ vy;cases (show u=tv f from r);rcases l with ⟨hk,hv⟩ | ⟨hk,c,hc,G⟩
  .exact Yu (WB I.ok.kind hk hnm hv F) dy
  .rcases hk with hk | hk
   .exact Yu (Yg I.ok.kind hk hc G F) dy
   .exact Yu (wpAny_loadName_free I.ok.kind hk hc G F cy) dy:∀ {Q:Ä->Ç->Prop}{E:Ä->Ç->Prop},Q _ s->Ü (ß X.prog X.w) X.A (eval (.Name y p1) X.env) Q E s);refine PySem.W.callWith_of (P:=λh=>h.get? f=↑_) rfl (λh e=>#[_,.inl rfl,?_]) (evalArgs_nil3 #[hof,?_])
 .exact(XR  e).andThen .now
 refine Xa (U4 (th.run X.A X.stack s H hr I.EK U0 sH) λr s1 F=>?_);cases r with
 |ok fl =>
  cases fl with
  |ret u=>let(_,_,_,_,_,_,_,z):=F;exact z.elim
  |next=>exact ú F
  |brk=>exact ú F|cont=>exact ú F
 |error e =>
  let(a,cls,a0,H1,B,rfl,os1,J,un,aM,fl,na,bB,rfl,s1H):=F;have nA:s.heap.get? a=none:=by
   cases ea:s.heap.get? a with
   |none=>rfl
   |some o =>
    exfalso;let(L,vs,hoe,_,hde,_):=fl.first;by_cases d:a∈eM X.stack
    .let(sl',U):=un.slot a o ea (I.gv a d) d ⋯
     let(_,o',ho',hd'):=I.stack.mem d;rw[ea] at ho';cases ho';rw[hoe] at U;cases U;exact hd' vs hde
    .have:=bB a L hoe d (.inl #[o,ea]);rw[fl.2.1] at this;cases this
  have n0:X.s₀.heap.get? a=none:=by
   cases ea:X.s₀.heap.get? a with
   |none=>rfl
   |some o =>
    let(o',U):=U0.there a o ea ⋯
    rw[nA] at U;cases U
  have aL:a≠X.env.locals:=λz=>by
   obtain⟨m,⟨o,_,_,ho,_⟩,_⟩:=I.loc;rw[z,ho] at nA;cases nA
  have aC:∀ x c,X.env.cells.lookup x=↑c->c≠a:=λx c e z=>by
   let(v,o,ho,_):=I.cell x c e;rw[z,nA] at ho;cases ho
  have aP:∀ p∈X.pn++aa,p.1≠a:=λp hp z=>by
   have:=(I.pin p hp).1;rw[z,nA] at this;cases this
  refine wpAny_looks_onW (I.ok.frames.trans (by rw[hS])) hf (by rw[<-hS];exact fl) λh2 held2 sm2=>?_
  refine wpAny_landsW held2 λh3 fl3 sm3=>?_;have I3 :=Ft I os1 J un aM bB fl3.1 (sm2.trans sm3);have at3:excAt a C h3:=by let(L,U,e2):=fl3.there;exact#[L,U,e2]
  refine wpAny_handleBy_cons (codeAny_handlers_test ?_) (λz=>nomatch z);refine X5 I3.ok.kind hg (Calls.loadGlobal_global (by rw[I3.ok.glob];exact I3.mod.glob.keeps I3.bk) hm ?_) dx
  refine(PySem.W.exm_one  I3.lF at3.ty he).here ?_;refine codeAny_handlers_suite_as (lands_againW fl3 λh4 fl4 sm4=>?_);have I4 :=Ft I os1 J un aM bB fl4.1 ((sm2.trans sm3).trans sm4);have at4:excAt a C h4:=by let(L,U,e2):=fl4.there;exact#[L,U,e2]
  let(m4,hn4,hl4):=id I4.loc;refine wpAny_storeName_local hn hn4 (λh5 hn5 hs5=>?_) g;have Y:∀ (i) (x),X.N[i]?=↑x->x≠n:=λi x e z=>nN (by rw[<-z];exact Û e)
  have I5:Inv X aa σ H1 { s1 with heap:=h5,toks:=s1.toks + 1 }:=Inv.BN (s:={ s1 with heap:=h4 }) I4 hl4 hn5 hs5 λi x e=>Zw (Y i x e);refine wpAny_execs_cons (wpAny_Assign_Name ?_ rfl);refine Yu (WB I.ok.kind hn hn5 (Zv rfl) ?_) dn;refine oT (v:=↥a) I5 hN hz lz rfl (λs6 I6 hsame=>?_) (.inl hfn);refine X9 ?_;let(m6,hn6,hl6):=id I6.loc;refine wpAny_nameGoes_keeps hn hn6 g λh7 v7 hn7 hs7=>?_;have I7:=Inv.BN (t':=s6.toks + 1) I6 hl6 hn7 hs7 λi x e=>Zw (Y i x e);have at7:excAt a C h7:=by
   let(L,U,e2):=at4;let(b6,hb6,hor):=hsame;have e5 :=(hs5.2 a aL).trans U;have e6 :=(hb6.2 a (λz=>by
    rcases hor with y | y
    .exact aL (z.trans y)
    .exact aC _ _ y z.symm)).trans e5
   exact#[L,(hs7.2 a aL).trans e6,e2]
  have nT :=na;have I8:=Inv.AI  (o:=.ext _) I7 nT n0 aL aC aP #[at7,by let(L,U,_):=at7;exact#[L,U],λh1 h2 p kk=>AG p kk]
  exact#[_,_,I8,q a H1 s1H na]
end
section
variable {P:å}{w:î}{K:Ã}{mg:Str->Zn}{base:ö}{N:Zj}{qual:Str}{scope:ò}{f c':È}{cl:⇑(Str × È)}{s₀:Ç}{H₀:Hp}{k:Nat}{pm ctv cls:Ä}{params:Wr}{body:Ö}{vs:⇑V}
theorem mL(a:L7 P w H₀ s₀ f (YI "<lambda>" qual params body scope cl pm ↥c' ctv))(d:H₀ c'=↑(.ext (recAt c' qual)))
  (g:scope.kind=.function) (h:scope.isCoroutine=false) (i:scope.isGenerator=false) (j:∀ x∈scope.names,x.2≠.cell)
  (l:bindArgs (YI "<lambda>" qual params body scope cl pm ↥c' ctv) #[[],[]]=pure []) (m:g6 scope cl N vs H₀ s₀.heap)
  (n:∀ (A:þ) (p:⇑Env) (s:Ç) (H:Hp),ez k (A.deeper (envX qual scope s.heap.objs.size f ↥c' cl))->ae H₀ H ->
   ∃ t,PE (iY P w K mg base N qual scope f ↥c' cl A p s H λc _ q=>c=cls/\r q) body t/\t (vs.map some) H λ_ _=>False) :
  jw P w K mg base (k + 1) f H₀ s₀ cls r:=by
 refine#[#[_,a],λA p s H u B un C=>?_];let(c0,d0,sl,E):=a p s H un C B.aM;have G :=B.mod.nolimit.keeps λb o e=>(B.bs b o e).1;apply PySem.W.kla_callFunE u.depth E rfl h i rfl ((B.aM c' _ (C _ _ d)).1);rw[l];refine Å (wpAny_newFunctionEnv j (λy J=>absurd J ⋯) (λL U X=>#[G.fresh _ X,?_]) g)
 let(t,ht,hq):=n A p s H (u.deeper _) C;have I:Inv (iY P w K mg base N qual scope f ↥c' cl A p s H λc _ q=>c=cls/\r q) [] _ H { s with heap:=L,toks:=s.toks + 0 }:=IS B u.hd g (m.later un) U (λb o e=>X.extBut b o (Ù (à e)) (Â _ e));refine PySem.W.kla_codeExpr (UQ (ht [] _ _ H _ I hq) (λv s' hv=>?_) λe s' he=>he);let(_,_,_,_,z):=hv;exact z.elim
end
def KI(X:Cx)(P:È)(a:Str)(N:Zj)(b:ò)(d:Ö)(k:Nat)(e:Ä)(g:Hp->Hp->Prop)(h:Ç->Sp):TE:=λl H Q=>Tab H P a/\∃ m:⇑V,m.length=N.length /\
 (∀ (i:Nat) (x:Str) (v:V),N[i]?=↑x->m[i]?=↑v->∃ j:Nat,X.N[j]?=↑x/\l[j]?=↑↑v) /\
 ∀ n,g7 P H n->Tab n P a ->
  (∀ (f o:È) (p:⇑(Str × È)) (A:þ) (q:⇑Env) (s:Ç) (r:Hp),ez k (A.deeper (envX a b s.heap.objs.size f ↥o p))->ae n r ->
   ∃ t,PE (iY X.prog X.w X.K X.mg X.base N a b f ↥o p A q s r λc _ u=>c=e/\g n u) d t/\t (m.map some) r λ_ _=>False) /\
  ∀ (y:Ç) (f:È),jw X.prog X.w X.K X.mg X.base (k + 1) f n y e (g n)->h y [↥f] n Q λ_ _ _=>False
section
variable {X:Cx}{c P f:È}{fd:UA}{qual g par:Str}{N:Zj}{params:Wr}{body:Ö}{bj:ò}{lpos p pos:Pos}{k kr:Nat}{cls:Ä}{sp:Ç->Sp}
theorem pY{RR:Hp->Hp->Prop}(F:nU X.prog X.w X.K X.mg X.base yu kr f fd [par] sp)(hr:ez kr X.A)(hg:Gl X g)(hm:X.mg g=↑↥f)(hk:Wi X.K ↥f)(hb:Binds X.K fd [par] [])
  (a:X.env.code=↥c) (hhd:Ue X.K c P) (hqu:X.env.qual++"<lambda>"=qual)
  (hbm:∃ bm ob,X.mg "__builtins__"=↑↥bm/\bm≠U9/\X.base.get? bm=↑ob/\ob.cls=.type "module"/\ob.dict=↑U9/\ob.data=.plain)
  (b:∀ y∈bj.names,y.2=.free->X.env.kindOf y.1=↑.cell) (d:∀ y∈bj.names,y.2≠.cell) (hNf:∀ x∈N,bj.names.lookup x=↑.free)
  (lk:bj.kind=.function) (lco:bj.isCoroutine=false) (lge:bj.isGenerator=false) (n:defaultsOf params X.env=([],[]))
  (hbd:∀ (o:⇑(Str × È)) (pm B:Ä) (c':È),bindArgs (YI "<lambda>" qual params body bj o pm ↥c' B) #[[],[]]=pure [])
  (hdb:(g == ("__debug__":Str))=false:=by decide) (he:Ul [.Lambda params body bj lpos] X.env=[(false,eval (.Lambda params body bj lpos) X.env)]:=by rfl) :
  PE X (.Call (.Name g p) [.Lambda params body bj lpos] [] pos) (KI X P qual N bj body k cls RR sp):=by
 intro aa s σ H Q I h;let(TB,vs,C,hvs,q):=h;refine VJ (lH I hg hm ?_ hdb);refine callWith_K  I.ok.mod.kin hk ?_ he rfl;refine WJ (nV I n a hhd TB hqu hbm (λy hy hf=>I.ok.has y.1 (.inl (b y hy hf))) λo E c' pm B G tk H2 J L U TB2 KB ho nf hc _=>?_);let(q1,q2):=q H2 KB TB2;refine Wc #[U.lF,?_];refine Xa (U4 (F.run X.A X.stack _ H2 _ _ [↥E] Q _ hr U.EK (hb _ _ U.lF rfl) (.cons rfl .nil) (q2 _ E (mL  (.new ho nf) hc lk lco lge d (hbd o pm B c') (by
  refine#[λx y c e1 e2=>U.ok.inj x y c (J x c e1) (J y c e2),λx hx=>?_,λx c e=>U.cell x c (J x c e),λx c e=>U.freeC x c (J x c e),λi x v h1 G=>?_,C]
  .rcases hx with hx | hx
   .exact absurd rfl (d _ (ä hx))
   .exact L _ (ä hx) rfl
  .have hf:=hNf x (Û h1);have mem:=ä hf;have kc :=b _ mem rfl;let(j,e1,e2):=hvs i x v h1 G;let(m,_,hl):=U.loc;let(u,r,l):=hl j x v e1 e2 (YK (XC kc));let(c2,ec2):=L _ mem rfl;refine#[hf,c2,u,ec2,r,?_];rcases l with ⟨kl,_⟩ | ⟨_,c3,ec3,z⟩
   .rw[kc] at kl;cases kl
   simp_all) λA Y s H3 hr sm=>q1 E c' o A Y s H3 hr sm))) λr s' hq=>?_);cases r with
 |error e=>exact ú hq
 |ok fl =>
  cases fl with
  |ret u=>exact U.after hq|next=>exact ú hq
  |brk=>exact ú hq|cont=>exact ú hq
end
def fnAt(f:È)(fd:UA):ö->Prop:=λh=>∃ o,h.get? f=↑o/\o.data=.func fd
theorem uY(h:fnAt f fd a)(k:∀ o,a.get? f=↑o->b.get? f=↑o):fnAt f fd b:=by
 let(o,e,d):=h;exact#[o,k _ e,d]
theorem L7.at(h:a f=↑(.ext (fnAt f fd))):L7 P w a s₀ f fd:=λb s H _ g i=>by
 obtain⟨⟨⟨c,d,j,sl⟩,e,hd⟩,_⟩:=i f _ (g _ _ h);subst hd;exact#[_,_,_,e]
def KJ(X:Cx)(P:È)(a:Str)(b:Wr)(d:Ö)(e:ò):TE:=λg H Q=>Tab H P a/\∀ (h:⇑(Str × È)) (f i:È) (j k:Ä) (l:Hp),(∀ x c,h.lookup x=↑c->X.env.cells.lookup x=↑c)->(∀ y∈e.names,y.2=.free->∃ c,h.lookup y.1=↑c) ->
 Tab l P a->g7 P H l->H f=none->l f=↑(.ext (fnAt f (YI "<lambda>" a b d e h j ↥i k)))->l i=↑(.ext (recAt i a))->Q ↥f l
section
variable {X:Cx}{c P:È}{qual:Str}{params:Wr}{body:Ö}{bj:ò}{lpos:Pos}
theorem L8(a:X.env.code=↥c)(d:Ue X.K c P)(g:X.env.qual++"<lambda>"=qual)(i:defaultsOf params X.env=([],[]))
  (j:∃ l n,X.mg "__builtins__"=↑↥l/\l≠U9/\X.base.get? l=↑n/\n.cls=.type "module"/\n.dict=↑U9/\n.data=.plain)
  (r:∀ y∈bj.names,y.2=.free->X.env.kindOf y.1=↑.cell):PE X (.Lambda params body bj lpos) (KJ X P qual params body bj):=by
 intro aa s σ H Q I h;let(u,q):=h;refine nV I i a d u g j (λy hy hf=>I.ok.has y.1 (.inl (r y hy hf))) λcl f A pm B h2 tk H2 C E I2 F KB G J hc L=>?_;have N:∀ {b:È}{o:Obj},s.heap.get? b=↑o->b≠f:=λe z=>by subst z;exact Ui _ (Ò (à e) L)
 have fP:f≠P:=λz=>by
  let(ps,e,_):=u;subst z;exact N (I.aM f _ e) rfl
 have fC:f≠A:=λz=>by simp_all
 have Hf :=I.aM.fresh L;refine#[↥f,_,Inv.AI  (o:=.ext _) I2 J (by
  cases e:X.s₀.heap.get? f with
  |none=>rfl|some o=>exact absurd (Ò (à e) (â I.sz L)) (Ui _)) (λz=>by
  obtain⟨m,⟨o,_,_,e,_⟩,_⟩:=I.loc;exact N e z.symm) (λx c e=>by
  let(v,o,U,_):=I.cell x c e;exact N U) (λp hp=>N (I.pin p hp).1) #[G,by let(o,e,_):=G;exact#[o,e],λh1 h2 p kk=>uY p kk],rfl,q cl f A pm B _ C E ?_ #[λb o hb e=>?_] Hf ao ?_]
 .let(ps,e,tr,k):=F;refine#[ps,by rw[ag fP.symm];exact e,tr,λpos cc h=>?_]
  let(c2,U,Y):=k pos cc h;exact#[c2,U,by rw[ag (λz=>by rw[z,J] at Y;cases Y)];exact Y]
 .rw[ag (λz=>by rw[z,Hf] at e;cases e)];exact KB.same b o hb e
 .rw[ag fC.symm];exact hc
end
section
variable {X:Cx}{f:È}{fd:UA}{g par n:Str}{p p2 pos:Pos}{i k kr:Nat}{sp:Ç->Sp}{Ok:È->Ä->(Hp->Prop)->Hp->Prop}
theorem wz(F:nU X.prog X.w X.K X.mg X.base yu kr f fd [par] sp)(hr:ez kr X.A)(hg:Gl X g)(hm:X.mg g=↑↥f)(hk:Wi X.K ↥f=true)(hb:Binds X.K fd [par] [])
  (hi:X.N[i]?=↑n) (hv:Bq X.env.scope n) (d1:(n == ("__debug__":Str))=false) (d2:(n == ("__classdict__":Str))=false)
  (th:∀ aa σ H s,Inv X aa σ H s->∀ a cls RR,Ok a cls RR H->jw X.prog X.w X.K X.mg X.base (k + 1) a H s cls RR)
  (hdb:(g == ("__debug__":Str))=false:=by decide) :
  PE X (.Call (.Name g p) [.Name n p2] [] pos) (λσ H Q=>∃ a cls RR,σ[i]?=↑↑↥a/\Ok a cls RR H/\∀ s2:Ç,jw X.prog X.w X.K X.mg X.base (k + 1) a H s2 cls RR->sp s2 [↥a] H Q λ_ _ _=>False):=by
 intro aa s σ H Q I h;let(a,cls,RR,e,ok,q):=h;refine VJ (lH I hg hm ?_ hdb);refine callWith_K  I.ok.mod.kin hk ?_ rfl rfl;refine WJ (bQ (cg  hi hv d1 d2 aa s σ H (λv H'=>v=↥a/\H'=H) I #[_,e,rfl,rfl]) λv s1 hr1=>?_);let(y,H1,I1,r1,rfl,rfl):=hr1;cases (show v=tv a from r1);refine Wc #[I1.lF,?_];refine Xa (U4 (F.run X.A X.stack s1 H1 _ _ [↥a] Q _ hr I1.EK (hb _ _ I1.lF rfl) (.cons rfl .nil) (q s1 (th _ _ _ _ I1 _ _ _ ok))) λr s' hq=>?_);cases r with
 |error e=>exact ú hq
 |ok fl =>
  cases fl with
  |ret u=>exact I1.after hq|next=>exact ú hq
  |brk=>exact ú hq|cont=>exact ú hq
end
theorem PE.mp(h:PE X e t)(i:∀ a H Q,b a H Q->t a H Q):PE X e b:=λc s a H Q I q=>h c s a H Q I (i _ _ _ q)
structure LT where
 f:Addr
 c':Addr
 cl:⇑(Str × Addr)
 pm:Value
 ctv:Value
 bj:Scope
 body:Expr
 N:⇑Str
def noArgs:Arguments:=#[[],[],none,[],[],none,[]]
def LT.fd(t:LT)(a:Str):FuncData:=YI "<lambda>" a noArgs t.body t.bj t.cl t.pm ↥t.c' t.ctv
structure QY(X:Cx)(bj:Scope)(N:⇑Str):Prop where
 hfr:∀ y∈bj.names,y.2=.free->X.env.kindOf y.1=↑.cell
 hnc:∀ y∈bj.names,y.2≠.cell
 hNf:∀ x∈N,bj.names.lookup x=↑.free
 lk:bj.kind=.function
 lco:bj.isCoroutine=false
 lge:bj.isGenerator=false
structure qt(X:Cx)(qual:Str)(H:Hp)(t:LT):Prop where
 form:QY X t.bj t.N
 fn:H t.f=↑(.ext (fnAt t.f (t.fd qual)))
 rc:H t.c'=↑(.ext (recAt t.c' qual))
 cl1:∀ x c,t.cl.lookup x=↑c->X.env.cells.lookup x=↑c
 cl2:∀ y∈t.bj.names,y.2=.free->∃ c,t.cl.lookup y.1=↑c
structure QZ(X:Cx)(σ:St)(t:LT)(vs:⇑V):Prop where
 len:vs.length=t.N.length
 vals:∀ (i:Nat) (x:Str) (v:V),t.N[i]?=↑x->vs[i]?=↑v->∃ j:Nat,X.N[j]?=↑x/\σ[j]?=↑↑v
theorem qt.frees{t:LT}(k:qt X qual H t)(a:QZ X σ t b)(I:Inv X d σ H s):g6 t.bj t.cl t.N b H s.heap:=by
 refine#[λx y c f g=>I.ok.inj x y c (k.cl1 x c f) (k.cl1 y c g),λx h=>?_,λx c e=>I.cell x c (k.cl1 x c e),λx c e=>I.freeC x c (k.cl1 x c e),λi x v n o=>?_,a.len]
 .rcases h with h | h
  .exact absurd rfl (k.form.hnc _ (ä h))
  .exact k.cl2 _ (ä h) rfl
 .have p:=k.form.hNf x (Û n);have mem:=ä p;have q :=k.form.hfr _ mem rfl;let(j,f,g):=a.vals i x v n o;let(m,_,A):=I.loc;let(u,r,l):=A j x v f g (YK (XC q));let(c2,B):=k.cl2 _ mem rfl;refine#[p,c2,u,B,r,?_];rcases l with ⟨C,_⟩ | ⟨_,c3,E,z⟩
  .rw[q] at C;cases C
  .have:=k.cl1 _ _ B
   simp_all
theorem g6.L9{fs ex:Zo}(a:g6 scope cl N b d h₀)(un:Un fs ex d H h₀ h)(f:∀ x c,cl.lookup x=↑c->c ∉ ex):g6 scope cl N b H h:=by
 have g:∀ x c v,cl.lookup x=↑c->h₀.IsCell c v->h.IsCell c v:=λx c v e #[o,j,hd]=>by
  let(sl,l):=un.any j (a.free x c e) (f x c e);exact#[_,l,hd]
 refine#[a.inj,a.has,λx c e=>?_,λx c e=>?_,λi x v m n=>?_,a.len]
 .let(v,z):=a.cell x c e;exact#[v,g x c v e z]
 .let(v,o,j,_):=a.cell x c e;exact un.free c o j (a.free x c e) (f x c e)
 .let(k,c,u,p,r,z):=a.val i x v m n;exact#[k,c,u,p,r,g x c _ p z]
def Raises(X:Cx)(a:Str)(k:Nat)(H:Hp)(t:LT)(b:⇑V)(d:Ä)(e:Hp->Prop):Prop:=∀ (A:þ) (g:⇑Env) (s:Ç) (h:Hp),ez k (A.deeper (envX a t.bj s.heap.objs.size t.f ↥t.c' t.cl))->ae H h ->
 ∃ u,PE (iY X.prog X.w X.K X.mg X.base t.N a t.bj t.f ↥t.c' t.cl A g s h λc _ i=>c=d/\e i) t.body u/\u (b.map some) h λ_ _=>False
def Fu(H:Hp)(a:Str)(t:LT):Prop:=H t.f=↑(.ext (fnAt t.f (t.fd a)))/\H t.c'=↑(.ext (recAt t.c' a))
theorem Fv{X:Cx}{t:LT}(a:QY X t.bj t.N)(h:Fu H qual t)(b:g6 t.bj t.cl t.N c H s.heap)(r:Raises X qual k H t c cls d):jw X.prog X.w X.K X.mg X.base (k + 1) t.f H s cls d :=
 mL (L7.at h.1) h.2 a.lk a.lco a.lge a.hnc rfl b r
section
variable {X:Cx}{f:È}{fd:UA}{g par n qual:Str}{p p2 p3 pos ps:Pos}{k kr:Nat}{sp:Ç->Sp}{src:Ö}{wi:TI}{sc:ò}
def R3(X:Cx)(qual:Str)(k:Nat)(sp:Ç->Sp)(a:St)(b:Hp):TE:=λc H Q=>∃ t d e h,qt X qual b t/\QZ X a t d/\c[0]?=↑↑↥t.f/\Fu H qual t/\Raises X qual k H t d e h/\∀ i:Ç,jw X.prog X.w X.K X.mg X.base (k + 1) t.f H i e h->sp i [↥t.f] H Q λ_ _ _=>False
theorem rP(b:X.calm)(S:fq X sc [n] [])(d:PI X (.Name n p3) src wi)(F:nU X.prog X.w X.K X.mg X.base yu kr f fd [par] sp)(h:ez kr X.A)(j:∀ l C s H m,Gl (aX X (aT [n] []) sc l C s H m) g)(o:X.mg g=↑↥f)(q:Wi X.K ↥f)(r:Binds X.K fd [par] [])
  (hp:∀ l C s H m,PG (aX X (aT [n] []) sc l C s H m) (.Name n p3) (gp 0)) (hv:∀ l C s H m,Bq (aX X (aT [n] []) sc l C s H m).env.scope n) (d1:(n == ("__debug__":Str))=false) (d2:(n == ("__classdict__":Str))=false) (u:(g == ("__debug__":Str))=false) (hs:∀ x,VU src X.env x=pure x) :
  PE X (.ListComp (.Call (.Name g p) [.Name n p2] [] pos) [#[.Name n p3,src,[],0]] sc ps) (λv H Q=>wi v H λJ y=>True/\rl J [none] y (gp 0) nJ (R3 X qual k sp v y) Q):=by
 refine ET   b S d hp (λ_ _ _ _ _=>nK) (λl aa v H s I hcl _ C m hf=>?_) hs
 .refine PE.mp (wz (k:=k)  (Ok:=λa B E G=>∃ t L,qt X qual H t/\QZ X v t L/\a=t.f/\Fu G qual t/\Raises X qual k G t L B E) (i:=0) F h (j l C s H m) o q r rfl (hv l C s H m) d1 d2 (λN P G s' I' a B E ok=>?_) u) λP G Q' q'=>?_
  .let(t,L,lt,U,rfl,Y,rs):=ok;exact Fv (X:=X) lt.form Y ((lt.frees U I).L9 I'.base λx c e z=>(hf c z).2.2.2.2.1 x c (lt.cl1 x c e) rfl) rs
  .let(t,L,B,E,lt,U,e,Y,rs,q2):=q';exact#[t.f,B,E,e,#[t,L,lt,U,rfl,Y,rs],q2]
end
abbrev Fw:Zj:=["_law_call","_law_error","_law_marks"]
abbrev Fx:Scope:={ kind:=.function,names:=[(".0",.local),("_law_k",.local),("_law_marks",.free)],isGenerator:=false,isCoroutine:=false,more:=[] }
abbrev iZ:Scope:={ kind:=.function,names:=[("_law_call",.local),("_law_error",.local),("e",.local),("_law_marks",.cell),("ChanceError",.globalImplicit),("isinstance",.globalImplicit),("NoWeb",.globalImplicit),("NoLot",.globalImplicit),("NoPlaces",.globalImplicit),("NoPlace",.globalImplicit),("NoTie",.globalImplicit),("NoChance",.globalImplicit),("NoChances",.globalImplicit),("NoPaper",.globalImplicit),("TooMany",.globalImplicit),("NoText",.globalImplicit),("NoLine",.globalImplicit),("NoDeed",.globalImplicit),("ValueError",.globalImplicit),("range",.globalImplicit)],isGenerator:=false,isCoroutine:=false,more:=[("fast",.str "_law_call"),("fast",.str "_law_error"),("fast",.str "e"),("fast",.str "_law_marks"),("fast",.str "_law_k")] }
def OQ:Nat:=268
def wA(n:Nat):⇑Stmt:=[.Assign [(.Name "_law_error" #[n,4,n,14])] (.Constant .none 0 #[n,17,n,21]) #[n,4,n,21],
   .Try [.Expr (.Call (.Name "_law_call" #[n + 2,8,n + 2,17]) [] [] #[n + 2,8,n + 2,19]) #[n + 2,8,n + 2,19]] [.ExceptHandler ↑(.Name "ChanceError" #[n + 3,11,n + 3,22]) ↑"e" [.Assign [(.Name "_law_error" #[n + 4,8,n + 4,18])] (.Name "e" #[n + 4,21,n + 4,22]) #[n + 4,8,n + 4,22]] #[n + 3,4,n + 4,22]] [] [] #[n + 1,4,n + 4,22],
   .Assign [(.Name "_law_marks" #[n + 5,4,n + 5,14])] (.List [(.Call (.Name "isinstance" #[n + 5,18,n + 5,28]) [(.Name "_law_error" #[n + 5,29,n + 5,39]),(.Name "NoWeb" #[n + 5,41,n + 5,46])] [] #[n + 5,18,n + 5,47]),(.Call (.Name "isinstance" #[n + 5,49,n + 5,59]) [(.Name "_law_error" #[n + 5,60,n + 5,70]),(.Name "NoLot" #[n + 5,72,n + 5,77])] [] #[n + 5,49,n + 5,78]),(.Call (.Name "isinstance" #[n + 5,80,n + 5,90]) [(.Name "_law_error" #[n + 5,91,n + 5,101]),(.Name "NoPlaces" #[n + 5,103,n + 5,111])] [] #[n + 5,80,n + 5,112])] #[n + 5,17,n + 5,113]) #[n + 5,4,n + 5,113],
   .Assign [(.Name "_law_marks" #[n + 6,4,n + 6,14])] (.BinOp (.Name "_law_marks" #[n + 6,17,n + 6,27]) .Add (.List [(.Call (.Name "isinstance" #[n + 6,31,n + 6,41]) [(.Name "_law_error" #[n + 6,42,n + 6,52]),(.Name "NoPlace" #[n + 6,54,n + 6,61])] [] #[n + 6,31,n + 6,62]),(.Call (.Name "isinstance" #[n + 6,64,n + 6,74]) [(.Name "_law_error" #[n + 6,75,n + 6,85]),(.Name "NoTie" #[n + 6,87,n + 6,92])] [] #[n + 6,64,n + 6,93]),(.Call (.Name "isinstance" #[n + 6,95,n + 6,105]) [(.Name "_law_error" #[n + 6,106,n + 6,116]),(.Name "NoChance" #[n + 6,118,n + 6,126])] [] #[n + 6,95,n + 6,127])] #[n + 6,30,n + 6,128]) #[n + 6,17,n + 6,128]) #[n + 6,4,n + 6,128],
   .Assign [(.Name "_law_marks" #[n + 7,4,n + 7,14])] (.BinOp (.Name "_law_marks" #[n + 7,17,n + 7,27]) .Add (.List [(.Call (.Name "isinstance" #[n + 7,31,n + 7,41]) [(.Name "_law_error" #[n + 7,42,n + 7,52]),(.Name "NoChances" #[n + 7,54,n + 7,63])] [] #[n + 7,31,n + 7,64]),(.Call (.Name "isinstance" #[n + 7,66,n + 7,76]) [(.Name "_law_error" #[n + 7,77,n + 7,87]),(.Name "NoPaper" #[n + 7,89,n + 7,96])] [] #[n + 7,66,n + 7,97]),(.Call (.Name "isinstance" #[n + 7,99,n + 7,109]) [(.Name "_law_error" #[n + 7,110,n + 7,120]),(.Name "TooMany" #[n + 7,122,n + 7,129])] [] #[n + 7,99,n + 7,130])] #[n + 7,30,n + 7,131]) #[n + 7,17,n + 7,131]) #[n + 7,4,n + 7,131],
   .Assign [(.Name "_law_marks" #[n + 8,4,n + 8,14])] (.BinOp (.Name "_law_marks" #[n + 8,17,n + 8,27]) .Add (.List [(.Call (.Name "isinstance" #[n + 8,31,n + 8,41]) [(.Name "_law_error" #[n + 8,42,n + 8,52]),(.Name "NoText" #[n + 8,54,n + 8,60])] [] #[n + 8,31,n + 8,61]),(.Call (.Name "isinstance" #[n + 8,63,n + 8,73]) [(.Name "_law_error" #[n + 8,74,n + 8,84]),(.Name "NoLine" #[n + 8,86,n + 8,92])] [] #[n + 8,63,n + 8,93]),(.Call (.Name "isinstance" #[n + 8,95,n + 8,105]) [(.Name "_law_error" #[n + 8,106,n + 8,116]),(.Name "NoDeed" #[n + 8,118,n + 8,124])] [] #[n + 8,95,n + 8,125])] #[n + 8,30,n + 8,126]) #[n + 8,17,n + 8,126]) #[n + 8,4,n + 8,126],
   .If (.UnaryOp .Not (.Call (.Name "isinstance" #[n + 9,11,n + 9,21]) [(.Name "_law_error" #[n + 9,22,n + 9,32]),(.Name "ValueError" #[n + 9,34,n + 9,44])] [] #[n + 9,11,n + 9,45]) #[n + 9,7,n + 9,45]) [.Return ↑(.Constant .none 0 #[n + 10,15,n + 10,19]) #[n + 10,8,n + 10,19]] [] #[n + 9,4,n + 10,19],
   .Return ↑(.ListComp (.Name "_law_k" #[n + 11,12,n + 11,18]) [{ target:=(.Name "_law_k" #[n + 11,23,n + 11,29]),iter:=(.Call (.Name "range" #[n + 11,33,n + 11,38]) [(.Constant (~~~12) 0 #[n + 11,39,n + 11,41])] [] #[n + 11,33,n + 11,42]),ifs:=[(.Subscript (.Name "_law_marks" #[n + 11,46,n + 11,56]) (.Name "_law_k" #[n + 11,57,n + 11,63]) #[n + 11,46,n + 11,64])],is_async:=0 }] Fx #[n + 11,11,n + 11,65]) #[n + 11,4,n + 11,65]]
theorem Ma:pj Fx iZ Fw ["_law_k"] [("_law_marks",2)]:=rfl
theorem Fy(K:Ã)(a:X.K=K:=by rfl):NY X (EN K):=by subst a;exact qC
abbrev names12:Zj:=["NoWeb","NoLot","NoPlaces","NoPlace","NoTie","NoChance","NoChances","NoPaper","TooMany","NoText","NoLine","NoDeed"]
structure pq(K:PySem.W.Frag)(mg:Str->Option Value)(C:Addr)(j:Nat):Prop where
 cl:∀ (i:Nat) (x:Str),names12[i]?=↑x->∃ Ci,mg x=↑↥Ci/\PySem.W.kitOne K ↥C ↥Ci=↑(decide (i=j))
 lk:dZ K C
 hd:PySem.W.hasDictIn K C=true
 ve:PySem.W.kitOne K ↥C (.type "ValueError")=↑true
 nv:mg "ValueError"=none
 ce:∃ D,mg "ChanceError"=↑↥D/\PySem.W.exmOne K ↥C ↥D=↑true
 lt:j < 12
theorem wC:ý "ValueError"=↑(.type "ValueError"):=by decide +kernel
theorem uw:ý "isinstance"=↑(.builtin "isinstance"):=by decide +kernel
def Fz(P:å)(w:î)(K:Ã)(a:Str->Zn)(b:ö)(k:Nat):Ç->Sp:=λs c H Q _=>∃ (f C:È) (j:Nat) (d:Hp->Prop),c=[↥f]/\jw P w K a b k f H s ↥C d/\pq K a C j/\∀ l e g,d e->ae e g->g l=none->Q ↥l (upd g l (.lst [~~~j]))
abbrev nW(j:Nat):⇑V:=[V.bl (decide (0=j)),.bl (decide (1=j)),.bl (decide (2=j))]++[.bl (decide (3=j)),.bl (decide (4=j)),.bl (decide (5=j))]++[.bl (decide (6=j)),.bl (decide (7=j)),.bl (decide (8=j))]++[.bl (decide (9=j)),.bl (decide (10=j)),.bl (decide (11=j))]
theorem FA{i j:Nat}(h:i < 12):Ai (nW j) (0 + (i:Int))=↑(.bl (decide (i=j))):=by
 rw[Int.zero_add];apply lL;rw[show nW j=(ë 12).map λi=>V.bl (decide (i=j)) from rfl,Ú,Wz h];rfl
section
variable {P:å}{w:î}{K:Ã}{mg:Str->Zn}{base:ö}
theorem Mb:eP Fw ["_law_call"] iZ:=#[rfl,rfl,rfl,by decide +kernel,rfl,by decide +kernel,by decide +kernel]
theorem TN:(aT ["_law_k"] [("_law_marks",2)]).Nodup:=by decide +kernel
def TQ(K:Ã)(c:V)(d:Ä):TE:=λe H Q=>∃ (a C:È) (b:Bool),e[1]?=↑↑↥a/\Dx H a C/\dZ K C/\PySem.W.hasDictIn K C=true/\XQ K ↥C d=↑b/\Q (.bl b) H
def R4(K:Ã)(b c1 c2:È):TE:=λc H Q=>∃ (a C:È) (d e b2:Bool),c[1]?=↑↑↥a/\Dx H a C/\dZ K C/\PySem.W.hasDictIn K C=true/\XQ K ↥C ↥b=↑d/\XQ K ↥C ↥c1=↑e/\XQ K ↥C ↥c2=↑b2/\∀ l,H l=none->Q ↥l (upd H l (.lst [.bl d,.bl e,.bl b2]))
section
variable {X:Cx}{c0 c1 c2:È}{x x0 x1 x2:Str}{p p0 p1 p2 p3 q0 q1 q2 q3 r0 r1 r2 r3:Pos}
theorem BO(d:X.N[1]?=↑("_law_error":Str))(f:Bq X.env.scope "_law_error")(h:Gl X "isinstance")(i:X.mg "isinstance"=none)(j:PE X (.Name x p2) (tC c))(k:(∃ C,c=↥C/\cv=↥C)∨∃ T,c=.ty T/\cv=.type T):PE X (.Call (.Name "isinstance" p0) [.Name "_law_error" p1,.Name x p2] [] p3) (TQ X.K c cv) :=
 λl s m H Q I q=>by
  let(a,C,b,e,n,o,r,u,v):=q;exact (iV   AH h i uw (bA (cg   d f) (bA j cM))) l s m H Q I #[_,e,a,C,_,_,b,rfl,k,n,o,r,u,v]
theorem wD(b:X.N[1]?=↑("_law_error":Str))(c:Bq X.env.scope "_law_error")(d:Gl X "isinstance")(f:X.mg "isinstance"=none)(g:PE X (.Name x0 p2) (tC ↥c0))(h:PE X (.Name x1 q2) (tC ↥c1))(i:PE X (.Name x2 r2) (tC ↥c2)) :
  PE X (.List [.Call (.Name "isinstance" p0) [.Name "_law_error" p1,.Name x0 p2] [] p3,.Call (.Name "isinstance" q0) [.Name "_law_error" q1,.Name x1 q2] [] q3,.Call (.Name "isinstance" r0) [.Name "_law_error" r1,.Name x2 r2] [] r3] p) (R4 X.K c0 c1 c2) :=
 λj s k H Q I q=>by
  let(a,C,l,m,b2,e,n,o,r,u,v,y,z):=q;exact oW (bA (BO b c d f g (.inl #[c0,rfl,rfl])) (bA (BO b c d f h (.inl #[c1,rfl,rfl])) (bA (BO b c d f i (.inl #[c2,rfl,rfl])) cM))) j s k H Q I
   #[a,C,l,e,n,o,r,u,a,C,m,e,n,o,r,v,a,C,b2,e,n,o,r,y,nR (by show 3<=64;decide),z]
end
theorem Mc{b:Uv}{f:È}{fd:UA}{k:Nat}(F:ES K "_law_refused" "_law_refused" b f fd)(c:bo b=iZ)(eb:eQ b=wA OQ)(d:mg "isinstance"=none)(Tr:mg "range"=none):nU P w K mg base yu (k + 1) f fd ["_law_call"] (Fz P w K mg base k):=by
 refine F.TL (by rw[c];exact Mb) (λs vs H Q E h=>?_) (λcdv A l s H vs Q E hr h=>?_)
 .let(f,C,j,RR,rfl,_):=h;rfl
 .let(g,C,j,RR,rfl,th,R,q):=h;rw[c] at hr;rw[c,eb];let(c0,m0,k0):=R.cl 0 _ rfl;let(c1,m1,k1):=R.cl 1 _ rfl;let(c2,m2,k2):=R.cl 2 _ rfl;let(c3,m3,k3):=R.cl 3 _ rfl;let(c4,m4,k4):=R.cl 4 _ rfl;let(c5,m5,k5):=R.cl 5 _ rfl;let(c6,m6,k6):=R.cl 6 _ rfl;let(c7,m7,k7):=R.cl 7 _ rfl;let(c8,m8,k8):=R.cl 8 _ rfl;let(c9,m9,k9):=R.cl 9 _ rfl;let(c10,o,r):=R.cl 10 _ rfl;let(c11,u,x):=R.cl 11 _ rfl;let(D,mD,kD):=R.ce;refine#[_,bz (eO (i:=1) Mb.nd rfl (XC rfl) Al)
   (bz (Dy (i:=0) (j:=1) (f:=g) (C:=C) (D:=D) (k:=k) rfl rfl rfl hr th rfl (XC rfl) (-0) (-0) rfl mD (-0) kD rfl (by show ¬ (("e":Str)∈Fw);decide +kernel) (-0) Mb.nd rfl (XC rfl) rfl)
   (bz (eO (i:=2) Mb.nd rfl (YK rfl) (wD rfl (XC rfl) rfl d (dD rfl m0 rfl) (dD rfl m1 rfl) (dD rfl m2 rfl)))
   (bz (eO (i:=2) Mb.nd rfl (YK rfl) (Bu Av (pv 2) (wD rfl (XC rfl) rfl d (dD rfl m3 rfl) (dD rfl m4 rfl) (dD rfl m5 rfl))))
   (bz (eO (i:=2) Mb.nd rfl (YK rfl) (Bu Av (pv 2) (wD rfl (XC rfl) rfl d (dD rfl m6 rfl) (dD rfl m7 rfl) (dD rfl m8 rfl))))
   (bz (eO (i:=2) Mb.nd rfl (YK rfl) (Bu Av (pv 2) (wD rfl (XC rfl) rfl d (dD rfl m9 rfl) (dD rfl o rfl) (dD rfl u rfl))))
   (bz (Bs (Am (vW (BO (cv:=.type "ValueError") rfl (XC rfl) rfl d (qA (v:=.ty "ValueError") rfl R.nv wC rfl) (.inr #[_,rfl,rfl])))) (lI (oU Al)) qB)
   (lI (oU (qF (own:=["_law_k"]) (aj:=[("_law_marks",2)]) rfl (by exact fq.of (scX:=iZ) (N:=Fw) rfl rfl Ma) (uJ rfl Tr (bA qY cM))
    (λcl C s H fp=>jn (i:=0) TN rfl (XC rfl)) (λcl C s H fp=>BF (vW (yp (Fy K) (pv 1) (pv 0) (λ_ _=>rfl)))) (λcl C s H fp=>pv 0)))))))))),?_]
  refine#[rfl,ae.refl H,λa y s1 na=>?_];have hX:Dx (upd y a (.ext (excAt a C))) a C:=ao;have keep:∀ {B},ae (upd y a (.ext (excAt a C))) B->Dx B a C:=λsm=>sm _ _ hX;refine#[a,C,_,_,_,rfl,hX,R.lk,R.hd,k0,k1,k2,λl1 G=>?_];have t1:=ae.new (.lst [.bl (decide (0=j)),.bl (decide (1=j)),.bl (decide (2=j))]) G;refine#[_,rfl,a,C,_,_,_,rfl,keep t1,R.lk,R.hd,k3,k4,k5,λl2 I=>?_];have t2:=ae.new (.lst [.bl (decide (3=j)),.bl (decide (4=j)),.bl (decide (5=j))]) I;refine#[l1,l2,_,_,rfl,rfl,t2 _ _ ao,ao,nR (by show 3 + 3<=64;decide),λl3 J=>?_]
  have t3:=t1.trans (t2.trans (ae.new (.lst ([.bl (decide (0=j)),.bl (decide (1=j)),.bl (decide (2=j))]++[.bl (decide (3=j)),.bl (decide (4=j)),.bl (decide (5=j))])) J));refine#[_,rfl,a,C,_,_,_,rfl,keep t3,R.lk,R.hd,k6,k7,k8,λl4 L=>?_];have t4:=ae.new (.lst [.bl (decide (6=j)),.bl (decide (7=j)),.bl (decide (8=j))]) L;refine#[l3,l4,_,_,rfl,rfl,t4 _ _ ao,ao,nR (by show 6 + 3<=64;decide),λl5 U=>?_]
  have t5:=t3.trans (t4.trans (ae.new (.lst ([.bl (decide (0=j)),.bl (decide (1=j)),.bl (decide (2=j))]++[.bl (decide (3=j)),.bl (decide (4=j)),.bl (decide (5=j))]++[.bl (decide (6=j)),.bl (decide (7=j)),.bl (decide (8=j))])) U));refine#[_,rfl,a,C,_,_,_,rfl,keep t5,R.lk,R.hd,k9,r,x,λl6 hl6=>?_];have t6:=ae.new (.lst [.bl (decide (9=j)),.bl (decide (10=j)),.bl (decide (11=j))]) hl6;refine#[l5,l6,_,_,rfl,rfl,t6 _ _ ao,ao,nR (by show 9 + 3<=64;decide),λl7 hl7=>?_]
  have t7:=t5.trans (t6.trans (ae.new (.lst (nW j)) hl7));refine#[a,C,_,rfl,keep t7,R.lk,R.hd,R.ve,_,rfl,Rx ?_];refine#[12,rfl,by decide,by decide,Ff (lo:=0) (n:=12) (λi X B=>ae (upd y a (.ext (excAt a C))) B/\B l7=↑(.lst (nW j))/\X=if j < i then [~~~j] else []) (nR (-0)) #[t7,ao,by rw[Zw (Yx _)]] (λi X B p=>by rw[p.2.2];split <;> simp <;> omega) ?_ ?_]
  .rintro i X B hi ⟨Y,h8,rfl⟩;refine gN ?_;refine#[_,rfl,_,rfl,l7,nW j,0 + (i:Int),.bl (decide (i=j)),rfl,rfl,gU.of h8,FA hi,_,rfl,?_];refine Ry (λe=>?_) (λe=>?_)
   .have ej:i=j:=ZC e;subst ej;refine#[_,rfl,Y,h8,?_];rw[Zw (Ui _),Zv (Vs _),Int.zero_add];rfl
   .have ej:¬ i=j:=λz=>e (Zz z);refine#[Y,h8,?_];by_cases hj:j < i
    .rw[Zv hj,Zv (Nat.lt_add_right _ hj)]
    .rw[Zw hj,Zw ∅]
  .rintro X B p ⟨Y,_,rfl⟩ hp;rw[Zv R.lt];exact q p y B s1 ((ae.new _ na).trans Y) hp
end
def pz(a:⇑(Key × V))(k:Key):Option V:=(a.find? λb=>decide (b.1=k)).map (·.2)
theorem rQ:pz ((a,v)::r) k=if a=k then ↑v else pz r k:=by
 unfold pz;by_cases h:a=k
 .simp[h]
 .simp[h]
theorem FC:∀ {c:⇑(Key × V)}{d:⇑(Key × Ä)}{k:Key},KV c d->(∀ v,pz c k=↑v->∃ u,valueAt d k=↑u/\RelV v u)/\(pz c k=none->valueAt d k=none)
 |_,_,_,.nil=>#[λv h=>(by cases h),λ_=>rfl]
 |(a,v)::r,(b,u)::q,k,.cons #[e,f] t=>by
  subst e;rw[rQ,(by
   unfold valueAt;by_cases h:a=k
   .simp[h]
   .simp[h]:valueAt _ k=if a=k then ↑u else valueAt q k)];by_cases h:a=k
  .simp_all
  .rw[Zw h,Zw h];exact (FC  t)
theorem yK{R:α->β->Prop}:∀ {a:⇑α}{b:⇑β}{c:⇑α}{d:⇑β},UJ R a b->UJ R c d->UJ R (a++c) (b++d)
 |_,_,_,_,.nil,h=>h|_,_,_,_,.cons r t,h=>.cons r (yK t h)
theorem stored_new{a:⇑(Key × Ä)}{k:Key}{w:Ä}(h:valueAt a k=none):stored a k w=a++[(k,w)]:=by
 unfold stored;rw[Zw];intro b;let(p,c,d):=List.any_eq_true.mp b;unfold valueAt at h;rw[Option.map_eq_none_iff,List.find?_eq_none] at h;exact h p c d
section
variable {X:Cx}
def KL:V->⇑V->Hp->VK->Prop:=λx a H Q=>∃ d b i y,x=↥d/\a=[~~~i,y]/\H d=↑(.dK b)/\b.length < sizeLine/\(∀ v,pz b (.inl i)=↑v->Q v H)/\(pz b (.inl i)=none->Q y (upd H d (.dK (b++[(.inl i,y)]))))
theorem IU:OA X "dict.setdefault" KL:=by
 intro a s c H x f v us Q I g j h;let(d,l,i,y,rfl,rfl,m,hz,n,p):=h;cases g;cases j with
 |cons q j =>
  let(w,rfl,r):=Vals.one j;let(t,rfl):=q;obtain⟨z,hs,A,B,C⟩:l.length<=sizeLine/\(d == Yv)=false/\∃ f,KV l f/\s.heap.DictOf _ d f:=I.aM d _ m;let(v1,v2):=FC  B;refine call_meetsIn PySem.F.slot_dict_setdefault C.typeIs PySem.F.entry_dict_setdefault (PySem.F.args_dict_setdefault_3 _ _ _) (kt_meets_setdefault _ (k:=.inl i) d (by show WO i (.int i t)=true;simp[WO]) hs w) #[A,C,by rw[<-Yk B];exact z,λu G=>?_,λJ K L sb=>?_]
  .cases e:pz l _ with
   |none=>rw[v2 e] at G;cases G
   |some v =>
    let(N,P,U):=v1 v e;rw[G] at P;cases P;exact#[v,H,I.tok _,U,n v e]
  .cases e:pz l (.inl i) with
   |some v=>let(N,P,_):=v1 v e;rw[J] at P;cases P
   |none =>
    rw[stored_new J] at L;have new:bY X.prog X.w (upd H d (.dK (l++[(.inl i,y)]))) K d (.dK (l++[(.inl i,y)])):=#[by rw[õ];exact hz,hs,A++[(.inl i,w)],yK B (.cons #[rfl,r] .nil),L]
    exact#[y,_,I.write (x:=d) (e:=d) (t':=s.toks + 1) (by rw[m];trivial) (.inl rfl) (λb u Y e=>(sb.2 b Y).trans e) (by let(o,_,_,e,_):=L;exact#[o,e]) new,r,p e]
def Q0(d:È)(o:Obj)(a:⇑(Key × V)):It :=
 #[λi H=>H d=↑(.frz o (.dK a))/\i < a.length,λi H x b=>b=H/\∃ k,a[i]?=↑(k,x),λi H=>H d=↑(.frz o (.dK a))/\i=a.length]
theorem yL{R:α->β->Prop}:∀ {l:⇑α}{r:⇑β}{i:Nat}{b:β},UJ R l r->r[i]?=↑b->∃ a,l[i]?=↑a/\R a b
 |_,_,_,_,.nil,e=>by simp at e|_,_,0,_,.cons h _,e=>by simp_all
 |_,_,i + 1,_,.cons _ t,e=>yL (i:=i) t e
theorem FD(I:Inv X a σ H s)(h:H d=↑(.frz o (.dK b)))(c:o.data=.dict f g):∃ i,KV b i/\s.heap.DictAt (knd:=dX X.prog X.w) d i g:=by
 obtain⟨e,_,_,i,j,k,l,m,n,p,q,r⟩:s.heap.get? d=↑o/\b.length<=sizeLine/\(d == Yv)=false/\∃ u,KV b u/\s.heap.DictOf _ d u:=I.aM d _ h;rw[e] at n;cases n;rw[c] at q;cases q;exact#[i,j,o,f,e,p,c,r]
theorem Dz{P:å}{w:î}{K:Ã}{tg:Ö}(d it:È)(o:Obj){es:Array DictEntry}{a n:Nat}(ho:o.data=.dict es a)(f:d≠it)(g:⇑(Key × V))(j:g.length=n):Turn P w K tg (Q0 d o g) [it] it (λi h=>h.IsValIter it d i n a) where
 mem:=⋯
 obj:=λi h l b m=>by
  have e:b=it:=by simpa using m
  subst e;let(o,e,c,p):=l;exact#[o,e,λv z=>by rw[p] at z;cases z]
 keep:=λi h q #[u,e,r] k=>#[u,k it ⋯ u e,r]
 item:=by
  intro X y hw B C i aa s σ H E I F l hg;subst y hw B;let(G,J):=hg;let(L,N,da):=FD I G ho;let(f0,f1,f2,f3,f4,f5):=F it ⋯
  have U:L.length=n:=by rw[<-Yk N];exact j
  subst U;have W:=Walks.dictValues (prog:=X.prog) (w:=X.w) (knd:=dX X.prog X.w) (I.ok.hd C) it d f L a;refine W.item i s _ _ (by rw[<-j];exact J) #[l,da] λv q tk hv Y kk=>?_
  let(k,hv):=hv;obtain⟨⟨k',x⟩,hx,e1,rx⟩:=yL N hv;have I1:Inv X aa σ H { s with heap:=q,toks:=tk }:=I.turned (λb o m e=>kk b o (by simpa using m) e) f0 f1 f3 f4 f5
  let(u,e,c,p):=id Y.1;exact#[v,rfl,Bt (s:={ s with heap:=q,toks:=tk }) e c p (-0) #[x,H,I1,rx,#[rfl,k',hx],Y.1,λb m=>(F b m).1]]
 done:=by
  intro X y hw B C i aa s σ H E I F l hg;subst y hw B;let(G,J):=hg;let(L,N,da):=FD I G ho;let(f0,f1,f2,f3,f4,f5):=F it ⋯
  have U:L.length=n:=by rw[<-Yk N];exact j
  subst U;have W:=Walks.dictValues (prog:=X.prog) (w:=X.w) (knd:=dX X.prog X.w) (I.ok.hd C) it d f L a;rw[J,j] at l;exact W.done s _ _ #[l,da] λq tk kk=>#[rfl,I.turned (λb o m e=>kk b o (by simpa using m) e) f0 f1 f3 f4 f5]
 self:=λA i s Q E l h=>wpAny_pyIter_valiter l h
def OR:V->⇑V->Hp->VK->Prop:=λx b H Q=>∃ d c,x=↥d/\b=[]/\H d=↑(.dK c)/\∀ a,H a=none->Q ↥a (upd H a (.ext λh=>h.IsValuesView a d))
theorem IV:OA X "dict.values" OR:=by
 intro c s f H x g v i Q I j l h;let(d,m,rfl,rfl,n,q):=h;cases j;cases l;obtain⟨z,hs,p,y,A⟩:m.length<=sizeLine/\(d == Yv)=false/\∃ g,KV m g/\s.heap.DictOf _ d g:=I.aM d _ n;refine call_meetsIn PySem.F.slot_dict_values A.typeIs PySem.F.entry_dict_values (PySem.F.args_dict_values_1 _) (meets_dict_values _ d hs) #[#[p,A],?_];refine#[↥s.heap.objs.size,_,I.laid   (o:=.ext _) (λb u e=>Â _ e) (Î _) #[#[_,Ì _ rfl,rfl,rfl],#[_,Ì _ rfl],λC E #[o,e,r] k=>#[o,k o e,r]],rfl,q _ (I.aM.fresh (Î _))]
def OS(i:Nat):TI:=λa H R=>∃ d c,a[i]?=↑↑↥d/\H d=↑(.dK c)/\∀ o e,(∀ b u,b≠d->H b=↑u->e b=↑u)->e d=↑(.frz o (.dK c))->R (Q0 d o c) e
theorem IW{i:Nat}(c:PE X (.Name g p) (yk i))(f:(apos.endLine == j.line)):PI X tg (.Call (.Attribute (.Name g p) "values" apos) [] [] j) (OS i):=by
 intro aa s σ H R I h;let(d,k,h1,l,q):=h;refine bQ ((LJ PySem.F.plainAttrs_dict PySem.F.slot_dict_values PySem.F.type_dict_values IV c rfl f) aa s σ H (λv m=>∃ a,v=↥a/\H a=none/\m=upd H a (.ext λh=>h.IsValuesView a d)) I #[↥d,h1,.inr (.inr (.inl #[rfl,.inl #[k,l]])),d,k,rfl,rfl,l,λa ha=>#[a,rfl,ha,rfl]]) λv s1 #[x,m,n,r1,a,e1,r,e3]=>?_;subst e1 e3;cases r1;have A:upd H a (.ext λh=>h.IsValuesView a d) d=↑(.dK k):=by rw[ag (λz=>by grind)];exact l
 let(vw,_):=n.aM a _ ao;obtain⟨z,hs,B,C,o,E,G,J,K,L,N⟩:k.length<=sizeLine/\(d == Yv)=false/\∃ P,KV k P/\s1.heap.DictOf _ d P:=n.aM d _ A;apply wpAny_pyIter_values vw #[o,E,J,K,L,N];have I2:=n.kept (t':=s1.toks) (h':=s1.heap.push { cls:=.type "dict_valueiterator",data:=.fields [↥d,.int 0 0,.int B.length 0,.int G 0].toArray }) λb o e=>Â _ e;have U:=à J;refine#[s1.heap.objs.size,[s1.heap.objs.size],_,Q0 d o k,_,rfl,I2.write   (o:=.frz o (.dK k))   (by rw[A];trivial) (.inl rfl) (λb u _ e=>e) #[o,Â _ J] #[Â _ J,z,hs,B,C,o,E,G,Â _ J,K,L,N],Dz d _ o L (Ù U) k (Yk C),#[_,Ì _ rfl,rfl,rfl],λb Y=>?_,q o _ (λb u Y e=>?_) ao]
 .have e:=by simpa using Y
  subst e;apply n.mI (Î _);rw[ag (Vx U)];exact n.aM.fresh (Î _)
 .rw[ag Y,ag (λz=>by subst z;rw[e] at r;cases r)]
  exact e
end
abbrev GT:=Int × Zi × È
def wF(a:⇑GT):⇑(Key × V):=a.map λt=>(.inl t.1,↥t.2.2)
def gW:⇑(Int × Zi)->Int->Int->⇑(Int × Zi)
 |[],m,p=>[(m,[p])]|g::r,m,p=>if g.1=m then(g.1,g.2++[p])::r else g::gW r m p
def ku:⇑GT->Int->Int->È->⇑GT
 |[],m,p,q=>[(m,[p],q)]|t::r,m,p,q=>if t.1=m then(t.1,t.2.1++[p],t.2.2)::r else t::ku r m p q
def Md(a:⇑GT):⇑(Int × Zi):=a.map λt=>(t.1,t.2.1)
theorem FE:∀ (a:⇑GT) (m p:Int) (q:È),Md (ku a m p q)=gW (Md a) m p
 |[],_,_,_=>rfl
 |t::r,m,p,q=>by
  unfold ku;show _=gW ((t.1,t.2.1)::Md r) m p;unfold gW;by_cases h:t.1=m
  .rw[Zv h,Zv h];rfl
  .rw[Zw h,Zw h];show(t.1,t.2.1)::Md _=_;rw[FE r m p q]
structure OT(H:Hp)(ts:⇑GT):Prop where
 nd:(ts.map λt=>t.2.2).Nodup
 at_:∀ t∈ts,H t.2.2=↑(.lst (t.2.1.map V.int))
theorem BP:∀ {a:⇑GT}{m p:Int}{q:È},pz (wF a) (.inl m)=none->ku a m p q=a++[(m,[p],q)]
 |[],_,_,_,_=>rfl
 |t::r,m,p,q,h=>by
  have h:pz ((.inl t.1,V.ref _)::wF r) _=none:=h;rw[rQ] at h;unfold ku;by_cases e:t.1=m
  .simp_all
  .rw[Zw (λz=>e (Sum.inl.inj z))] at h;rw[Zw e,BP h];rfl
theorem BQ:∀ {a:⇑GT}{m p:Int}{q:È}{v:V},pz (wF a) (.inl m)=↑v->OT H a->∃ t∈a,v=↥t.2.2/\wF (ku a m p q)=wF a/\(ku a m p q).map (λt=>t.2.2)=a.map (λt=>t.2.2)/\OT (upd H t.2.2 (.lst (t.2.1.map V.int++[~~~p]))) (ku a m p q)
 |[],_,_,_,_,h,_=>by cases h
 |t::r,m,p,q,v,h,ok=>by
  have h:pz ((.inl t.1,V.ref _)::wF r) _=↑v:=h;rw[rQ] at h;have b:(t.2.2::r.map _).Nodup:=ok.nd;rw[WI] at b;unfold ku;by_cases e:t.1=m
  .rw[Zv (by rw[e])] at h;cases h
   rw[Zv e];refine#[t,Í,rfl,rfl,rfl,ok.nd,λu c=>?_];rcases ã.mp c with rfl | c
   .show upd H t.2.2 _ t.2.2=_;rw[ao,Um];rfl
   .rw[ag (λ(z:u.2.2=t.2.2)=>b.1 (by rw[<-z];exact List.mem_map_of_mem c))]
    exact ok.at_ u (É _ c)
  .rw[Zw (λz=>e (Sum.inl.inj z))] at h;rw[Zw e];let(u,d,f,g,i,j):=BQ (p:=p) (q:=q) h #[b.2,λu c=>ok.at_ u (É _ c)];refine#[u,É _ d,f,?_,?_,?_,λw hw=>?_]
   .show _::wF (ku r m p q)=_;rw[g];rfl
   .rw[Ux,i];rfl
   .rw[Ux,i];exact ok.nd
   .rcases ã.mp hw with rfl | hw
    .rw[ag (λ(z:w.2.2=u.2.2)=>b.1 (by rw[z];exact List.mem_map_of_mem d))]
     exact ok.at_ _ Í
    .exact j.at_ w hw
structure GI(Hb:Hp)(d:Addr)(ts:⇑GT)(H:Hp):Prop where
 dic:H d=↑(.dK (wF ts))
 ok:OT H ts
 new:∀ t∈ts,Hb t.2.2=none
 old:∀ b u,b≠d->Hb b=↑u->H b=↑u
section
variable {X:Cx}
abbrev OU(K:Ã)(i j k:Nat):TE:=Rv K "list" wj (Rv K "dict" KL (yk i) (ym (yk k) (ym (Iu Ar) Ar))) (ym (yk j) Ar)
theorem IY{Q:VK}(g:GI c d f H)(l:σ[i]?=↑↑↥d)(o:σ[j]?=↑↑(~~~p))(r:σ[k]?=↑↑(~~~m))
  (s:f.length < sizeLine) (x:∀ t∈f,t.2.1.length < sizeLine) (h:∀ q A,GI c d (ku f m p q) A->Q .cD A):OU X.K i j k σ H Q:=by
 refine#[↥d,l,.inr (.inr (.inl #[rfl,.inl #[_,g.dic]])),~~~m,r,by simp,λq B=>?_]
 have C:d≠q:=λz=>by have:=g.dic;simp_all
 have E:upd H q (.lst []) d=↑(.dK (wF f)):=by rw[ag C];exact g.dic
 have F:∀ t∈f,t.2.2≠q:=λt G z=>by have:=g.ok.at_ t G;simp_all
 have I:∀ t∈f,d≠t.2.2:=λt G z=>by have:=g.ok.at_ t G;rw[<-z,g.dic] at this;cases this
 have J:∀ b u,b≠d->c b=↑u->b≠q:=λb u n e z=>by have:=g.old b u n e;simp_all
 have L:OT (upd H q (.lst [])) f:=#[g.ok.nd,λt G=>by rw[ag (F t G)];exact g.ok.at_ t G]
 refine#[d,wF f,m,↥q,rfl,rfl,E,by unfold wF;rw[Æ];exact s,λv N=>?_,λN=>?_]
 .let(t,G,rfl,P,U,h5):=BQ (p:=p) (q:=q) N L;refine#[.inl #[rfl,_,gU.of (L.at_ t G)],~~~p,o,t.2.2,_,_,rfl,rfl,L.at_ t G,by rw[Æ];exact x t G,h q _ #[?_,h5,λw hw=>?_,λb u n e=>?_]]
  .rw[ag (I t G),P];exact E
  .have:w.2.2∈f.map λt=>t.2.2:=by rw[<-U];exact List.mem_map_of_mem hw
   let(y,hy,e):=Ð.mp this;rw[<-e];exact g.new y hy
  .rw[ag (λz=>by have:=g.new t G;rw[<-z,e] at this;cases this),ag (J b u n e)]
   exact g.old b u n e
 .have Y:upd (upd H q (.lst [])) d (.dK (wF f++[(.inl m,↥q)])) q=↑(.lst []):=by rw[ag C.symm,ao]
  refine#[.inl #[rfl,_,gU.of Y],~~~p,o,q,[],_,rfl,rfl,Y,by show 0 < sizeLine;rw[gV];decide,h q _ ?_]
  rw[BP N];refine#[?_,#[?_,λt G=>?_],λt G=>?_,λb u n e=>?_]
  .rw[ag C,ao];unfold wF;rw[Um];rfl
  .rw[Um,Yo];refine#[g.ok.nd,⋯,λa ha b hb=>?_]
   have e:b=q:=by simpa using hb
   let(t,G,rfl):=Ð.mp ha;rw[e];exact F t G
  .rcases ù.mp G with G | G
   .rw[ag (F t G),ag (I t G).symm];exact L.at_ t G
   .have e:t=(m,[p],q):=by simpa using G
    subst e;exact ao
  .rcases ù.mp G with G | G
   .exact g.new t G
   .have e:t=(m,[p],q):=by simpa using G
    subst e;cases e:c q with
    |none=>rfl|some u=>have:=g.old q u C.symm e;rw[B] at this;cases this
  .rw[ag (J b u n e),ag n,ag (J b u n e)];exact g.old b u n e
structure GE(Hb:Hp)(d:Addr)(o:Obj)(ts:⇑GT)(n:Nat)(ys:⇑V)(H:Hp):Prop where
 dic:H d=↑(.frz o (.dK (wF ts)))
 ok:OT H ts
 old:∀ b u,b≠d->Hb b=↑u->H b=↑u
 len:ys.length=n
 tup:∀ (i:Nat) (v:V),ys[i]?=↑v->∃ a t,v=V.ref a/\ts[i]?=↑t/\H a=↑(.tup (t.2.1.map V.int))
abbrev OV(K:Ã)(n:Nat):TE:=QU (λ(a:⇑V) (H:Hp) (Q:VK)=>∃ p b,a=[V.ref p]/\((gU K H p b/\∀ l,H l=none->Q ↥l (upd H l (.tup b)))∨(dY K H p b/\Q ↥p H))) (ym (yk n) Ar)
theorem IZ{K:Ã}{Hb H:Hp}{d:È}{o:Obj}{ts:⇑GT}{σ0:St}{n:Nat}{Q:VK}(hn:n < σ0.length)(z:ts.length<=sizeLine)(g:GE Hb d o ts 0 [] H)
  (h:∀ ys H1 p,GE Hb d o ts ts.length ys H1->H1 p=none->Q ↥p (upd H1 p (.lst ys))):rl (Q0 d o (wF ts)) σ0 H (gp n) nJ (OV K n) Q:=by
 have kl:(wF ts).length=ts.length:=by unfold wF;rw[Æ]
 refine#[λi m ys H=>m=ts.length - i/\i<=ts.length/\GE Hb d o ts i ys H,#[_,rfl,Vl _,g],?_];rintro i m ys H ⟨rfl,hi,g⟩;by_cases e:i=ts.length
 .subst e;exact .inl #[#[g.dic,kl.symm],λp hp=>h ys H p g hp]
 .have hlt:=Nat.lt_of_le_of_ne hi e;refine .inr #[#[g.dic,by simp_all],by rw[g.len];exact Ò hlt z,λzs H'=>GE Hb d o ts _ zs H',λzs H' q=>#[ts.length - (i + 1),by omega,rfl,hlt,q],λx H' y=>?_]
  let(rfl,k,hk):=y;have ht:=Õ hlt;have hx:x=↥ts[i].2.2:=by
   unfold wF at hk;simp_all
  subst hx;unfold gp nJ;dsimp only;refine#[_,Ø hn,ts[i].2.2,_,rfl,.inl #[gU.of (g.ok.at_ _ (UN hlt)),λl hl=>?_]];have ne:∀ {b:È}{u:HO},H' b=↑u->b≠l:=λq z=>by grind
  refine#[by rw[ag (ne g.dic)];exact g.dic,#[g.ok.nd,λt ht=>by rw[ag (ne (g.ok.at_ t ht))];exact g.ok.at_ t ht],λb u n e=>by rw[ag (ne (g.old b u n e))];exact g.old b u n e,by rw[õ,g.len];rfl,λj v hv=>?_]
  rw[XE] at hv;split at hv
  .let(a,t,h1,h2,h3):=g.tup j v hv;exact#[a,t,h1,h2,by rw[ag (ne h3)];exact h3]
  .rename_i hj;have hj0:j - ys.length=0:=by
    cases q:j - ys.length with
    |zero=>rfl|succ q'=>rw[q] at hv;simp at hv
   rw[hj0] at hv;cases hv;have:j=i:=by have:=g.len;omega
   subst this;exact#[l,ts[j],rfl,ht,ao]
end
end L2
namespace SS
open PySem
def fw(m:Nat):Zh:=(ë 8).filter λi=>m.testBit i
def add(m v:Nat):Nat:=m ||| 2 ^ v
def cK(led:Bool)(m:Nat):SetTable:=if (fw m).length < 5 then#[7,(fw m).toArray,[].toArray,0,led,0,true] else#[31,(fw m).toArray,[].toArray,0,led,1,true]
def mM(led:Bool)(m v:Nat):SetTable:={ cK led m with place:=(fw (add m v)).toArray }
def pos(m v:Nat):Nat:=((fw m).filter (· < v)).length
def hs(m:Nat):Array Int:=((fw m).map Int.ofNat).toArray
def full(led:Bool)(m v:Nat):Bool:=if (mM led m v).tooFull then decide ((mM led m v).relaid (hs (add m v)) (XJ ((fw m).length + 1))=↑(cK led (add m v),(ë ((fw m).length + 1)).toArray)) else decide (mM led m v=cK led (add m v))
def FF(led:Bool)(m v:Nat):Bool:=if m.testBit v then decide (add m v=m) else decide (add m v < 256)&&decide ((cK led m).freeSlot (v:Int)=↑(v,false))&&decide ((cK led m).put v=(mM led m v,pos m v))&&(mM led m v).fits ((fw m).length + 1) &&
 decide ((fw m).take (pos m v)++v::(fw m).drop (pos m v)=fw (add m v))&&decide ((fw (add m v)).length=(fw m).length + 1)&&(cK led (add m v)).fits ((fw m).length + 1)&&full led m v
theorem wH:([true,false].all λled=>(ë 256).all λm=>(cK led m).fits (fw m).length&&(ë 8).all λv=>FF led m v):=by decide +kernel
theorem gH(led:Bool)(a:m < 256):(cK led m).fits (fw m).length/\∀ v,v < 8->FF led m v:=by
 have h:=Ó.mp (Ó.mp wH led ⋯) m (Uc.mpr a)
 rw[Á] at h;exact#[h.1,λv b=>Ó.mp h.2 v (Uc.mpr b)]
theorem nX:i∈fw m↔i < 8/\m.testBit i:=by unfold fw;simp_all
abbrev led(w:î):Bool:=!(w.params.followText "set-order")
def ent(g:Nat->Tok)(m:Nat):Array (Int × Ä):=((fw m).map λ(i:Nat)=>((i:Int),VD i (g i))).toArray
def jN(w:î)(h:ö)(a:È)(m:Nat):Prop:=∃ o b g,h.get? a=↑o/\o.ExactSet/\o.data=.set (ent g m) b (cK (led w) m)
theorem aH(g:Nat->Tok)(m:Nat):(ent g m).size=(fw m).length:=by unfold ent;simp
theorem BR(g:Nat->Tok)(u:Tok)(a:m.testBit v=false)(h:(fw m).take (pos m v)++v::(fw m).drop (pos m v)=fw (add m v)):X2 (ent g m) (pos m v) ((v:Int),VD v u)=ent (λi=>if i=v then u else g i) (add m v):=by
 have b:∀ i∈fw m,i≠v:=λi c e=>by subst e;rw[(nX.mp c).2] at a;cases a
 unfold ent;rw[<-h,(Uo λi c=>by simp_all:(fw m).map _=(fw m).map λ(i:Nat)=>((i:Int),VD i (if i=v then u else g i)))];unfold X2;simp;exact Vz ⋯
theorem nY(g:Nat->Tok)(m:Nat):(ent g m).map (·.1)=hs m:=by
 unfold ent hs;rw[map_toArray,æ];rfl
theorem yM{a:Type}(b:Array a):((ë b.size).toArray).filterMap (b[·]?)=b:=by
 apply YG.mp;rw[Array.toList_filterMap];exact PySem.W.krv_all b
section
variable {P:å}{w:î}{A:þ}{E:Ä->Ç->Prop}{s:Ç}{a:È}{m:Nat}
theorem rR{v:Nat}(h:v < 8):(Uy P w).hash (v:Int)=v:=by
 exact (by decide:∀ v:Nat,v < 8->hashInt (v:Int)=v) v h
theorem elems(g:Nat->Tok)(m:Nat):ElemsOf (Uy P w) (ent g m).toList:=λe b=>by
 let(i,c,rfl):=Ð.mp b;exact#[#[i,intKind_is _ _ _ _,(rR (nX.mp c).1).symm],rfl]
theorem OW(g:Nat->Tok)(u:Tok){led:Bool}(b:m < 256)(c:v < 8)(d:m.testBit v=false):layNew (cK led m) (ent g m) (v:Int) (.int v u)=(ent (λi=>if i=v then u else g i) (add m v),mM led m v,false,false):=by
 have h:=(gH led b).2 v c;unfold FF at h;rw[d] at h;refine BB.b8 h λ_ e f j k l _ _=>?_;simp[Zx] at e f j k l;unfold layNew;rw[e];dsimp only;rw[f,BR g u d k,aH,l];unfold SetTable.orStandIn;rw[j];rfl
theorem I0(g:Nat->Tok){led:Bool}(b:m < 256)(d:v < 8)(f:m.testBit v=false)(i:(mM led m v).tooFull):relayAll (mM led m v) (ent g (add m v)) (XJ (ent g (add m v)).size)=(ent g (add m v),cK led (add m v),false):=by
 have h:=(gH led b).2 v d;unfold FF at h;rw[f] at h;refine BB.b8 h λ_ _ _ _ _ j k l=>?_;simp[Zx] at j k l;unfold full at l;rw[Zv i,Zx] at l;unfold relayAll;rw[nY,aH,j,l];dsimp only;have e :=by
  have:=yM (ent g (add m v));rw[aH,j] at this;exact this
 rw[e,aH,j,k];have c:coversAll (ë ((fw m).length + 1)).toArray ((fw m).length + 1)=true:=by
  unfold coversAll;rw[List.isPerm_iff]
 rw[c];rfl
theorem FG(b:m < 256)(c:v < 8):add m v < 256:=by
 have h:=(gH true b).2 v c;unfold FF at h;cases d:m.testBit v with
 |true=>simp_all
 |false =>
  simp_all
theorem add_same(b:m < 256)(c:v < 8)(d:m.testBit v):add m v=m:=by
 have h:=(gH true b).2 v c;unfold FF at h
 simp_all
theorem AJ(c:m < 256)(d:v < 8)(hS:jN w s.heap a m)(h:∀ b f,V6 a s.heap f->jN w f a (add m v)->Q b { s with heap:=f }) :
  Ü (ß P w) A (setAddHashed a (.int v u) ((Uy P w).hash v)) Q E s:=by
 let(o,k,g,l,n,hd):=hS;have p:(cK (led w) m).fits (ent g m).size=true:=by rw[aH];exact(gH _ c).1
 have hsz:(fw m).length<=8:=â (U6 _ _) ⋯
 have r:=elems (P:=P) (w:=w) g m;refine û (À (UK l hd p ?_));dsimp only;rw[byScan_of  rfl (by rw[aH];unfold scanBound;omega) r];apply À;refine À (WA ?_);refine À (wpAny_setScan_of (intKind_is _ _ _ _) l hd p r ?_);cases x:List.findIdx? _ _ with
 |some j =>
  dsimp only;let(hj,y,_):=List.findIdx?_eq_some_iff_getElem.mp x;let(i,hi,e):=Ð.mp (UN hj);rw[show(ent g m).toList[j]=((i:Int),VD i _) from e.symm] at y;have B:i=v:=by
   have:=(Uy P w).inj _ _ _ y (intKind_is P w i _);omega
  subst B;exact Å (Å (h false s.heap (Heap.SameBut.refl a s.heap) (by rw[add_same c d (nX.mp hi).2];exact#[o,k,g,l,n,hd])))
 |none =>
  have C:m.testBit v=false:=by
   cases F:m.testBit v with
   |false=>rfl
   |true =>
    have:((v:Int),VD v _)∈(ent g m).toList:=Ð.mpr #[v,nX.mpr #[d,F],rfl];have:=List.findIdx?_eq_none_iff.mp x _ this;rw[intKind_is] at this;cases this
  rw[rR d,OW g u c d C];refine À (Å ?_);have G:(mM (led w) m v).plain=true:=by unfold mM cK;split <;> rfl
  rw[Zv G];refine À (Å ?_);simp only[plainKind,↓reduceIte];have F:=(gH (led w) c).2 v d;unfold FF at F;rw[C,Zw ê] at F;simp only[Á,Zx] at F;obtain⟨⟨_,h6⟩,H⟩:=F;have hlt:=FG c d;have I:(fw (add m v)).length<=8:=â (U6 _ _) ⋯
  have J:∀ g,(ent g (add m v)).size<=sizeLine:=λg=>by rw[aH,gV];omega
  have get:∀ {K:ö}{o:Obj}{es k t} (L:Array (Int × Ä)) (N:UL),K.get? a=↑o->o.data=.set es k t->(K.update a (Y4 L N)).get? a=↑{ o with data:=.set L (k + 1) N }:=λ{K o es k t} L N e1 e2=>by
   have:=VG (Y4 L N) e1 (by rw[putSet_of L N e2];rfl)
   rw[putSet_of L N e2] at this;exact this
  refine À (YS l hd ?_ (J _));have U:=get (ent (λi=>if i=v then u else g i) (add m v)) (mM (led w) m v) l hd;have X:=U3 s.heap a (Y4 (ent (λi=>if i=v then u else g i) (add m v)) (mM (led w) m v));simp only[Bool.not_false,Xx];unfold full at H;split
  .rename_i Y;rw[Zv Y] at H;rw[I0 _ c d C Y];dsimp only;refine À (Å ?_);refine À (YS U rfl ?_ (J _));exact Å (Å (h _ _ (X.trans (U3 _ a _)) #[_,_,_,get _ _ U rfl,n,rfl]))
  .rename_i Y;rw[Zw Y,Zx] at H;exact Å (Å (h _ _ X #[_,k + 1,_,U,n,congrArg _ H]))
end
open PySem PySem.W PyProof.Rows
def met(a:Nat->Nat):Nat->Nat
 |0=>0|i + 1=>add (met a i) (a i)
theorem AK(h:∀ i,val i < 8):∀ i,met val i < 256
 |0=>by show(0:Nat) < 256;decide|i + 1=>FG (AK h i) (h i)
section
variable {P:å}{w:î}{A:þ}
theorem jN.keep(x:jN w h a m)(k:∀ o,h.get? a=↑o->b.get? a=↑o):jN w b a m:=by
 let(o,c,g,d,r):=x;exact#[o,c,g,k o d,r]
theorem Ja{R:Result->Ç->Prop}{I:È}{fp wr:Zo}{G:Array GenState->Array GenState->Prop}{n:Nat}{Pv:Nat->Ä->Prop}{St:Nat->Ç->Prop}(W:WalksS P w A.in1 I fp wr G n Pv St)(S:È)(hf:S ∉ fp){val:Nat->Nat}(hv:∀ i,val i < 8)(hp:∀ i v,Pv i v->∃ t,v=.int (val i) t) :
  ∀ (k i:Nat) (s:Ç),i + k=n->St i s->jN w s.heap S (met val i)->(∀ s',Moved (S::wr) G s s'->jN w s'.heap S (met val n)->R (.ok (.ret .none)) s')->W5 (ß P w) A (.builtin "set.update.loop" #[[↥S,↥I],[]]) R s:=by
 have hw :=λh=>hf (W.sub _ h);intro k
 induction k with
 |zero =>
  intro i s hk st x q;subst hk;refine Uu W9 ?_;refine À  (W.done s _ _ st λs1 mv=>?_);exact Å (q s1 (mv.mono λb hb=>É _ hb) (x.keep λo=>mv.heap S o hw))
 |succ k ih =>
  intro i s hk st x q;refine Uu W9 ?_;refine À  (W.item i s _ _ (_l (_a (V9 _ _)) hk) st λv s1 pv aO mv=>?_)
  let(t,rfl):=hp i v pv;refine À (m:=holding _ (setAdd S (.int (val i) t))) (û ?_)
  delta setAdd
  refine û (À ((Uy P w).pyHash (k:=(val i:Int)) (intKind_is _ _ _ _) ?_));refine AJ (s:={ s1 with toks:=s1.toks + 1 }) (AK hv i) (hv i) (x.keep λo=>mv.heap S o hw) λb h2 sb x2=>?_;have off:∀ c o,c≠S->s1.heap.get? c=↑o->h2.get? c=↑o:=λc o hc e=>(sb.2 c hc).trans e;refine Å #[W0 W8 _,ih (i + 1) _ (_A (_j _ _ _) hk) (W.frame _ s1 _ _ aO (le_succ _) λc hc o e=>off c o (λz=>hf (z ▸ hc)) e) x2 λs2 mv2 x3=>?_]
  exact q s2 (Moved.trans W.gtrans ((mv.mono λb hb=>É _ hb).then_heap (le_succ _) λc o hc e=>off c o (λz=>hc (z ▸ Í)) e) mv2) x3
end
section
variable {P:å}{w:î}{A:þ}{E:Ä->Ç->Prop}{s:Ç}
abbrev jX(w:î):Obj:={ cls:=.type "set",dict:=none,data:=.set [].toArray 0 (.fresh 0 0 (led w)) }
theorem BS(a:Ä)(h:Q ↥s.heap.objs.size { s with heap:=s.heap.push (jX w) }):W5 (ß P w) A (.call (.builtin "set.__new__") #[[.type "set",a],[]]) (wants Q E) s:=by
 apply codeAny_of_tree;refine À  (wpAny_of_eq (F.newCall_set_1 a) (Å #[W0 F.plain_set_new _,Uu F.entry_set_new ?_]));have b:=sub_set_self;unfold Vq.«set.__new__» Builtin.Frozenset.newClass;wp_walk
 refine wpAny_askSetting (Å ?_);exact À (wpAny_alloc (Å (Å h)))
theorem Jb{h:ö}:jN w (h.push (jX w)) h.objs.size 0:=#[_,0,λ_=>0,Ì _ rfl,#[rfl,rfl,rfl],rfl]
structure OX(P:Program)(w:World)(T:String)(l:Addr)(o it:Obj)(n:Nat)(Pv:Nat->Value->Prop)(St:Addr->Nat->Heap->Prop):Prop where
 ty:o.cls=.type T
 f1:isSubtype (.type T) (.type "set")=pure false
 f2:isSubtype (.type T) (.type "frozenset")=pure false
 f3:(Value.type T == Value.type "dict")=false
 iter:∀ (A:Around) (E:Value->Shared->Prop) (s:Shared) (Q:Value->Shared->Prop),s.heap.get? l=↑o->Q ↥s.heap.objs.size { s with heap:=s.heap.push it }->wpAny (model P w) A (pyIter ↥l) Q E s
 walk:∀ (A:Around) (I:Addr),A.handled=none->l≠I->Walks P w A I [I,l] [I] n Pv (St I)
 zero:∀ h:Heap,h.get? l=↑o->St h.objs.size 0 (h.push it)
set_option maxHeartbeats 3200000 in
theorem yN{T:String}{l:È}{o it:Obj}{n:Nat}{Pv:Nat->Ä->Prop}{St:È->Nat->ö->Prop}{val:Nat->Nat}{Q:Ä->Ç->Prop}(D:OX P w T l o it n Pv St)(hh:A.handled=none)(ho:s.heap.get? l=↑o)(hv:∀ i,val i < 8)(hp:∀ i v,Pv i v->∃ t,v=.int (val i) t)
  (h:∀ (h':ö) (tk:Nat),jN w h' s.heap.objs.size (met val n)->(∀ b u,s.heap.get? b=↑u->h'.get? b=↑u)->Q ↥s.heap.objs.size { s with heap:=h',toks:=tk }):Ü (ß P w) A (call (.type "set") [↥l]) Q E s:=by
 let(c,tl,hmro):=UI.mro;have hmade:=UI.made;have hsub:=UI.sub;have h1:=UI.notType;have h2:=UI.canCreate;have hct:=F.typeCall_set_1 ↥l;refine Xa (codeAny_of_tree ?_);show Ü _ _ (callAny (.type "set") _) _ _ _;refine Å #[X8 _ (by decide +kernel),Uu F.entry_type_call ?_]
 rw[Around.under_plain (weight_type_call_type "set" [↥l] []) rfl]
 repeat (any_goals (first | assumption | wp_step))
 refine U4 (BS ↥l (E:=E) (Q:=λv s1=>v=↥s.heap.objs.size/\s1={ s with heap:=s.heap.push (jX w) }) #[rfl,rfl]) λr s1 hr=>?_;cases r with
 |error e=>exact hr
 |ok fl =>
  cases fl with
  |ret v =>
   let(rfl,rfl):=hr;have hT:Shared.TypeIs { s with heap:=s.heap.push (jX w) } ↥s.heap.objs.size "set":=#[_,Ì _ rfl,rfl];have hli:=UI.init.lookup;have hbi:=UI.init.bind ↥s.heap.objs.size;have lS:l < s.heap.objs.size:=à ho;have ho1:(s.heap.push (jX w)).get? l=↑o:=Â _ ho
   repeat (any_goals (first | assumption | wp_step))
   refine U4 (X1 (R:=wants (λr s2=>r=.none/\∃ h' tk,s2={ s with heap:=h',toks:=tk }/\jN w h' s.heap.objs.size (met val n)/\∀ b u,s.heap.get? b=↑u->h'.get? b=↑u) E) UI.init.plain F.entry_set_init (check_set_init_1 hT ?_)) λr2 s2 hr2=>?_
   .have f1:=D.f1;have f2:=D.f2;have f3:=D.f3;let(ocls,odict,odata,oslots):=o;have hc:ocls=.type T:=D.ty;subst hc;unfold Vq.«set.__init__» noKeywords Y8;generalize hPI:pyIter=PI
    wp_walk
    subst hPI;refine D.iter _ _ _ _ ho1 ?_;refine À (Yt ?_);have hI:(s.heap.push (jX w)).objs.size=s.heap.objs.size + 1:=Wy ..;have nI:l≠(s.heap.push (jX w)).objs.size:=by rw[hI];exact Ù (Uw lS)
    have nS:s.heap.objs.size ∉ [(s.heap.push (jX w)).objs.size,l]:=by
     rw[hI];simp only[Ur,Ub,ZF,not_or];exact#[Ù (Vs _),Vx lS]
    refine Ja ((D.walk _ _ (by simp[hh]) nI).toS) s.heap.objs.size nS hv hp n 0 _ (X3 _) (D.zero _ ho1) (Jb.keep λu e=>Â _ e) λs' mv x=>?_
    let(h',g',d',tk',os'):=s';have eg:g'=s.gens:=mv.gens;have ed:d'=s.drawn:=mv.drawn;have eo:os'=s.os:=mv.os;subst eg;subst ed;subst eo;refine Å (Å #[rfl,h',tk',rfl,x,λb u e=>?_]);have lb:=à e;refine mv.heap b u (λz=>?_) (Â _ (Â _ e));simp only[Ur,Ub,ZF] at z;rw[hI] at z;rcases z with z | z
    .exact Ù lb z
    .exact Ù (Uw lb) z
   .cases r2 with
    |error e=>exact hr2
    |ok fl2 =>
     cases fl2 with
     |ret r =>
      let(rfl,h',tk,rfl,x,kp):=hr2
      repeat (any_goals (first | assumption | wp_step))
      exact h _ _ x kp
     |_=>exact hr2.elim
  |_=>exact hr.elim
end
def nZ(t:UL):Nat->Nat
 |0=>0|i + 1=>t.place.getD i 0 + 1
structure ux(w:World)(t:SetTable)(es:Array (Int × Value)):Prop where
 fits:t.fits es.size=true
 plain:t.plain=true
 led:t.led=led w
 below:∀ i,i<=es.size->SetTable.below t.place (nZ t i)=i
 small:es.size<=100
theorem mO:∀ {l:⇑α}{i:Nat} (h:i < l.length),(l[i]::l.eraseIdx i).Perm l
 |x::r,0,_=>.refl _|x::r,i + 1,h=>(List.Perm.swap x _ _).trans ((mO   (Nat.lt_of_succ_lt_succ h)).cons x)
theorem wI(next:Nat->Nat):∀ (n k:Nat) (left:⇑α) (out:Array α),left.length=n->((Xs next n k left out).toList).Perm (out.toList++left)
 |0,k,left,out,h=>by
  have :=XF h;subst this;simp[Xs]
 |n + 1,k,left,out,h=>by
  have hl:next k % left.length < left.length:=Nat.mod_lt _ (V7 (_d _ _) (_U h))
  unfold Xs;rw[Õ hl];apply(wI next n _ _ _ (by grind)).trans
  rw[Array.toList_push,Vt];exact List.Perm.append_left _ (mO hl)
theorem DB(next:Nat->Nat)(a:Array α):(pickOrder next a).toList.Perm a.toList:=by
 exact (wI next a.size 0 a.toList _ ⋯)
def ord(w:î)(a b:Nat)(c:Array (Int × Ä)):Array (Int × Ä):=if w.params.followText "set-order" then pickOrder (w.params.setOrder a b) c else c
theorem rS(w:î)(a b:Nat)(c:Array (Int × Ä)):(ord w a b c).toList.Perm c.toList:=by
 delta ord
 split
 .exact DB _ _
 .exact .refl _
theorem rT(w:î)(a b:Nat)(c:Array (Int × Ä)):(ord w a b c).size=c.size:=by
 simpa using ((rS w a b c).length_eq)
def yO(w:î)(t:UL)(i:Nat):Nat:=if w.params.followText "set-order" then 0 else nZ t i
def FH(w:î)(S a n:Nat)(t:UL)(i:Nat):Obj:={ cls:=.type "set_iterator",data:=.fields [UM (yO w t i),UM i,↥S,UM n,UM a].toArray }
theorem cq:Slot "set_iterator" "__next__" "set_iterator.__next__":=.of (owner:="set_iterator") (n:="__next__") (rfl) (rfl) (rfl) (rfl) (by first | exact .inl (by decide +kernel) | exact .inr (by decide +kernel)) (by rw[YB];kernel_rfl)
theorem jO:Slot "set_iterator" "__iter__" "set_iterator.__iter__":=.of (owner:="set_iterator") (n:="__iter__") (rfl) (rfl) (rfl) (rfl) (by first | exact .inl (by decide +kernel) | exact .inr (by decide +kernel)) (by rw[YB];kernel_rfl)
theorem i4:entryFor table "set_iterator.__next__"=↑Vq.«set_iterator.__next__»:=entryFor_of_tree (rfl)
theorem rV:entryFor table "set.__iter__"=↑Vq.«frozenset.__iter__»:=entryFor_alias (id':="frozenset.__iter__") (rfl) rfl (by decide +kernel) (by kernel_rfl)
theorem pA:entryFor table "set_iterator.__iter__"=↑Vq.«dict_keyiterator.__iter__»:=entryFor_alias (id':="dict_keyiterator.__iter__") (rfl) rfl (by decide +kernel) (by kernel_rfl)
theorem jP(a:Ä):argsOk "set_iterator.__next__" #[[a],[]]:=by
 kernel_rfl
theorem qu(a:Ä):argsOk "set_iterator.__iter__" #[[a],[]]:=by
 kernel_rfl
section
variable {P:å}{w:î}{A:þ}{E:Ä->Ç->Prop}{s:Ç}{S ep:Nat}{t:UL}{es:Array (Int × Ä)}{o:Obj}
theorem FI(a:ux w t es)(c:s.heap.get? S=↑o)(d:o.ExactSet)(hd:o.data=.set (es) ep t){Q:Ä->Ç->Prop}(h:Q ↥s.heap.objs.size { s with heap:=s.heap.push (FH w S ep es.size t 0) }):Ü (ß P w) A (pyIter ↥S) Q E s:=by
 have hT:s.TypeIs ↥S _:=#[o,c,d.1];have f:=a.fits;have g:=a.plain;refine wpAny_pyIter_slot hT F.slot_set_iter (My F.slot_set_iter hT rV ?_ (F.args_set_iter_1 _));unfold Vq.«frozenset.__iter__» Builtin.Frozenset.slot0 slotArgs;simp -iota only [List.isEmpty_nil,Bool.not_true,VF,↓reduceIte,bind_assoc,UG,bne_self_eq_false];refine À (Å (À (Å (À (À (wpAny_setEntries_of c hd f (Å ?_)))))));apply À;refine UQ (by
  refine À (UK c hd f (À (À (wpAny_askSetting (Å (Å #[?_,rfl]))))));generalize t=t at g;let(k,l,m,n,t5,p,q):=t;cases g;show(!w.params.followText _&&_)=false;cases w.params.followText _ <;> rfl:Ü _ A.in1 _ (λb j=>b=false/\j=s) E s) (λb j r=>?_) λ_ _ e=>e;let(rfl,rfl):=r;refine À (Å ?_);refine À (wpAny_setEpoch_of c hd f ?_);refine À (Uj (Å #[_,rfl,_,_,#[_,Ì _ rfl,rfl],cq.lookup,?_]));have e:FH w S ep es.size t 0={ cls:=.type "set_iterator",data:=.fields [UM 0,UM 0,↥S,UM (es).size,UM ep].toArray }:=by
  unfold FH yO;split <;> rfl
 rw[e] at h;exact h
theorem BU(a:ux w t es)(b:i<=es.size)(c:s.heap.get? S=↑o)(hd:o.data=.set (es) ep t):Ü (ß P w) A (setNext S (yO w t i) i ep) (λr d=>d=s/\r=(ord w S ep (es))[i]?.map λe=>(e.2,yO w t (i + 1))) E s:=by
 have f:=a.fits;have g:=a.plain;have h:=a.led;refine À (UK c hd f ?_)
 delta ord yO
 show Ü _ _ (if w.params.followText _=true then _ else _) _ _ _;cases j:w.params.followText _ with
 |true =>
  rw[Zv rfl,Zw ⋯]
  apply À;refine À (UK c hd f (À (À (wpAny_askSetting (Å ?_)))));show Ü _ _ (if w.params.followText _=true then _ else _) _ _ _;rw[j];refine À (wpAny_askSetting (Å (Å #[rfl,?_])));rfl
 |false =>
  simp only[VF,↓reduceIte];have h:t.led=true:=by simp_all
  have k:=a.below i b;have l :=by
   have:=a.fits;unfold UL.fits at this;rw[Á,Zy] at this;exact this.1
  have m:nZ t (i + 1)=t.place.getD i 0 + 1:=rfl;rw[m];generalize nZ t i=n at k;let(p,q,u,v,t5,x,y):=t;subst g;subst h;have k:WR q n=i:=k;have l:q.size=es.size:=l;refine À (Å (Å #[rfl,?_]));rw[k];by_cases z:i < es.size
  .have B:es[i]?=↑es[i]:=by simp[z]
   have C:q[i]?=↑(q.getD i 0):=by simp[Array.getD,l,z]
   rw[B,C];rfl
  .have B:es[i]?=none:=by simp;exact _g z
   rw[B];rfl
theorem FJ(a:ux w t es)(b:i < es.size)(c:s.heap.get? S=↑o)(hd:o.data=.set (es) ep t)(d:s.heap.get? I=↑(FH w S ep es.size t i)){Q:Zn->Ç->Prop}
  (h:∀ v f,(ord w S ep (es))[i]?.map (·.2)=↑v->V6 I s.heap f->f.get? I=↑(FH w S ep es.size t (i + 1))->Q ↑v { s with heap:=f }):Ü (ß P w) A (pyNext ↥I) Q E s:=by
 have hT:s.TypeIs ↥I _:=#[_,d,rfl];refine À (XW (Uk  hT cq (My cq hT i4 ?_ (jP _))));refine À (Å ?_);refine À (wpAny_fieldsOf d rfl ?_);dsimp only [UM];refine À (wpAny_setEntries_of c hd (a.fits) ?_);rw[Zw ⋯]
 refine À (UQ (BU  a (Vb b) c hd) (λr j k=>?_) λ_ _ e=>e);let(rfl,rfl):=k;have l:i < (ord w S ep (es)).size:=by rw[rT];exact b
 have m:(ord w S ep (es))[i]?=↑(ord w S ep _)[i]:=⋯
 simp -iota only [UX,m,map_some];refine À (U8 d ⋯ λn p q=>?_)
 refine À (U8 p ⋯ λu x y=>?_)
 refine Å #[_,rfl,Å (h _ u (by rw[m];rfl) (q.trans y) ?_)]
 delta FH
 exact x
theorem Jc{I:È}(hh:A.handled=none)(hm:ux w t es)(ho:s.heap.get? S=↑o)(hd:o.data=.set (es) ep t)(hI:s.heap.get? I=↑(FH w S ep es.size t es.size)){Q:Zn->Ç->Prop}
  (h:∀ h',Heap.ExtBut I s.heap h'->Q none { s with heap:=h' }):Ü (ß P w) A (pyNext ↥I) Q E s:=by
 have hT:s.TypeIs ↥I _:=#[_,hI,rfl];refine À (XW (Uk  hT cq (My cq hT i4 ?_ (jP _))));refine À (Å ?_);refine À (wpAny_fieldsOf hI rfl ?_);dsimp only [UM];refine À (wpAny_setEntries_of ho hd (hm.fits) ?_);rw[Zw ⋯]
 refine À (UQ (BU  hm (Î _) ho hd) (λr s' hr=>?_) λ_ _ e=>e);let(rfl,rfl):=hr;simp -iota only [UX,(by simp[rT]:(ord w S ep (es))[es.size]?=none),Option.map_none];refine À (U8 hI ⋯ λh1 hI1 sb1=>À ?_)
 refine À (m:=firstArgMember _ _) (wpAny_of_eq (a:=ð) (rfl) ?_);refine Uj ?_ (by size_fits)
 refine À (wpAny_handled ?_);rw[show A.in1.handled=none from hh];refine À (Å (wpAny_throw ?_));refine À (wpAny_isInstance   #[_,Ì _ rfl,rfl] isSubtype_stop ?_);exact Å (h _ ((sb1.extBut.push _).push _))
theorem DC(a:A.handled=none)(c:ux w t es)(d:o.ExactSet)(hd:o.data=.set (es) ep t)(f:S≠I):Walks P w A I [I,S] [I] es.size (λi v=>(ord w S ep (es))[i]?.map (·.2)=↑v) (λi h=>h.get? S=↑o/\h.get? I=↑(FH w S ep es.size t i)) where
 sub:=λb g=>by simp at g;simp[g]
 frame:=λ_ _ _ j k=>#[k S ⋯ _ j.1,k I ⋯ _ j.2]
 item:=λi s Q E l j m=>FJ c l j.1 hd j.2 λv n p sb q=>m v n s.toks p #[(sb.2 S f).trans j.1,q] λb u g e=>(sb.2 b λz=>g (by simp[z])).trans e
 done:=λs Q E j m=>Jc a c j.1 hd j.2 λn r=>m n s.toks λb u g e=>r b u (λz=>g (by simp[z])) e
 self:=λi s Q E j m=>by
  have hT:s.TypeIs ↥I "set_iterator":=#[_,j.2,rfl];refine wpAny_pyIter_slot hT jO (My jO hT pA ?_ (qu _));show Ü _ _ (ret ↥I) _ _ s;exact Å #[_,rfl,"set_iterator",_,hT,cq.lookup,m]
set_option maxHeartbeats 3200000 in
theorem kz{Q:Zk->Ç->Prop}(hh:A.handled=none)(hm:ux w t es)(ho:s.heap.get? S=↑o)(hx:o.ExactSet)(hd:o.data=.set (es) ep t)
  (hQ:∀ h' tk,s.heap.objs.size < h'.objs.size->(∀ b u,s.heap.get? b=↑u->h'.get? b=↑u)->Q ((ord w S ep (es)).toList.map (·.2)) { s with heap:=h',toks:=tk }):Ü (ß P w) A (collect ↥S) Q E s:=by
 have lS :=à ho;have hsz:=hm.small;refine À (Yt (Uu F.entry_proto_collect ?_));refine À  (Uj (Å #[W0 F.plain_list_iadd _,Uu F.entry_list_iadd ?_]));show Ü _ A.in1 (Builtin.List.listExtendWith _ _ _) _ _ _;have oS:(s.heap.push { cls:=.type "list",data:=.seq ([]:Zk).toArray }).get? S=↑o:=Â _ ho;have hL:(s.heap.push _).get? s.heap.objs.size=↑{ cls:=.type "list",data:=.seq ([]:Zk).toArray }:=Ì _ rfl;have hT:Shared.TypeIs { s with heap:=s.heap.push _ } ↥S _:=#[o,oS,hx.1];refine À (Vh hT ?_);simp[(by simp[Builtin.List.listSameRef];exact Vx lS:Builtin.List.listSameRef ↥s.heap.objs.size ↥S=false),(by decide:(UZ "set" == UZ "list")=false),(by decide:(UZ "set" == UZ "tuple")=false),Bool.or_false,VF,if_false];refine À (FI hm oS hx hd (À (û ?_)));have hT2:∀ u,Shared.TypeIs { s with heap:=(s.heap.push { cls:=.type "list",data:=.seq ([]:Zk).toArray }).push u } ↥S "set":=λu=>#[o,Â _ oS,hx.1]
 delta Builtin.List.listLengthHint
 refine À (wpAny_specialOf (hT2 _) F.slot_set_len.lookup ?_)
 wp_delta
 refine À (wpAny_isInstance (T:="set") (b:=true) (hT2 _) (by rw[YB];kernel_rfl) ?_)
 show Ü _ A.in1 (typeOf (tv S) >>= _) _ _ _;refine À (Vh (hT2 _) (Å ?_));rw[Zv (-0)]
 refine À (WA ?_);generalize hI:s.heap.push { cls:=.type "list",data:=.seq ([]:Zk).toArray }=h1 at oS hL hT2;have sz1:h1.objs.size=s.heap.objs.size + 1:=by rw[<-hI];exact Wy ..
 have hL2:(h1.push (FH w S ep es.size t 0)).get? s.heap.objs.size=↑{ cls:=.type "list",data:=.seq ([]:Zk).toArray }:=Â _ hL;refine À (m:=Builtin.List.listTouch ↥s.heap.objs.size) ?_;show Ü _ A.in1 (updateSeq s.heap.objs.size (·.push .none) >>= λ_=>updateSeq s.heap.objs.size (·.pop)) _ _ _;refine À (wpAny_updateSeq hL2 rfl ?_);have hL3:=VG (Ut (·.push ð)) hL2 rfl;refine wpAny_updateSeq hL3 rfl ?_;have hL4:=VG (Ut (·.pop)) hL3 rfl;have off:∀ b u,b≠s.heap.objs.size->(h1.push (FH w S ep es.size t 0)).get? b=↑u->(((h1.push (FH w S ep es.size t 0)).update s.heap.objs.size (Ut (·.push ð))).update s.heap.objs.size (Ut (·.pop))).get? b=↑u :=
  λb u hb e=>(W7 _ _ (ñ hb)).trans ((W7 _ _ (ñ hb)).trans e)
 have nI:S≠h1.objs.size:=by rw[sz1];exact Ù (Uw lS)
 have nS:s.heap.objs.size ∉ [h1.objs.size,S]:=by
  rw[sz1];simp only[Ur,Ub,ZF,not_or];exact#[Ù (Vs _),Vx lS]
 refine Å #[W0 F.plain_extend_loop _,codeAny_extend_loopS (DC (P:=P) (by simp[hh]) hm hx hd nI).toS (by rw[gV];omega) s.heap.objs.size nS _ es.size 0 _ _ _ rfl (Vl _) #[off _ _ (Ù lS) (Â _ oS),off _ _ (by rw[sz1];exact(Ù (Vs _)).symm) (Ì _ rfl)] hL4 (ItemsOf.nil _) λs' acc c mv hS' it=>?_]
 refine À (m:=load s.heap.objs.size) (wpAny_load hS' (Å ?_));have ea:acc.toList=(ord w S ep (es)).toList.map (·.2):=by
  refine ext_getElem? λj=>?_;rw[Ú,Ug,Ug];cases e:acc[j]? with
  |none =>
   have hj:es.size<=j:=by rw[<-it.1];simpa using e
   have:(ord w S ep (es))[j]?=none:=by simp[rT,hj]
   rw[this];rfl
  |some v=>rw[it.2 j v e]
 rw[ea];let(h',g',d',tk',os'):=s';have eg:g'=s.gens:=mv.gens;have ed:d'=s.drawn:=mv.drawn;have eo:os'=s.os:=mv.os;subst eg;subst ed;subst eo;refine hQ h' tk' (à hS') λb u e=>mv.heap b u (λz=>?_) (off b u (Ù (à e)) (Â _ (hI ▸ Â _ e)));have lb:=à e;simp only[Ur,Ub,ZF] at z;rw[sz1] at z;rcases z with z | z
 .exact Ù lb z
 .exact Ù (Uw lb) z
end
end SS
namespace ST
def blocks(mk:Zh):⇑Zi:=mk.map λm=>((ë mk.length).filter λp=>mk.getD p 0 == m).map λ(n:Nat)=>(n:Int)
def fy{a:Type}[BEq a](l:⇑a):Zh:=l.map (l.idxOf ·)
abbrev tD(a:Zi):L2.D:=.tup (a.map L2.D.int)
end ST
namespace Q
open PySem L2
abbrev Z:=Option (Int × Bool)
inductive S where
 |d (x:D) | fr (xs:⇑D) | z
inductive R (α:Type) where
 |ok (a:α) (z:Z) | er (c:Nat) (z:Z)
abbrev M(a:Type):=Z->Option (R a)
def Ze{b:Type}(a:b):M b:=λz=>↑(.ok a z)
def Zg{a:Type}:M a:=λ_=>none
def Zf{b:Type}:Option b->M b
 |↑a=>Ze a|none=>Zg
def Zd{b d:Type}(m:M b)(f:b->M d):M d:=λz=>match m z with
 |↑(.ok a e)=>f a e|↑(.er c e)=>↑(.er c e)|none=>none
def M.calm{b:Type}(m:M b):M b:=λz=>match m z with
 |↑(.ok a c)=>↑(.ok a c)|_=>none
abbrev Env:=⇑(Option S)
def pl:⇑S->Option D
 |[.d x]=>↑x|[.fr xs]=>↑(.lst xs)|_=>none
def one:⇑S->Option S
 |[s]=>↑s|_=>none
def n5:S->S
 |.fr a=>.d (.lst a)|s=>s
def FK:S->Option D
 |.d x=>↑x|.fr xs=>↑(.lst xs)|_=>none
def iC:⇑S->Option ⇑D
 |[]=>↑[]|.d x::r=>(iC r).map (x::·)|.fr a::r=>(iC r).map (.lst a::·)|_::_=>none
inductive Bi where
 |add | sub | mul | fdiv | mod | pow
inductive Cm where
 |eq | ne | lt | le | gt | ge | mem | nmem
inductive Bf where
 |len | sorted | tuple | list | sum | min | max | all | int | sset | oZ
inductive Ty where
 |int | bool | tuple | list | str | seq
inductive iD where
 |v (i:Nat) | tup (ps:iD) | nil | cons (p r:iD)
inductive It where
 |seq | rng1 | rng2 | zip
 |enum
inductive Ex where
 |nil | cons (a r:Ex)
 |var (i:Nat) | con (x:D) | gint (g:Str) (i:Int)
 |tup (as:Ex) | lst (as:Ex)
 |bin (o:Bi) (a b:Ex) | cmp (o:Cm) (a b:Ex) | neg (a:Ex)
 |not (a:Ex) | and (a b:Ex) | or (a b:Ex) | orT (a b:Ex) | ite (c a b:Ex)
 |ch (o o':Cm) (a b c:Ex)
 |bf (f:Bf) (as:Ex) | isi (t:Ty) (a:Ex)
 |idx (a i:Ex) | sl (a lo hi:Ex) | rev (a:Ex)
 |call (f:Nat) (as:Ex)
 |comp (own:Nat) (aj:⇑Nat) (p:iD) (it:It) (src cond el:Ex)
 |zget (i k:Nat) | lrng (b:Bool) (as:Ex)
 |oZ (as:Ex)
 |refd (aj:⇑Nat) (a:Ex)
abbrev most:Nat:=100000
def mP:Nat:=2 ^ 4000
mutual
noncomputable def FN:D->D->Bool
 |.cD,.cD=>true|.bl a,.bl b=>a == b|~~~a,~~~b=>a == b|.str a,.str b=>a == b|.bl a,~~~b=>(if a then 1 else 0) == b|~~~a,.bl b=>a == (if b then 1 else 0)|.tup a,.tup b=>wJ a b|.lst a,.lst b=>wJ a b|.dct,.dct=>true|_,_=>false
noncomputable def wJ:⇑D->⇑D->Bool
 |[],[]=>true|a::r,b::q=>FN a b&&wJ r q|_,_=>false
end
mutual
noncomputable def Jd:D->D->Zs
 |~~~a,~~~b=>↑(decide (a < b))|.tup a,.tup b=>wK a b|_,_=>none
noncomputable def wK:⇑D->⇑D->Zs
 |[],[]=>↑false|[],_::_=>↑true|_::_,[]=>↑false|a::r,b::q=>if FN a b then wK r q else Jd a b
end
mutual
noncomputable def eZ:D->Bool
 |.dct=>false|.tup l=>bt l|.lst l=>bt l|.str x=>PyData.strOk x|_=>true
noncomputable def bt:⇑D->Bool
 |[]=>true|x::r=>eZ x&&bt r
end
mutual
noncomputable def deep:D->Nat
 |.tup l=>cL l + 1|.lst l=>cL l + 1|_=>0
noncomputable def cL:⇑D->Nat
 |[]=>0|x::r=>X4 (deep x) (cL r)
end
def g9(d:D):Bool:=eZ d&&decide (deep d<=40)
def fz(l:⇑D):Bool:=bt l&&decide (cL l<=39)
theorem bC{c:Prop}[Decidable c]{d:Type}{a:Option d}{b:d}(h:(if c then a else none)=↑b):c/\a=↑b:=by simp_all
def Me(a b:D):Zs:=if g9 a&&g9 b then ↑(FN a b) else none
def Mf:D->D->Zs
 |.tup l,.tup []=>↑l.isEmpty|_,_=>none
def eqQ(a b:D):Zs:=if g9 a&&g9 b then ↑(FN a b) else Mf a b
def N0(a b:D):Zs:=if g9 a&&g9 b then Jd a b else none
def memD(x:D)(l:⇑D):Bool:=l.any λy=>FN y x
def rW(x:D)(l:⇑D):Zs:=if g9 x&&fz l then ↑(memD x l) else none
def gq:⇑D->Option Zi
 |[]=>↑[]|~~~i::r=>(gq r).map (i::·)|_=>none
def eR:Bi->D->D->Option S
 |.add,~~~i,~~~j=>↑(.d (~~~(i + j)))|.add,.tup a,.tup b=>if a.length + b.length<=most then ↑(.d (.tup (a++b))) else none|.add,.lst a,.lst b=>if a.length + b.length<=most then ↑(.fr (a++b)) else none|.sub,~~~i,~~~j=>↑(.d (~~~(i - j)))|.mul,~~~i,~~~j=>if i.natAbs < mP/\j.natAbs < mP then ↑(.d (~~~(i * j))) else none|.mul,.tup a,~~~j=>if 0<=j/\j.toNat * a.length<=most/\j < 1000000 then ↑(.d (.tup (ì j.toNat a).flatten)) else none|.mul,.lst a,~~~j=>if 0<=j/\j.toNat * a.length<=most/\j < 1000000 then ↑(.fr (ì j.toNat a).flatten) else none|.fdiv,~~~i,~~~j=>if 0 < j/\j.natAbs < mP then ↑(.d (~~~(i / j))) else none|.mod,~~~i,~~~j=>if 0 < j then ↑(.d (~~~(i % j))) else none|.pow,~~~i,~~~j=>if 0<=j/\j<=1000/\i.natAbs < 2 ^ 64 then ↑(.d (~~~(i ^ j.toNat))) else none|_,_,_=>none
def R6:D->D->Zs
 |.dct,.tup _=>↑true|a,b=>(Me a b).map (!·)
def f9:Cm->D->D->Zs
 |.eq,a,b=>eqQ a b|.ne,a,b=>R6 a b|.lt,a,b=>N0 a b|.gt,~~~a,~~~b=>↑(decide (b < a))|.le,~~~a,~~~b=>↑(decide (a<=b))|.le,.tup a,.tup b=>(gq a).bind λc=>(gq b).map λd=>HT.leB c d|.ge,~~~a,~~~b=>↑(decide (b<=a))|.mem,a,.tup l=>rW a l|.mem,a,.lst l=>rW a l|.nmem,a,.tup l=>(rW a l).map (!·)|.nmem,a,.lst l=>(rW a l).map (!·)|_,_,_=>none
def AL:Ty->D->Bool
 |.int,~~~_=>true|.int,.bl _=>true|.bool,.bl _=>true|.tuple,.tup _=>true|.list,.lst _=>true|.str,.str _=>true|.seq,.tup _=>true|.seq,.lst _=>true|_,_=>false
def pZ:D->Zs
 |.bl b=>↑b|_=>none
def FO:D->Option ⇑D
 |.tup l=>↑l|_=>none
def wL:D->Zq
 |~~~i=>↑i|_=>none
def mf:D->Option ⇑D
 |.tup l=>↑l|.lst l=>↑l|_=>none
mutual
noncomputable def fb:D->Zi
 |~~~i=>[i]|.tup l=>OY l|_=>[]
noncomputable def OY:⇑D->Zi
 |[]=>[]|x::r=>fb x++OY r
end
mutual
noncomputable def eqT:D->D->Bool
 |~~~i,~~~j=>i == j|.tup a,.tup b=>jx a b|_,_=>false
noncomputable def jx:⇑D->⇑D->Bool
 |[],[]=>true|x::r,y::q=>eqT x y&&jx r q|_,_=>false
end
def jy:D->Nat
 |~~~_=>0|.tup (~~~_::_)=>1|.tup (.tup _::_)=>2|_=>3
def bH(x y:D):Bool:=jy y == jy x&&(Jd x y == ↑(MySort.bh (fb x) (fb y))&&(eqT x y || !(fb x == fb y)))
def bI(l:⇑D):Bool:=l.all λx=>decide (jy x < 3)&&(g9 x&&l.all (bH x))
def n6(k:D):⇑D->⇑D
 |[]=>[k]|y::r=>if MySort.bh (fb y) (fb k) then y::n6 k r else k::y::r
def dh:⇑D->⇑D
 |[]=>[]|k::r=>n6 k (dh r)
def aQ(k m:Nat):D:=.tup ((TS.kq k 0 m).map λ(i:Nat)=>~~~i)
def cS(k:Nat):⇑D:=(ë (2 ^ k)).map (aQ k)
def yP(k:Nat):⇑D:=(TS.sN k).map (aQ k)
def OZ(l:⇑D):Option ⇑D:=((ë 9).find? λk=>jx l (cS k)).map yP
abbrev FP(l:⇑D):Option ⇑D:=OZ l
def sortedS(x:D):Option S:=(mf x).bind λl=>if l.length < 64/\bI l=true then ↑(.fr (dh l)) else(FP l).map S.fr
def rX:⇑D->Zq
 |[]=>↑0|~~~i::r=>(rX r).map (i + ·)|_=>none
def mQ:⇑D->Option Zh
 |[]=>↑[]|~~~i::r=>if 0<=i/\i < 8 then(mQ r).map (i.toNat::·) else none|_=>none
def FQ:⇑D->Option ⇑Zi
 |[]=>↑[]|.tup m::r=>(gq m).bind λk=>(FQ r).map (k::·)|_=>none
def yQ:⇑Zi->⇑Zi
 |[]=>[]|x::r=>if r.contains x then yQ r else x::yQ r
def wO(l:⇑D):Option ⇑D:=(FQ l).bind λa=>if a.length<=6/\ST.blocks (ST.fy a)=a/\bI ((yQ a).map ST.tD)=true then ↑(dh ((yQ a).map ST.tD)) else none
def BV(x:D)(l:⇑D):Option ⇑D:=match mQ l with
 |↑a=>↑(((ë 8).filter λi=>a.contains i).map λ(n:Nat)=>~~~n)
 |none=>match x with
  |.lst _=>wO l|_=>none
def n9:Bf->⇑D->Option S
 |.len,[x]=>(mf x).map λl=>.d (~~~l.length)|.tuple,[x]=>(mf x).map λl=>.d (.tup l)|.list,[x]=>(mf x).map λl=>.fr l|.all,[.lst l]=>(l.mapM pZ).map λbs=>.d (.bl (bs.all id))|.sorted,[x]=>sortedS x|.sum,[x]=>((mf x).bind rX).map λi=>.d (~~~i)|.min,[~~~i,~~~j]=>↑(.d (~~~(if j < i then j else i)))|.max,[~~~i,~~~j]=>↑(.d (~~~(if j > i then j else i)))|.int,[.bl b]=>↑(.d (~~~(if b then 1 else 0)))|.int,[~~~i]=>↑(.d (~~~i))|.sset,[x]=>(mf x).bind λl=>(BV x l).map S.fr|_,_=>none
def mh:D->D->Option D
 |.tup l,~~~i=>Ai l i|.lst l,~~~i=>Ai l i|_,_=>none
def cutD(l:⇑D)(a b:Zq):⇑D:=(l.drop (HT.dg l.length 0 a)).take (HT.dg l.length l.length b - HT.dg l.length 0 a)
def R7:D->Zq->Zq->Option S
 |.tup l,a,b=>↑(.d (.tup (cutD l a b)))|.lst l,a,b=>↑(.fr (cutD l a b))|_,_,_=>none
def O0:D->Option S
 |.tup l=>↑(.d (.tup l.reverse))|.lst l=>↑(.fr l.reverse)|_=>none
def yR:⇑S->Option Zq
 |[]=>↑none|[.d (~~~i)]=>↑↑i|_=>none
def fh:⇑D->Nat->⇑D
 |[],_=>[]|x::r,i=>.tup [~~~i,x]::fh r (i + 1)
def fV:⇑D->⇑D->⇑D
 |x::r,y::q=>.tup [x,y]::fV r q|_,_=>[]
def inR:Int->Bool
 |.ofNat n=>Nat.blt n 100000|.negSucc n=>Nat.blt n 99999
theorem jQ:inR j=true↔-100000 < j/\j < 100000:=by
 cases j with
 |ofNat n=>show ble _ _=true↔_;rw[Nat.ble_eq];omega|negSucc n=>show ble _ _=true↔_;rw[Nat.ble_eq];omega
def uy:It->⇑D->Option ⇑D
 |.seq,[x]=>mf x|.rng1,[~~~j]=>if inR j=true then ↑((ë j.toNat).map λ(i:Nat)=>D.int i) else none|.rng2,[~~~i,~~~j]=>if inR i=true/\inR j=true then ↑((ë (j - i).toNat).map λ(k:Nat)=>D.int (i + k)) else none|.zip,[.tup a,.tup b]=>↑(fV a b)|.zip,[.lst a,.lst b]=>↑(fV a b)|.enum,[.tup a]=>↑(fh a 0)|.enum,[.lst a]=>↑(fh a 0)|_,_=>none
def S8:Bool->⇑D->S
 |true,a=>.d (.tup a)|false,a=>.fr a
def KN:Bool->Str
 |true=>"tuple"|false=>"list"
def O1:⇑D->Option ⇑D
 |[x]=>uy .rng1 [x]|l=>uy .rng2 l
mutual
noncomputable def cz:iD->D->Env->Option Env
 |.v i=>λx a=>↑(a.set i ↑(.d x))
 |.tup b=>λx a=>match x with
  |.tup l=>bindL b l a|_=>none
 |.nil=>λ_ _=>none|.cons _ _=>λ_ _=>none
noncomputable def bindL:iD->⇑D->Env->Option Env
 |.nil=>λl a=>match l with
  |[]=>↑a|_=>none
 |.cons p r=>λl a=>match l with
  |x::l=>(cz p x a).bind λa=>bindL r l a|_=>none
 |.v _=>λ_ _=>none|.tup _=>λ_ _=>none
end
def turns(f:D->M (Option D)):⇑D->M ⇑D
 |[]=>Ze []|x::r=>Zd (f x) λo=>Zd (turns f r) λl=>Ze (match o with | ↑y=>y::l | none=>l)
def jR(a b:Env->M ⇑S)(p:iD)(e:Env)(x:D):M (Option D):=Zd (Zf (cz p x e)) λf=>Zd (a f) λc=>match c with
 |[]=>Zd (b f) λy=>Zd (Zf (pl y)) λy=>Ze ↑y|[.d (.bl true)]=>Zd (b f) λy=>Zd (Zf (pl y)) λy=>Ze ↑y|[.d (.bl false)]=>Ze none|_=>Zg
def yS(k:Nat):Option (Option S)->Z->Option (R ⇑S)
 |↑↑.z,↑p=>if k=0 then ↑(.ok [.d (~~~p.1)] ↑p) else if k=1 then ↑(.ok [.d (.bl p.2)] ↑p) else none|_,_=>none
abbrev FT:=Bool->Nat->⇑S->M S
abbrev cT(F:FT):FT:=λ_=>F true
def qv(a:Env):Zh->Option ⇑S
 |[]=>↑[]
 |i::r=>match a[i]? with
  |↑↑s=>(qv a r).map (s::·)|_=>none
def AM(o:Option ⇑S)(m:Env->M ⇑S):M ⇑S:=λz=>match o with
 |none=>none
 |↑a=>match m (a.map some) z with
  |↑(.er c b)=>if c < 12 then ↑(.ok [.fr [~~~c]] b) else none|_=>none
def FU:⇑D->Option S
 |[.lst l]=>(wO l).map λa=>.d (~~~a.length)|_=>none
def ev:FT->Ex->Env->M ⇑S
 |F,.nil=>λ_=>Ze []|F,.cons a r=>λe=>Zd (ev F a e) λx=>Zd (Zf (one x)) λs=>Zd (ev F r e) λy=>Ze (s::y)
 |F,.var i=>λe=>match e[i]? with
  |↑↑s=>Ze [n5 s]|_=>Zg
 |F,.con x=>λ_=>Ze [.d x]|F,.gint _ i=>λ_=>Ze [.d (~~~i)]|F,.tup as=>λe=>Zd (ev F as e) λl=>Zd (Zf (iC l)) λds=>if ds.length<=most then Ze [.d (.tup ds)] else Zg|F,.lst as=>λe=>Zd (ev F as e) λl=>Zd (Zf (iC l)) λds=>if ds.length<=most then Ze [.fr ds] else Zg|F,.bin o a b=>λe=>Zd (ev F a e) λx=>Zd (Zf (pl x)) λx=>Zd (ev F b e) λy=>Zd (Zf (pl y)) λy=>Zd (Zf (eR o x y)) λs=>Ze [s]|F,.cmp o a b=>λe=>Zd (ev F a e) λx=>Zd (Zf (pl x)) λx=>Zd (ev F b e) λy=>Zd (Zf (pl y)) λy=>Zd (Zf (f9 o x y)) λb=>Ze [.d (.bl b)]|F,.neg a=>λe=>Zd (ev F a e) λx=>Zd (Zf ((pl x).bind wL)) λi=>Ze [.d (~~~(-i))]|F,.not a=>λe=>Zd (ev F a e) λx=>Zd (Zf ((pl x).bind pZ)) λb=>Ze [.d (.bl !b)]|F,.and a b=>λe=>Zd (ev F a e) λx=>Zd (Zf ((pl x).bind pZ)) λc=>if c then Zd (ev F b e) λy=>Zd (Zf ((pl y).bind pZ)) λc=>Ze [.d (.bl c)] else Ze [.d (.bl false)]|F,.or a b=>λe=>Zd (ev F a e) λx=>Zd (Zf ((pl x).bind pZ)) λc=>if c then Ze [.d (.bl true)] else Zd (ev F b e) λy=>Zd (Zf ((pl y).bind pZ)) λc=>Ze [.d (.bl c)]|F,.orT a b=>λe=>M.calm (Zd (ev F a e) λx=>Zd (Zf ((pl x).bind FO)) λl=>if l.isEmpty then Zd (ev F b e) λy=>Zd (Zf ((pl y).bind FO)) λl=>Ze [.d (.tup l)] else Ze [.d (.tup l)])|F,.ite c a b=>λe=>Zd (ev F c e) λx=>Zd (Zf ((pl x).bind pZ)) λc=>if c then ev F a e else ev F b e
 |F,.ch o g a b c=>λe=>Zd (ev F a e) λx=>Zd (Zf (pl x)) λx=>Zd (ev F b e) λy=>Zd (Zf (pl y)) λy=>Zd (Zf (f9 o x y)) λk =>
   if k then Zd (ev F c e) λw=>Zd (Zf (pl w)) λw=>Zd (Zf (f9 g y w)) λk=>Ze [.d (.bl k)] else Ze [.d (.bl false)]
 |F,.bf f as=>λe=>Zd (ev F as e) λl=>Zd (Zf (iC l)) λds=>Zd (Zf (n9 f ds)) λs=>Ze [s]|F,.isi t a=>λe=>Zd (ev F a e) λx=>Zd (Zf (pl x)) λx=>Ze [.d (.bl (AL t x))]|F,.idx a i=>λe=>Zd (ev F a e) λx=>Zd (Zf (pl x)) λx=>Zd (ev F i e) λy=>Zd (Zf (pl y)) λy=>Zd (Zf (mh x y)) λr=>Ze [.d r]|F,.sl a h j=>λe=>Zd (ev F a e) λx=>Zd (Zf (pl x)) λx=>Zd (ev F h e) λu=>Zd (Zf (yR u)) λu=>Zd (ev F j e) λv=>Zd (Zf (yR v)) λv=>Zd (Zf (R7 x u v)) λs=>Ze [s]|F,.rev a=>λe=>Zd (ev F a e) λx=>Zd (Zf ((pl x).bind O0)) λs=>Ze [s]|F,.call f as=>λe=>Zd (ev F as e) λl=>Zd (F false f (l.map n5)) λs=>Ze [s]|F,.comp own m p it n q A=>λe=>Zd (ev F n e) λl=>Zd (Zf ((iC l).bind (uy it))) λB=>if B.length<=most then Zd (M.calm (turns (jR (ev F q) (ev F A) p (ì own none++m.map λi=>(e[i]?).getD none)) B)) λC=>Ze [.fr C] else Zg|F,.zget i k=>λe z=>yS k e[i]? z|F,.lrng b as=>λe=>Zd (ev F as e) λl=>Zd (Zf ((iC l).bind O1)) λB=>Ze [S8 b B]|F,.oZ as=>λe=>Zd (ev F as e) λl=>Zd (Zf (iC l)) λds=>Zd (Zf (FU ds)) λs=>Ze [s]|F,.refd m a=>λe=>AM (qv e m) λE=>ev (cT F) a E
def qa(a:Env):Env:=a.map λo=>match o with
 |↑.z=>none|o=>o
def qw(c:Nat):D:=.lst [~~~c]
def eF(F:FT)(b:Env):⇑(Zh × Ex)->Z->Option (Zh × Z)
 |[],z=>↑([],z)
 |(d,a)::r,z=>match qv b d with
  |none=>none
  |↑e=>match ev (cT F) a (e.map some) z with
   |↑(.er c f)=>if c < 12 then(eF F b r f).map λp=>(c::p.1,p.2) else none|_=>none
inductive Sm where
 |nil | seq (s r:Sm)
 |set (p:iD) (e:Ex) | ret (e:Ex) | iff (c:Ex) (t e:Sm)
 |fr (p:iD) (it:It) (src:Ex) (b:Sm)
 |whl (c:Ex) (b:Sm)
 |rais (c:Nat) | exp (e:Ex)
 |app (i:Nat) (e:Ex) | augi (i:Nat) (x e:Ex) | aug (o:Bi) (i:Nat) (e:Ex)
 |newz (i:Nat) (f:Nat) (as:Ex) | zset (i:Nat) (e:Ex)
 |grp (i j k:Nat) (src:Ex)
 |bkt (i j k:Nat) (ns ix:Ex) (r:Sm)
 |lams (i:Nat) (ls:⇑(⇑Nat × Ex)) (g:Option (Nat × Ex)) (e:Ex) (t r:Sm)
def kA:⇑(Int × Zi)->Nat->Zi->⇑(Int × Zi)
 |a,_,[]=>a|a,p,m::r=>kA (gW a m p) (p + 1) r
def iE(ns:Zi):⇑D:=(kA [] 0 ns).map λg=>.tup (g.2.map D.int)
def AN:⇑D->Option S
 |[.lst a]=>match gq a with
  |↑b=>if b.length < 1000 then ↑(.fr (iE b)) else none|none=>none
 |_=>none
inductive O where
 |nx (ρ:Env) | rt (s:S)
def mx(F:FT)(all:⇑(Zh × Ex))(e:Ex)(a c:Env->M O)(f:Env):M O:=λz=>match eF F f all z with
 |none=>none
 |↑(g,h)=>Zd (ev F e f) (λl=>Zd (Zf (pl l)) λd=>Zd (Zf (f9 .ne (.lst (g.map qw)) d)) λb=>Zd (if b then a f else Ze (.nx f)) λo=>match o with
  |.nx f=>c f
  |.rt s=>Ze (.rt s)) h
def uZ(F:FT)(all:⇑(Zh × Ex))(g:Option (Nat × Ex))(e:Ex)(c f:Env->M O)(h:Env):M O:=match g with
 |none=>mx F all e c f h|↑(j,a)=>if j < h.length then Zd (ev F a h) λl=>Zd (Zf ((pl l).bind pZ)) λb=>if b then mx F all e c f (h.set j ↑(.d (.bl b))) else f (h.set j ↑(.d (.bl b))) else Zg
mutual
noncomputable def bare:D->Bool
 |.lst _=>false|.tup l=>dQ l|.dct=>false|_=>true
noncomputable def dQ:⇑D->Bool
 |[]=>true|x::r=>bare x&&dQ r
end
def kC:S->Bool
 |.d x=>bare x|.fr xs=>dQ xs|_=>true
def dO(a:Env):Env:=a.map λo=>o.map n5
def rY(b:Bool):Option S->Option S
 |↑(.fr a)=>↑(if b then .fr a else .d (.lst a))|o=>o
theorem rZ(b:Bool)(a:Env):a.map (rY b)=if b then a else dO a:=by
 rw[show rY b=λo=>if b then o else o.map n5 from funext (λo=>by
  match o with
  |↑(.fr c)=>cases b <;> rfl
  |↑(.d _)=>cases b <;> rfl
  |↑.z=>cases b <;> rfl
  |none=>cases b <;> rfl)];cases b with
 |true=>exact map_id a|false=>rfl
def dP(s:S)(a:Env):Env:=a.map (rY (kC s))
def jS:iD->S->Env->Option Env
 |p,.d x,a=>cz p x a|.v i,s,a=>if i < a.length then ↑(a.set i ↑s) else none|_,_,_=>none
def qx(f:D->Env->M O):⇑D->Env->M O
 |[],a=>Ze (.nx a)
 |x::r,a=>Zd (f x a) λo=>match o with
  |.nx a=>qx f r a|.rt s=>Ze (.rt s)
def DD(c:Env->M ⇑S)(f:Env->M O):Nat->Env->M O
 |0,_=>Zg
 |n + 1,a=>Zd (c a) λx=>Zd (Zf ((pl x).bind pZ)) λk=>if k then Zd (f a) λo=>match o with
  |.nx a=>DD c f n a|.rt s=>Ze (.rt s)
  else Ze (.nx a)
def ownAt(a:Env)(i:Nat):Option ⇑D:=match a[i]? with
 |↑↑(.fr b)=>↑b|_=>none
def sg(a:⇑D)(i:Int)(y:D):Option ⇑D:=(Ek a.length i).map λj=>a.set j y
def FV:D->Bool
 |.tup l=>dQ l|.lst l=>dQ l|_=>true
def sh(l:⇑S):Bool:=match iC l with
 |↑ds=>ds.all FV|none=>false
def KO:S->Option S
 |.z=>none|s=>↑s
def FW:(it:It)->(e:Ex)->Option {i:Nat // it=.seq/\e=.cons (.var i) .nil}
 |.seq,.cons (.var i) .nil=>↑#[i,rfl,rfl]|_,_=>none
def pB:⇑S->Bool
 |[]=>false|.d (.lst _)::_=>true|_::r=>pB r
def sj(it:It)(e:Ex)(l:⇑S)(a:Env):Env:=match FW it e with
 |↑i=>a.set i.1 ((a[i.1]?.getD none).map n5)
 |none=>match pB l with
  |true=>dO a|false=>a
def BW(it:It)(e:Ex)(l:⇑S)(a:Env):Env:=(sj it e l a).map (rY (sh l))
abbrev DE:Nat:=20000
def u0(a:Bool)(c:Env)(i:Nat):⇑S->Option (R O)
 |[.fr [~~~n,.bl b]]=>if a then ↑(.ok (.nx ((qa c).set i ↑.z)) ↑(n,b)) else none|_=>none
def BX(a:Env)(v:Int):Option (Option S)->Z->Option (R O)
 |↑↑.z,↑p=>↑(.ok (.nx a) ↑(v,p.2))|_,_=>none
def FY(bs:⇑⇑D)(n:Int)(x:D):Option ⇑⇑D:=if 0<=n/\n < bs.length/\(bs.getD n.toNat []).length < most then ↑(bs.set n.toNat (bs.getD n.toNat []++[x])) else none
def yT(F:FT)(j:Nat)(a:Ex)(b:Env):⇑D->⇑⇑D->(⇑⇑D->M O)->M O
 |[],bs,k=>k bs|x::r,bs,k=>Zd (ev F a (b.set j ↑(.d x))) λl=>Zd (Zf (((pl l).bind wL).bind λn=>FY bs n x)) λbs=>yT F j a b r bs k
def rowAt(a:Env)(k:Nat):Option ⇑D:=match a[k]? with
 |↑↑(.d (.lst b))=>↑b|_=>none
def Je(a:⇑D):Option ⇑D:=if a.length<=1000 then ↑a else none
def DF(F:FT)(i j k:Nat)(a b:Ex)(c:Env->M O)(e:Env):M O:=if i < e.length/\j < e.length/\i≠j/\k≠i/\k≠j then Zd (ev F a (dO e)) λl=>Zd (Zf (((iC l).bind (uy .rng1)).bind Je)) λf=>Zd (Zf (rowAt (dO e) k)) λg=>yT F j b ((dO e).set i none) g (ì f.length []) λbs =>
 c (((dO e).set i ↑(.d (.lst (bs.map D.lst)))).set j none) else Zg
def ex(F:FT)(a:Bool):Sm->Env->M O
 |.nil=>λd=>Ze (.nx d)
 |.seq s r=>λd=>Zd (ex F a s d) λo=>match o with
  |.nx d=>ex F a r d|.rt s=>Ze (.rt s)
 |.set p e=>λd=>Zd (ev F e d) λl=>Zd (Zf (one l)) λs=>Zd (Zf (jS p s (dP s d))) λd=>Ze (.nx d)
 |.ret e=>λd=>match e with
  |.var i=>(match d[i]? with
   |↑↑s=>Zd (Zf (KO s)) λs=>Ze (.rt s)
   |_=>Zg)
  |e=>Zd (ev F e d) λl=>Zd (Zf ((one l).bind KO)) λs=>Ze (.rt s)
 |.iff c t e=>λd=>Zd (ev F c d) λx=>Zd (Zf ((pl x).bind pZ)) λc=>if c then ex F a t d else ex F a e d|.fr p it src b=>λd=>Zd (ev F src d) λl=>Zd (Zf ((iC l).bind (uy it))) λh=>qx (λx d=>Zd (Zf (cz p x d)) λd=>ex F a b d) h (BW it src l d)|.lams i m g e t r=>λd=>if i < d.length then uZ F m g e (ex F a t) (ex F a r) (d.set i none) else Zg|.whl c b=>λd=>DD (ev F c) (ex F a b) DE d|.rais c=>λ_ z=>↑(.er c z)|.exp e=>λd=>Zd (ev F e d) λl=>Zd (Zf (one l)) λ_=>Ze (.nx d)|.app i e=>λd=>Zd (Zf (ownAt d i)) λh=>Zd (ev F e d) λl=>Zd (Zf (pl l)) λx=>if bare x=true/\h.length < most then Ze (.nx (d.set i ↑(.fr (h++[x])))) else Zg
 |.augi i n e=>λd=>Zd (Zf (ownAt d i)) λh=>Zd (ev F n d) λj=>Zd (Zf ((pl j).bind wL)) λj=>Zd (Zf (Ai h j)) λy=>Zd (ev F e d) λl=>Zd (Zf (pl l)) λx =>
   Zd (Zf ((wL x).bind λx=>(wL y).map λy=>D.int (y + x))) λv=>Zd (Zf (sg h j v)) λh=>Ze (.nx (d.set i ↑(.fr h)))
 |.aug o i e=>λd=>Zd (Zf ((d[i]?.getD none).bind FK)) λy=>Zd (ev F e d) λl=>Zd (Zf ((pl l).bind wL)) λx=>Zd (Zf ((wL y).bind λy=>eR o (~~~y) (~~~x))) λs=>Zd (Zf (jS (.v i) s (dP s d))) λd=>Ze (.nx d)|.newz i f as=>λd=>Zd (ev F (.call f as) d) λl=>λ_=>u0 a d i l|.zset i e=>λd=>Zd (ev F e d) λl=>Zd (Zf ((pl l).bind wL)) λv=>λz=>BX d v d[i]? z|.grp i j k src=>λd=>if i < d.length/\j < d.length/\k < d.length then Zd (ev F (.cons src .nil) (d.set i none)) λl=>Zd (Zf ((iC l).bind AN)) λs=>Ze (.rt s) else Zg|.bkt i j k ns n r=>λd=>DF F i j k ns n (ex F a r) d
inductive Df where
 |code (ps ns:Nat) (b:Sm) | prim (f:⇑S->M S)
def mm:Z->Z->Z
 |none,_=>none|↑_,z=>z
def start(a:Nat)(l:⇑S):Env:=l.map some++ì (a - l.length) none
def run(F:FT):Df->⇑S->M S
 |.code a e b,l=>λz=>if l.length=a/\a<=e then(match ex F z.isNone b (start e (l.map n5)) z with
  |↑(.ok (.nx _) g)=>↑(.ok (.d .cD) (mm z g))|↑(.ok (.rt s) g)=>↑(.ok s (mm z g))|↑(.er c g)=>↑(.er c (mm z g))
  |none=>none) else none
 |.prim f,l=>f l
def au(T:⇑Df):Nat->Nat->⇑S->M S
 |k + 3,f,l=>match T[f]? with
  |↑d=>run (λb g m=>match b with | true=>au T k g m | false=>au T (k + 2) g m) d l
  |none=>Zg
 |_,_,_=>Zg
abbrev jY(T:⇑Df)(k:Nat):FT:=λb g m=>match b with | true=>au T (k - 2) g m | false=>au T k g m
theorem yU(T:⇑Df)(k f:Nat)(l:⇑S):au T (k + 3) f l=match T[f]? with
  |↑d=>run (jY T (k + 2)) d l|none=>Zg:=rfl
end Q
namespace Q
open PySem L2 PySem.Spec PyProof.Rows
def cO(K:Ã)(H:Hp)(a:È)(b:⇑V):Prop:=Rd H a (.lst b)∨∃ (c:Zp) (n:Nat),K.lookup a=↑{ cls:=.type "list",data:=.seq c n }/\c.size<=sizeLine/\Vals b c.toList
theorem cO.of{K:Ã}{H:Hp}{a:È}{b:⇑V}(h:H a=↑(.lst b)):cO K H a b:=.inl (.inl h)
theorem cO.sq{K:Ã}{H:Hp}{a:È}{xs:⇑V}(h:cO K H a xs):gU K H a xs:=by
 rcases h with h | ⟨b,n,c,d,e⟩
 .exact .inl h
 .exact .inr #[_,b,n,c,rfl,rfl,rfl,d,e]
theorem cO.same{K:Ã}{H b:Hp}{a:È}{c:⇑V}(h:cO K H a c)(e:ae H b):cO K b a c:=by
 rcases h with (h | ⟨o,h⟩) | h
 .exact .inl (.inl (e _ _ h))
 .exact .inl (.inr #[o,e _ _ h])
 .exact .inr h
theorem cO.mem(I:Inv X b σ H s)(h:cO X.K H a xs):xs.length<=sizeLine/\∃ (c:Zk) (n:Nat),Vals xs c/\xs.length=c.length/\s.heap.get? a=↑{ cls:=.type "list",data:=.seq c.toArray n }:=by
 rcases h with (h | ⟨o,h⟩) | ⟨c,n,d,f,g⟩
 .exact I.wg h
 .let(e,z,c,n,r,i):=I.aM a _ h;exact#[z,c,n,r,r.length,i]
 .refine#[by rw[g.length];exact f,c.toList,n,g,g.length,?_]
  have:=I.lF a _ d
  simp_all
mutual
def Hd(K:Ã)(H:Hp):D->V->Prop
 |.cD,v=>v=.cD|.bl b,v=>v=.bl b|~~~i,v=>v= ~~~i|.str x,v=>v=.str x|.tup ds,v=>∃ a c,v=↥a/\dY K H a c/\aN K H ds c|.lst ds,v=>∃ a c,v=↥a/\cO K H a c/\aN K H ds c|.dct,v=>∃ a e,v=↥a/\H a=↑(.dK e)
def aN(K:Ã)(H:Hp):⇑D->⇑V->Prop
 |[],c=>c=[]|d::ds,c=>∃ x r,c=x::r/\Hd K H d x/\aN K H ds r
end
section
variable {K:Ã}{H H':Hp}
mutual
theorem Hd.same(e:ae H H'):∀ {d:D}{v:V},Hd K H d v->Hd K H' d v
 |.cD,_,h=>by unfold Hd at h ⊢;exact h|.bl _,_,h=>by unfold Hd at h ⊢;exact h|~~~_,_,h=>by unfold Hd at h ⊢;exact h|.str _,_,h=>by unfold Hd at h ⊢;exact h
 |.tup ds,_,h=>by
  unfold Hd at h ⊢;let(a,b,rfl,c,f):=h;exact#[a,b,rfl,e.j6 c,aN.same e f]
 |.lst ds,_,h=>by
  unfold Hd at h ⊢;let(a,b,rfl,c,f):=h;exact#[a,b,rfl,c.same e,aN.same e f]
 |.dct,_,h=>by
  unfold Hd at h ⊢;let(a,g,rfl,c):=h;exact#[a,g,rfl,e _ _ c]
theorem aN.same(e:ae H H'):∀ {ds:⇑D}{b:⇑V},aN K H ds b->aN K H' ds b
 |[],_,h=>by unfold aN at h ⊢;exact h
 |d::ds,_,h=>by
  unfold aN at h ⊢;let(x,r,rfl,c,f):=h;exact#[x,r,rfl,Hd.same e c,aN.same e f]
end
mutual
theorem Hd.has:∀ {d:D}{v:V},Hd K H d v->Fg K H d v
 |.cD,_,h=>by unfold Hd at h;unfold Fg;exact h|.bl _,_,h=>by unfold Hd at h;unfold Fg;exact h|~~~_,_,h=>by unfold Hd at h;unfold Fg;exact h|.str _,_,h=>by unfold Hd at h;unfold Fg;exact h
 |.tup ds,_,h=>by
  unfold Hd at h;unfold Fg;let(a,b,rfl,c,e):=h;exact#[a,b,rfl,c,aN.has e]
 |.lst ds,_,h=>by
  unfold Hd at h;unfold Fg;let(a,b,rfl,c,e):=h;exact#[a,b,rfl,c.sq,aN.has e]
 |.dct,_,h=>by unfold Hd at h;unfold Fg;exact h
theorem aN.has:∀ {ds:⇑D}{b:⇑V},aN K H ds b->pg K H ds b
 |[],_,h=>by unfold aN at h;unfold pg;exact h
 |d::ds,_,h=>by
  unfold aN at h;unfold pg;let(x,r,rfl,c,e):=h;exact#[x,r,rfl,Hd.has c,aN.has e]
end
theorem aN.nil:aN K H [] []:=rfl
theorem aN.cons(h:Hd K H d x)(r:aN K H ds xs):aN K H (d::ds) (x::xs):=by exact#[x,xs,rfl,h,r]
theorem aN.aU(h:aN K H (d::ds) xs):∃ x r,xs=x::r/\Hd K H d x/\aN K H ds r:=by exact h
theorem aN.bR(h:aN K H [] xs):xs=[]:=by exact h
theorem aN.length:∀ {ds:⇑D}{xs:⇑V},aN K H ds xs->xs.length=ds.length
 |[],_,h=>by rw[h.bR];rfl
 |d::ds,_,h=>by
  let(x,r,rfl,_,a):=h.aU;simp[a.length]
theorem aN.get:∀ {ds:⇑D}{xs:⇑V}{i:Nat}{d:D},aN K H ds xs->ds[i]?=↑d->∃ x,xs[i]?=↑x/\Hd K H d x
 |[],_,_,_,_,e=>by simp at e
 |d::ds,_,i,d',h,e=>by
  let(y,r,rfl,h1,h2):=h.aU;cases i with
  |zero=>simp at e;subst e;exact#[y,rfl,h1]
  |succ i =>
   let(x',e1,e2):=aN.get  h2 (e);exact#[x',e1,e2]
theorem aN.append:∀ {ds a:⇑D}{b c:⇑V},aN K H ds b->aN K H a c->aN K H (ds++a) (b++c)
 |[],_,_,_,h,g=>by rw[h.bR];exact g
 |d::ds,_,_,_,h,g=>by
  let(x,r,rfl,e,f):=h.aU;exact .cons e (aN.append f g)
theorem aN.take:∀ {ds:⇑D}{a:⇑V} (n:Nat),aN K H ds a->aN K H (ds.take n) (a.take n)
 |ds,a,0,_=>rfl|[],_,n + 1,h=>by rw[h.bR];exact .nil
 |d::ds,_,n + 1,h=>by
  let(x,r,rfl,b,c):=h.aU;exact .cons b (aN.take n c)
theorem aN.drop:∀ {ds:⇑D}{a:⇑V} (n:Nat),aN K H ds a->aN K H (ds.drop n) (a.drop n)
 |ds,a,0,h=>by simp_all|[],_,n + 1,h=>by rw[h.bR];exact .nil
 |d::ds,_,n + 1,h=>by
  let(x,r,rfl,b,c):=h.aU;exact aN.drop n c
theorem aN.reverse:∀ {ds:⇑D}{a:⇑V},aN K H ds a->aN K H ds.reverse a.reverse
 |[],_,h=>by rw[h.bR];exact .nil
 |d::ds,_,h=>by
  let(x,r,rfl,b,c):=h.aU;rw[Y9,Y9];exact(aN.reverse c).append (.cons b .nil)
theorem aN.rep(h:aN K H ds xs):∀ n:Nat,aN K H (ì n ds).flatten (ì n xs).flatten
 |0=>rfl|n + 1=>by exact h.append (h.rep n)
theorem aN.set:∀ {ds:⇑D}{xs:⇑V}{d:D}{x:V} (i:Nat),aN K H ds xs->Hd K H d x->aN K H (ds.set i d) (xs.set i x)
 |[],_,_,_,_,h,_=>by rw[h.bR];exact .nil
 |e::ds,_,d,x,i,h,g=>by
  let(y,r,rfl,h1,h2):=h.aU;cases i with
  |zero=>exact .cons g h2|succ i=>exact .cons h1 (aN.set i h2 g)
theorem aN.ints:∀ a:Zi,aN K H (a.map D.int) (a.map V.int)
 |[]=>.nil|n::r=>.cons (rfl) (aN.ints r)
theorem Hd.bK(h:Hd K H (~~~i) v):v= ~~~i:=by exact h
theorem Hd.yV(h:Hd K H (.bl b) v):v=.bl b:=by exact h
theorem Hd.O2(h:Hd K H .cD v):v=.cD:=by exact h
theorem Hd.O3(h:Hd K H (.str x) v):v=.str x:=by exact h
theorem Hd.fW(h:Hd K H (.tup ds) v):∃ a b,v=↥a/\dY K H a b/\aN K H ds b:=by exact h
theorem Hd.jZ(h:Hd K H (.lst ds) v):∃ a b,v=↥a/\cO K H a b/\aN K H ds b:=by exact h
theorem Hd.int:Hd K H (~~~i) (~~~i):=rfl
theorem Hd.bl:Hd K H (.bl b) (.bl b):=rfl
theorem Hd.cD:Hd K H .cD .cD:=rfl
theorem Hd.str{x:Str}:Hd K H (.str x) (.str x):=rfl
theorem Hd.tup(h:dY K H a xs)(r:aN K H ds xs):Hd K H (.tup ds) ↥a:=by exact#[a,xs,rfl,h,r]
theorem Hd.lst(h:H a=↑(.lst xs))(r:aN K H ds xs):Hd K H (.lst ds) ↥a:=by exact#[a,xs,rfl,cO.of h,r]
end
def BY(H:Hp):Hp:=λb=>match H b with
 |↑(.cK _)=>none|o=>o
set_option tactic.hygienic true in
theorem sk(h:BY H b=↑o):H b=↑o/\∀ a,o≠.cK a:=by
 delta BY at h
 split at h
 .cases h
 simp_all
theorem wQ(h:H b=↑o)(n:∀ a,o≠.cK a):BY H b=↑o:=by
 delta BY
 simp_all
theorem i5(H:Hp):ae (BY H) H:=λ_ _ h=>(sk h).1
theorem yW(e:ae H a):ae (BY H) (BY a):=λb o h=>wQ (e b o (sk h).1) (sk h).2
def hz(zA:Zl)(H:Hp):Hp:=match zA with
 |↑a=>hide a (BY H)|none=>BY H
class Tb where
 tb:⇑(Addr × Str)
variable [TB:Tb]
def Q2(c:Zl)(z:Z)(H:Hp):Prop:=match c,z with
 |↑a,↑(n,b)=>H a=↑(.lst [~~~n,.bl b])|none,none=>True|_,_=>False
structure aF(zA:Option Addr)(z:Z)(H:Hp):Prop where
 zat:Q2 zA z H
 tab:∀ p∈TB.tb,Tab H p.1 p.2
theorem ak(b:Zl)(H:Hp):ae (hz b H) H:=by
 cases b with
 |none=>exact i5 H|some a=>exact ae.trans (cm a _) (i5 H)
theorem d9(e:ae H c):ae (hz d H) (hz d c):=by
 cases d with
 |none=>exact yW e|some a=>exact ph λb o _ h=>yW e b o h
theorem aV(h:H b=↑o)(n:c≠↑b)(d:∀ f,o≠.cK f:=by exact λ_ h=>nomatch h):hz c H b=↑o:=by
 cases c with
 |none=>exact wQ h d|some a=>exact fU (wQ h d) λe=>n (by rw[e])
theorem bZ(h:hz c H b=↑o):H b=↑o/\c≠↑b:=by
 cases c with
 |none=>exact#[i5 H b o h,λe=>nomatch e]
 |some a =>
  refine#[i5 H b o (cm a _ b o h),λe=>?_];cases e;have:hide b _ b=↑o:=h;unfold hide at this
  grind
theorem ck(h:hz c H b=↑o):∀ d,o≠.cK d:=by
 cases c with
 |none=>exact(sk h).2|some a=>exact(sk (cm a _ b o h)).2
structure Ext(zA:Option Addr)(H H':Hp):Prop where
 same:ae (hz zA H) (hz zA H')
 cK:∀ b ps,H b=↑(.cK ps)->∃ qs,H' b=↑(.cK qs)
instance {zA:Zl}{H H':Hp}:CoeFun (Ext zA H H') (λ_=>∀ b o,hz zA H b=↑o->hz zA H' b=↑o):=⟨λx=>x.same⟩
instance {zA:Zl}{H H':Hp}:CoeOut (Ext zA H H') (ae (hz zA H) (hz zA H')):=⟨λx=>x.same⟩
theorem Ext.refl:Ext a H H:=#[ae.refl _,λb c h=>#[c,h]]
theorem Ext.trans(a:Ext d H H1)(b:Ext d H1 e):Ext d H e:=#[ae.trans a.same b.same,λc f h=>let #[g,i]:=a.cK c f h;b.cK c g i]
theorem Ext.of(e:ae H a):Ext c H a:=#[d9 e,λb d h=>#[d,e b _ h]]
theorem Ext.at(e:Ext zA H b)(h:H a=↑o)(n:zA≠↑a)(c:∀ ps,o≠.cK ps:=by exact λ_ h=>nomatch h):b a=↑o:=(bZ (e.same a o (aV h n c))).1
theorem Ext.free(e:Ext b H c)(h:c a=none)(n:b≠↑a):H a=none:=by
 cases q:H a with
 |none=>rfl
 |some o =>
  by_cases d:∃ f,o=.cK f
  .let(f,rfl):=d;let(g,i):=e.cK a f q;rw[i] at h;cases h
  .rw[e.at q n λf z=>d #[f,z]] at h;cases h
theorem Q2.same(h:Q2 b z H)(e:ae H c):Q2 b z c:=by
 cases b with
 |none=>cases z with
  |none=>trivial|some _=>exact h.elim
 |some a=>cases z with
  |none=>exact h.elim|some p=>exact e _ _ h
theorem aF.same(h:aF a z H)(e:ae H b):aF a z b:=#[h.zat.same e,λp c=>(h.tab p c).same e]
theorem Tab.upd{H:Hp}{P a:È}{q:Str}{d:⇑V}{o:HO}(t:Tab H P q)(h:H a=↑(.lst d)):Tab (upd H a o) P q:=by
 let(f,e,g,k):=t;have ne:∀ {b:È}{u:HO},H b=↑u->(∀ l,u≠.lst l)->b≠a:=λ{b u} i j z=>by grind
 refine#[f,by rw[ag (ne e λ_ z=>nomatch z)];exact e,g,λpos c m=>?_]
 let(n,i,j):=k pos c m;exact#[n,i,by rw[ag (ne j λ_ z=>nomatch z)];exact j]
theorem aF.yX{K:Ã}{b:Zl}{z:Z}{H:Hp}(h:aF b z H){a:È}{c:⇑V}(t:dY K H a c):dY K (hz b H) a c:=by
 have h:=h.zat;rcases t with (t | ⟨o,t⟩) | t
 .refine .inl (.inl (aV t λe=>?_));subst e;cases z with
  |none=>exact h.elim
  |some p =>
   have d:H a=↑_:=h;rw[t] at d;cases d
 .refine .inl (.inr #[o,aV t λe=>?_]);subst e;cases z with
  |none=>exact h.elim
  |some p =>
   have d:H a=↑_:=h;rw[t] at d;cases d
 .exact .inr t
theorem aF.mR(h:aF b z H)(n:H a=none):b≠↑a:=λe=>by
 have h:=h.zat;subst e;cases z with
 |none=>exact h.elim
 |some p =>
  have c:H a=↑_:=h;rw[n] at c;cases c
def my(K:Ã)(b:Zl)(c H:Hp):S->V->Prop
 |.d x,v=>Hd K (hz b H) x v|.fr xs,v=>∃ a e,v=↥a/\c a=none/\b≠↑a/\H a=↑(.lst e)/\aN K (hide a (hz b H)) xs e|.z,v=>∃ a,b=↑a/\v=↥a
def wU(K:Ã)(b:Zl)(H:Hp):S->V->Prop
 |.d x,v=>Hd K (hz b H) x v|.fr xs,v=>Hd K (hz b H) (.lst xs) v|.z,v=>∃ a,b=↑a/\v=↥a
section
variable {K:Ã}{zA:Zl}{H0 H H':Hp}
theorem my.pl{s:S}{v:V}(h:my K zA H0 H s v):wU K zA H s v:=by
 cases s with
 |d x=>exact h|z=>exact h
 |fr b =>
  let(a,c,rfl,_,e,f,g):=h;exact Hd.lst (aV f e) (g.same (cm a _))
theorem wU.n5{s:S}{v:V}(h:wU K zA H s v):wU K zA H (n5 s) v:=by cases s <;> exact h
theorem wU.mono{s:S}{v:V}(h:wU K zA H s v)(e:Ext zA H H'):wU K zA H' s v:=by
 cases s with
 |d x=>exact Hd.same e h|z=>exact h|fr xs=>exact Hd.same e h
theorem my.mono{s:S}{v:V}(h:my K zA H0 H s v)(e:Ext zA H H'):my K zA H0 H' s v:=by
 cases s with
 |d x=>exact Hd.same e h|z=>exact h
 |fr c =>
  let(a,f,rfl,g,i,j,k):=h;exact#[a,f,rfl,g,i,e.at j i,k.same (ph λb o _ q=>e b o q)]
theorem my.from{b:Hp}{s:S}{v:V}(h:my K zA b H s v)(e:Ext zA H0 b):my K zA H0 H s v:=by
 cases s with
 |d x=>exact h|z=>exact h
 |fr c =>
  let(a,f,rfl,g,i,j):=h;exact#[a,f,rfl,e.free g i,i,j]
theorem wU.d_{s:S}{v:V}{x:D}(h:wU K zA H s v)(e:FK s=↑x):Hd K (hz zA H) x v:=by
 cases s with
 |d y=>cases e;exact h
 |fr a=>cases e;exact h
 |_=>cases e
end
abbrev u6(K:Ã)(a:Zl)(H:Hp):⇑S->⇑V->Prop:=UJ (wU K a H)
theorem u6.mono{K:Ã}{a:Zl}{H b:Hp}{l:⇑S}{c:⇑V}(h:u6 K a H l c)(e:Ext a H b):u6 K a b l c:=UJ.Aj h λ_ _ q=>q.mono e
theorem u6.n5{K:Ã}{a:Zl}{H:Hp}:∀ {l:⇑S}{b:⇑V},u6 K a H l b->u6 K a H (l.map n5) b
 |_,_,.nil=>.nil|_,_,.cons r t=>.cons r.n5 (u6.n5 t)
theorem u6.ds{K:Ã}{a:Zl}{H:Hp}:∀ {l:⇑S}{b:⇑V}{ds:⇑D},u6 K a H l b->iC l=↑ds->aN K (hz a H) ds b:=by
 intro l b ds h
 induction h generalizing ds with
 |nil=>intro e;cases e;exact .nil
 | @cons x _ _ _ h _ i =>
  intro e;cases x with
  |d x =>
   simp[iC,XX] at e;let(l,e,rfl):=e;exact .cons h (i e)
  |fr x =>
   simp[iC,XX] at e;let(l,e,rfl):=e;exact .cons h (i e)
  |_=>simp[iC] at e
theorem bJ(h:pl l=↑x):∃ s,l=[s]/\FK s=↑x:=by
 delta pl at h
 split at h
 .exact#[_,rfl,h]
 .exact#[_,rfl,h]
 .cases h
theorem M.bind_some{b d:Type}{m:M b}{f:b->M d}{z:Z}{r:R d}(h:Zd m f z=↑r):(∃ a z1,m z=↑(.ok a z1)/\f a z1=↑r)∨(∃ c z1,m z=↑(.er c z1)/\r=.er c z1):=by
 delta Zd at h
 split at h
 .exact .inl #[_,_,by assumption,h]
 .cases h;exact .inr #[_,_,by assumption,rfl]
 .cases h
theorem M.ai{b c:Type}{o:Option b}{f:b->M c}{z:Z}{r:R c}(h:Zd (Zf o) f z=↑r):∃ a,o=↑a/\f a z=↑r:=by
 cases o with
 |none=>cases h
 |some a=>exact#[a,rfl,h]
end Q
set_option exponentiation.threshold 5000
namespace Q
open PySem L2 PySem.Spec PyProof.Rows
variable [TB:Tb]
section
variable {K:Ã}{zA:Zl}{z:Z}{H:Hp}
theorem FZ(a:H p=none):ae (hz zA H) (hide p (hz zA (upd H p o))):=λb u e=>by
 let(c,d):=bZ e;have f:b≠p:=λq=>by simp_all
 exact fU (aV (by rw[ag f];exact c) d (ck e)) f
theorem eA:my K zA a H (.d (~~~i)) (~~~i):=Hd.int (K:=K) (H:=hz zA H)
theorem di:my K zA a H (.d (.bl b)) (.bl b):=Hd.bl (K:=K) (H:=hz zA H)
theorem sr(h:Hd K (hz zA H) x v):my K zA a H (.d x) v:=h
theorem cQ(a:aF zA z H)(h:aN K (hz zA H) xs b)(c:H p=none):my K zA H (upd H p (.lst b)) (.fr xs) ↥p :=
 #[p,b,rfl,c,a.mR c,ao,h.same (FZ c)]
theorem tupQ(a:aF zA z H)(h:aN K (hz zA H) xs b)(q:∀ v c,ae H c->my K zA H c (.d (.tup xs)) v->Q v c):wx K H b Q :=
 λp c e f=>q _ _ e (sr (Hd.tup ((a.same e).yX f) (h.same (d9 e))))
end
inductive su (K:PySem.W.Frag) (f:D->D->Option S) (x:V) (y:V) (H:Hp) (Q:VK):Prop where
 |mk (zA z dx dy s) (h0_:aF zA z H) (h1_:Hd K (hz zA H) dx x) (h2_:Hd K (hz zA H) dy y) (h3_:f dx dy=↑s) (h4_:∀ v H',ae H H'->my K zA H H' s v->Q v H'):su K f x y H Q
inductive DG (K:PySem.W.Frag) (f:⇑D->Option S) (xs:⇑V) (H:Hp) (Q:VK):Prop where
 |mk (zA z ds s) (h0_:aF zA z H) (h1_:aN K (hz zA H) ds xs) (h2_:f ds=↑s) (h3_:∀ v H',ae H H'->my K zA H H' s v->Q v H'):DG K f xs H Q
section
variable {X:Cx}
theorem bits_le(h:k.natAbs < mP):Builtin.Int.intBits k<=4000:=by
 delta Builtin.Int.intBits
 split
 .exact Vl _
 .exact (by
   rcases Nat.eq_zero_or_pos k.natAbs with b | c
   .rw[b];decide
   .exact(Nat.log2_lt (Vx c)).mpr h)
theorem F3(a:i.natAbs < mP)(b:j.natAbs < mP):IntMulOk i j:=by
 have c:=bits_le a;have d:=bits_le b;intro h;rw[Á] at h;have e:=h.2;unfold Builtin.Int.intTooBig at e;have:(8000:Nat) < bitsLine:=by decide
 omega
theorem DH(a:j.natAbs < mP):Builtin.divisionGoesByPylong i j=false:=by
 apply PyProof.noPylong_of_log2;rcases Nat.eq_zero_or_pos j.natAbs with b | c
 .rw[b];decide
 .exact Ò ((Nat.log2_lt (Vx c)).mpr a) (_e (Ui _))
theorem dG(h:n<=most):n<=sizeLine:=â h (-0)
inductive F4 (K:PySem.W.Frag) (x:V) (y:V) (H:Hp) (Q:VK):Prop where
 |mk (l b xs zs) (h0_:x=↥l) (h1_:y=↥b) (h2_:cO K H l xs) (h3_:cO K H b zs) (h4_:xs.length + zs.length<=sizeLine) (h5_:∀ p,H p=none->Q ↥p (upd H p (.lst (xs++zs)))):F4 K x y H Q
inductive F5 (K:PySem.W.Frag) (x:V) (y:V) (H:Hp) (Q:VK):Prop where
 |mk (l k xs) (h0_:x=↥l) (h1_:y= ~~~k) (h2_:cO K H l xs) (h3_:-(2 ^ 63)<=k) (h4_:k < 2 ^ 63) (h5_:xs.length * k.toNat<=sizeLine) (h6_:∀ p,H p=none->Q ↥p (upd H p (.lst (replicate k.toNat xs).flatten))):F5 K x y H Q
theorem Jf:gS X (UT .Add) (F4 X.K):=by
 intro a s c H x y v u Q I d f h;let(l,b,g,i,rfl,rfl,j,k,hz,q):=h;subst d;subst f;let(z,m,n,r,o,e):=j.mem I;let(p,A,n2,B,C,E):=k.mem I;refine Yn e E ?_ (by grind)
 rw[(⋯:m.toArray++A.toArray=(m++A).toArray)];exact#[↥_,_,I.Dc  (r.append B) (by rw[õ];exact hz),rfl,q _ I.fresh]
theorem Jg:gS X (UT .Mult) (F5 X.K):=by
 intro aa s σ H x y v u Q I rx ry h;let(l,k,xs,rfl,rfl,hH,h1,h2,hz,q):=h;subst rx;let(t,rfl):=ry;let(z,ar,n,r,hl,e):=hH.mem I;have hlen:ar.toArray.size * k.toNat<=sizeLine:=by simp_all
 refine WL   (-0) #[_,e,rfl] (λs'=>Xb s' k t) noFill_list_mul F.fills_int_mul VR repeat_list Y6.lookup
  (UU VR (Xb s k t) Y7 (YO _ _) (int___rmul___int_list k t l ar.toArray n)
   #[e,rfl,#[_,e,rfl],UU F.slot_list_mul #[_,e,rfl] F.entry_list_mul (F.args_list_mul_2 _ _) (AutoListH.list___mul___list_int_3 l ar.toArray n k t (by
  rw[fitsIndex_both h1 h2];exact ê) (by
  exact _p (â hlen (by decide))) (by
  rw[yq hlen];exact ê)) #[e,?_]])
 rw[(by
  have f0 :=λm=>by
   have:=foldl_rep ar m [];rw[V8] at this;exact this
  rw[f0];cases ar with
  |nil=>simp|cons a r'=>rw[Zw ⋯]:foldl _ _ _=(ì k.toNat ar).flatten.toArray)];exact#[↥_,_,I.Dc  (r.rep k.toNat) (by rw[len_rep,YU];exact hz),rfl,q _ I.fresh]
theorem Jh:gS X (UT .Add) (su X.K (eR .add)):=by
 intro c s d H x y v u Q I f g h;let(k,z,l,m,w,n,o,A,e,q):=h;cases l with
 |int i =>
  cases m with
  |int j =>
   cases e;cases o.bK;cases A.bK;exact Lz c s d H _ _ v u Q I f g #[i,j,rfl,rfl,q _ _ (ae.refl H) eA]
  |_=>cases e
 |tup a =>
  cases m with
  |tup b =>
   let(B,e):=bC e;cases e;let(p,C,rfl,E,F):=o.fW;let(G,J,rfl,L,N):=A.fW;exact II c s d H _ _ v u Q I f g #[p,G,C,J,rfl,rfl,(ak k H).j6 E,(ak k H).j6 L,dG (by rw[F.length,N.length];exact B),tupQ n (F.append N) q]
  |_=>cases e
 |lst a =>
  cases m with
  |lst b =>
   let(B,e):=bC e;cases e;let(p,C,rfl,E,F):=o.jZ;let(G,J,rfl,L,N):=A.jZ;exact Jf c s d H _ _ v u Q I f g #[p,G,C,J,rfl,rfl,E.same (ak k H),L.same (ak k H),dG (by rw[F.length,N.length];exact B),λr P=>q _ _ (ae.new _ P) (cQ n (F.append N) P)]
  |_=>cases e
 |_=>cases e
theorem Ji:gS X (UT .Sub) (su X.K (eR .sub)):=by
 intro a s b H x y v u Q I c d h;let(f,z,g,k,w,l,m,n,e,q):=h;cases g with
 |int i =>
  cases k with
  |int j =>
   cases e;cases m.bK;cases n.bK;exact LA a s b H _ _ v u Q I c d #[i,j,rfl,rfl,q _ _ (ae.refl H) eA]
  |_=>cases e
 |_=>cases e
theorem Jj:gS X (UT .Mult) (su X.K (eR .mul)):=by
 intro b s c H x y v u Q I d f h;let(g,z,k,l,w,m,n,o,e,q):=h;cases k with
 |int i =>
  cases l with
  |int j =>
   let(A,e):=bC e;cases e;cases n.bK;cases o.bK;let(t,rfl):=d;let(B,rfl):=f;exact mul_int #[~~~_,H,I.tok _,#[_,rfl],q _ _ (ae.refl H) eA] (F3 A.1 A.2)
  |_=>cases e
 |tup a =>
  cases l with
  |int j =>
   let(A,e):=bC e;cases e;cases o.bK;let(p,C,rfl,E,F):=n.fW;exact IJ b s c H _ _ v u Q I d f #[p,j,C,rfl,rfl,(ak g H).j6 E,A.1,A.2.2,dG (by rw[F.length];exact A.2.1),tupQ m (F.rep _) q]
  |_=>cases e
 |lst a =>
  cases l with
  |int j =>
   let(A,e):=bC e;cases e;cases o.bK;let(p,C,rfl,E,F):=n.jZ;exact Jg b s c H _ _ v u Q I d f #[p,j,C,rfl,rfl,E.same (ak g H),by omega,by omega,dG (by rw[F.length,YU];exact A.2.1),λr G=>q _ _ (ae.new _ G) (cQ m (F.rep _) G)]
  |_=>cases e
 |_=>cases e
theorem F6:gS X (UT .FloorDiv) (su X.K (eR .fdiv)):=by
 intro a s b H x y v u Q I c d h;let(f,z,g,k,w,l,m,n,e,q):=h;cases g with
 |int i =>
  cases k with
  |int j =>
   let(o,e):=bC e;cases e;cases m.bK;cases n.bK;let(t,rfl):=c;let(p,rfl):=d;refine floordiv_int ∅ #[~~~_,H,I.tok _,#[s.toks,?_],q _ _ (ae.refl H) eA] (.inl (DH o.2))
   rw[Int.fdiv_eq_ediv_of_nonneg _ (Ww o.1)]
  |_=>cases e
 |_=>cases e
theorem Jk:gS X (UT .Mod) (su X.K (eR .mod)):=by
 intro a s b H x y v u Q I c d h;let(f,z,g,k,w,l,m,n,e,q):=h;cases g with
 |int i =>
  cases k with
  |int j =>
   let(o,e):=bC e;cases e;cases m.bK;cases n.bK;exact LD a s b H _ _ v u Q I c d #[i,j,rfl,rfl,o,q _ _ (ae.refl H) eA]
  |_=>cases e
 |_=>cases e
theorem Jl:gS X (UT .Pow) (su X.K (eR .pow)):=by
 intro a s b H x y v u Q I c d h;let(f,z,g,k,w,l,m,n,e,q):=h;cases g with
 |int i =>
  cases k with
  |int j =>
   let(o,e):=bC e;cases e;cases m.bK;cases n.bK;exact LF a s b H _ _ v u Q I c d #[i,j,rfl,rfl,#[o.1,by omega,o.2.2],q _ _ (ae.refl H) eA]
  |_=>cases e
 |_=>cases e
def R8:Bi->Xw
 |.add=>.Add | .sub=>.Sub | .mul=>.Mult | .fdiv=>.FloorDiv | .mod=>.Mod | .pow=>.Pow
theorem TR(o:Bi):gS X (UT (R8 o)) (su X.K (eR o)):=by
 cases o
 .exact Jh
 .exact Ji
 .exact Jj
 .exact F6
 .exact Jk
 .exact Jl
mutual
noncomputable def yh:D->PyData
 |.cD=>.none|.bl b=>.bool b|~~~i=>~~~i|.str x=>.str x|.tup l=>.tuple (i6 l)|.lst l=>.list (i6 l)|.dct=>.none
noncomputable def i6:⇑D->⇑PyData
 |[]=>[]|x::r=>yh x::i6 r
end
end
end Q
namespace Q
open PySem L2 PySem.Spec PyProof.Rows
variable [TB:Tb]
mutual
theorem sv:∀ a b:D,eZ a=true->eZ b=true->PyData.eqv (yh a) (yh b)=FN a b
 |.cD,b,_,h=>by cases b <;> first | rfl | (cases h)
 |.bl _,b,_,h=>by cases b <;> first | rfl | (cases h)
 |~~~_,b,_,h=>by cases b <;> first | rfl | (cases h)
 |.str _,b,_,h=>by cases b <;> first | rfl | (cases h)
 |.tup l,b,c,h=>by
  cases b with
  |tup q =>
   exact wV l q c h
  |dct=>cases h
  |_=>rfl
 |.lst l,b,c,h=>by
  cases b with
  |lst q =>
   exact wV l q c h
  |dct=>cases h
  |_=>rfl
 |.dct,_,h,_=>by cases h
theorem wV:∀ a b:⇑D,bt a=true->bt b=true->PyData.eqvAll (i6 a) (i6 b)=wJ a b
 |[],[],_,_=>rfl|[],_::_,_,_=>rfl|_::_,[],_,_=>rfl
 |x::r,y::q,c,d=>by
  have c:(eZ x&&bt r)=true:=c;have d:(eZ y&&bt q)=true:=d;rw[Á] at c d;show(PyData.eqv (yh x) (yh y)&&PyData.eqvAll (i6 r) (i6 q))=(FN x y&&wJ r q);rw[sv x y c.1 d.1,wV r q c.2 d.2]
end
mutual
theorem kE:∀ a:D,eZ a=true->(yh a).canLay0=true
 |.cD,_=>rfl|.bl _,_=>rfl|~~~_,_=>rfl|.str _,h=>h|.tup l,h=>jz l h|.lst l,h=>jz l h|.dct,h=>by cases h
theorem jz:∀ a:⇑D,bt a=true->PyData.canLayAll0 (i6 a)=true
 |[],_=>rfl
 |x::r,h=>by
  simp only[bt,Á] at h;simp only[i6,PyData.canLayAll0,kE x h.1,jz r h.2,Bool.and_self]
end
mutual
theorem qI:∀ a:D,(yh a).depth=deep a
 |.cD=>rfl|.bl _=>rfl|~~~_=>rfl|.str _=>rfl|.tup l=>congrArg (· + 1) (sx l)|.lst l=>congrArg (· + 1) (sx l)|.dct=>rfl
theorem sx:∀ a:⇑D,YR (i6 a)=cL a
 |[]=>rfl
 |x::r=>by
  simp only[i6,YR,cL];rw[qI x,sx r]
end
def u7(h:ö)(u:Ä)(d:D):Prop:=eZ d=true/\∃ as,Reads h u (yh d) as
def bM(h:ö)(a:Zk)(ds:⇑D):Prop:=bt ds=true/\∃ as,ReadsAll h a (i6 ds) as
section
variable {X:Cx}{aa:⇑(È × Obj)}{σ:L2.St}{H:Hp}{s:Ç}
mutual
theorem eB(I:Inv X aa σ H s):∀ {d:D}{v:V}{u:Ä},Hd X.K H d v->RelV v u->eZ d=true->∃ as,Reads s.heap u (yh d) as
 |.cD,_,_,h,r,_=>by cases h.O2;cases r;exact#[_,.none]
 |.bl b,_,_,h,r,_=>by cases h.yV;cases r;exact#[_,.bool b]
 |~~~i,_,_,h,r,_=>by cases h.bK;let(t,rfl):=r;exact#[_,.int i t]
 |.str x,_,_,h,r,_=>by cases h.O3;let(t,rfl):=r;exact#[_,.str x t]
 |.tup l,_,_,h,r,f=>by
  let(a,c,rfl,e,g):=h.fW;cases r;obtain⟨j,k,⟨o,m,p,n,q⟩,_⟩:=I.tuple e;let(as,y):=lM I g k f;exact#[_,.tuple m p q (by simpa using y)]
 |.lst l,_,_,h,r,f=>by
  let(a,c,rfl,e,g):=h.jZ;cases r;obtain⟨j,k,⟨o,n,m,p,_,q⟩,_⟩:=I.list e.sq;let(as,y):=lM I g k f;exact#[_,.list m p q (by simpa using y)]
 |.dct,_,_,_,_,f=>by cases f
theorem lM(I:Inv X aa σ H s):∀ {ds:⇑D}{z:⇑V}{A:Zk},aN X.K H ds z->Vals z A->bt ds=true->∃ as,ReadsAll s.heap A (i6 ds) as
 |[],_,_,h,r,_=>by cases h.bR;cases r;exact#[_,.nil]
 |d::ds,_,_,h,r,f=>by
  let(x,c,rfl,e,g):=h.aU;cases r with
  |cons B C =>
   simp only[bt,Á] at f;let(_,E):=eB I e B f.1;let(_,F):=lM I g C f.2;exact#[_,.cons E F]
end
end
theorem gf(h:g9 d):eZ d/\SeqAt.shaped (yh d):=by
 delta g9 at h
 rw[Á,Zx] at h;refine#[h.1,?_]
 delta SeqAt.shaped
 rw[kE d h.1,qI,Xx,Zx];exact â h.2 (_e (Ui _))
section
variable {X:Cx}
theorem Mg(h:Mf a b=↑c):∃ l,a=.tup l/\b=.tup []/\c=l.isEmpty:=by
 unfold Mf at h;split at h
 .cases h;exact#[_,rfl,rfl,rfl]
 .cases h
theorem Mh(f:X.A.units + 64 < Vj):gS X (UP .Eq) (su X.K λa b=>(eqQ a b).map λc=>.d (.bl c)):=by
 intro aa s σ H x y v u Q I g i h;let(k,z,m,n,w,st,o,p,e,q):=h;unfold eqQ at e;split at e
 .rename_i ok;cases e;rw[Á] at ok;let(r,s1):=gf ok.1;let(B,C):=gf ok.2;let(as,E):=eB I (o.same (ak k H)) g r;let(bs,F):=eB I (p.same (ak k H)) i B;exact eq_dataH E F s1 C f #[.bl _,H,I,rfl,by rw[sv m n r B];exact q _ _ (ae.refl H) di]
 .let(c,G,J):=Ë.mp e;let(l,rfl,rfl,rfl):=Mg G;subst J;let(a,xs,rfl,L,N):=o.fW;let(b,ys,rfl,P,k4):=p.fW;cases k4.bR;cases g;cases i;let(U,rv,ht,_):=I.tuple ((ak k H).j6 L);let(iu,ru,Y,_):=I.tuple ((ak k H).j6 P);cases ru;refine SeqAt.eq_tupleAt (e:=λ_=>true) ht Y (V7 (V9 _ _) f) (λj _ J=>absurd J (Yx j)) #[.bl _,H,I,rfl,?_]
  rw[(by
   simp[á,UG,Nat.min_zero,List.range_zero,all_nil,Xx,(by rw[<-rv.length,N.length]:U.length=l.length)];cases l <;> rfl:((ë _).all _&&U.toArray.size == ([]:Zk).toArray.size)=l.isEmpty)];exact q _ _ (ae.refl H) di
theorem Mi(f:X.A.units + 64 < Vj):gS X (UP .NotEq) (su X.K λa b=>(Me a b).map λc=>.d (.bl !c)):=by
 intro g s i H x y v u Q I j k h;let(l,z,m,n,w,o,p,r,e,q):=h;unfold Me at e;split at e
 .rename_i ok;cases e;rw[Á] at ok;let(B,s1):=gf ok.1;let(C,E):=gf ok.2;let(as,F):=eB I (p.same (ak l H)) j B;let(bs,G):=eB I (r.same (ak l H)) k C;exact ne_dataH F G s1 E f #[.bl _,H,I,rfl,by rw[sv m n B C];exact q _ _ (ae.refl H) di]
 .cases e
theorem Jm(f:X.A.units + 64 < Vj):gS X (UP .NotEq) (su X.K λa b=>(R6 a b).map λc=>.d (.bl c)):=by
 intro g s i H x y v u Q I j k h;let(l,z,m,n,w,o,p,r,e,q):=h;unfold R6 at e;split at e
 .cases e;let(a,B,rfl,C):=p;let(b,E,rfl,F,_):=r.fW;exact IL f g s i H _ _ v u Q I j k #[a,b,B,E,rfl,rfl,(bZ C).1,(ak l H).j6 F,q _ _ (ae.refl H) di]
 .refine Mi f g s i H _ _ v u Q I j k #[l,z,m,n,w,o,p,r,?_,q];rw[<-e,Option.map_map];rfl
end
theorem qJ(h:fz l):bt l/\cL l<=39:=by
 delta fz at h
 simp_all
theorem sy(h:g9 d):deep d<=40:=by
 delta g9 at h
 simp_all
theorem oa(x:D)(a:eZ x):∀ l:⇑D,bt l->((i6 l).any λy=>PyData.eqv y (yh x))=memD x l
 |[],_=>rfl
 |y::r,h=>by
  simp[bt,Á] at h;show(PyData.eqv _ _ || (i6 r).any _)=(FN y x || memD x r);rw[sv y x h.1 a,oa x a r h.2]
section
variable {X:Cx}
theorem qK(h:rW x l=↑b):g9 x/\fz l/\b=memD x l:=by
 delta rW at h
 simp_all
theorem room_in{A:þ}(a:A.units + 64 < Vj){l:⇑D}{x:D}(h:g9 x):A.units + 1 + min (YR (i6 l)) (yh x).depth < cLine:=by
 have b:=sy h;have c:min (YR (i6 l)) _<=(yh x).depth:=Nat.min_le_right _ _;have d:=qI x;omega
theorem Jn(f:X.A.units + 64 < Vj):gS X (UP .In) (su X.K λa b=>(f9 .mem a b).map λc=>.d (.bl c)):=by
 intro g s i H x y v u Q I j k h;let(m,z,n,o,w,p,r,B,e,q):=h;cases o with
 |tup l =>
  let(b,C,E):=Ë.mp e;subst E;let(F,G,rfl):=qK C;let(J,_):=qJ G;let(L,_):=gf F;let(as,N):=eB I (r.same (ak m H)) j L;let(bs,P):=eB I (B.same (ak m H)) k (J);exact SeqAt.in_tuple_reads P N (jz l J) (kE n L) (room_in f F) #[.bl _,H,I,rfl,by rw[oa n L l J];exact q _ _ (ae.refl H) di]
 |lst l =>
  let(b,C,E):=Ë.mp e;subst E;let(F,G,rfl):=qK C;let(J,_):=qJ G;let(L,_):=gf F;let(as,N):=eB I (r.same (ak m H)) j L;let(bs,P):=eB I (B.same (ak m H)) k (J);exact SeqAt.in_list_reads P N (jz l J) (kE n L) (room_in f F) #[.bl _,H,I,rfl,by rw[oa n L l J];exact q _ _ (ae.refl H) di]
 |_=>cases e
theorem F7(f:X.A.units + 64 < Vj):gS X (UP .NotIn) (su X.K λa b=>(f9 .nmem a b).map λc=>.d (.bl c)):=by
 intro g s i H x y v u Q I j k h;let(m,z,n,o,w,p,r,B,e,q):=h;cases o with
 |tup l =>
  let(b,C,E):=Ë.mp e;subst E;let(F,G,rfl):=Ë.mp C;let(J,L,rfl):=qK G;let(N,_):=qJ L;let(P,_):=gf J;let(as,U):=eB I (r.same (ak m H)) j P;let(bs,Y):=eB I (B.same (ak m H)) k (N);exact SeqAt.notIn_tuple_reads Y U (jz l N) (kE n P) (room_in f J) #[.bl _,H,I,rfl,by rw[oa n P l N];exact q _ _ (ae.refl H) di]
 |lst l =>
  let(b,C,E):=Ë.mp e;subst E;let(F,G,rfl):=Ë.mp C;let(J,L,rfl):=qK G;let(N,_):=qJ L;let(P,_):=gf J;let(as,U):=eB I (r.same (ak m H)) j P;let(bs,Y):=eB I (B.same (ak m H)) k (N);exact SeqAt.notIn_list_reads Y U (jz l N) (kE n P) (room_in f J) #[.bl _,H,I,rfl,by rw[oa n P l N];exact q _ _ (ae.refl H) di]
 |_=>cases e
end
end Q
namespace Q
open PySem L2 PySem.Spec PyProof.Rows
variable [TB:Tb]
def Mj(A:þ)(s:Ç)(v u:Ä)(b:Bool):Prop:=∀ (P:å) (w:î) (E:Ä->Ç->Prop) (Q:Ä->Ç->Prop),Q (.bool b) s->Ü (ß P w) A (richCompare .Lt v u) Q E s
section
open PySem.SeqAt
open PySem.AutoSeq1 (wpAny_loadPart')
open PySem.MeetsSeq PySem.MeetsSeq2 PySem.MeetsSeq3
inductive Lx (A:Around) (s:Shared):⇑Value->⇑Value->Bool->Prop
 |nn:Lx A s [] [] false
 |nc {u us}:Lx A s [] (u::us) true
 |cn {v vs}:Lx A s (v::vs) [] false
 |eq {v u vs us b}:EqAt A s v u true->Lx A s vs us b->Lx A s (v::vs) (u::us) b
 |ne {v u vs us b}:EqAt A s v u false->Mj A s v u b->Lx A s (v::vs) (u::us) b
theorem qb(l b:È)(a e:Zp)(n n2:Nat)(f i:Zl)(sl j:Array Zn)(c:Bool) :
  Meets (Vq.«tuple.__lt__» #[[↥l,↥b],[]])
   (λA R s=>s.heap.get? l=↑{ cls:=.type "tuple",dict:=f,data:=.seq a n,slots:=sl }/\s.heap.get? b=↑{ cls:=.type "tuple",dict:=i,data:=.seq e n2,slots:=j } /\
    Lx A.in1 s a.toList e.toList c/\R (.ok (.ret (.bool c))) s) :=
 .of_wp λk w A R s h=>by
  let(m,g,d,o,p):=s;let(r,u,v,h):=h;have z:=AutoSeq1.sub_tuple_tuple
  wp_walk using VA r,VA u,wpAny_forIn_list _ (λB b C=>b.1=none/\C=#[m,g,d,o,p]/\∃ (F G:Zk),B=F.zip G /\
   F.length + e.size=G.length + a.size/\Lx A.in1 #[m,g,d,o,p] F G c) _
  case turn =>
   rintro ⟨y,x⟩ B b C ⟨H,rfl,F,G,hz,hlen,hR⟩;cases hR with
   |nn=>rw[List.zip_nil_left] at hz;cases hz
   |nc=>rw[List.zip_nil_left] at hz;cases hz
   |cn=>rw[List.zip_nil_right] at hz;cases hz
   |eq I J =>
    rw[WK] at hz;injection hz with K L;injection K with N P;subst N P;simp only[Þ] at hlen;refine À (I k w _ _ ?_)
    wp_walk
    exact#[rfl,rfl,_,_,L,by omega,J]
   |ne I J =>
    rw[WK] at hz;injection hz with K L;injection K with N P;subst N P;refine À (I k w _ _ ?_);have U:=λE Q q=>J k w E Q q
    wp_walk using U
    exact#[_,rfl,by simpa using h]
  case fin =>
   rintro ⟨X,b2⟩ C ⟨H,rfl,F,G,hz,hlen,hR⟩;simp only at H;subst H;have Y:c=decide (a.size < e.size):=by
    cases hR with
    |nn=>simp only[UG] at hlen;exact(ZA (_p (Y5 (_L hlen)))).symm|nc=>simp only[UG,Þ] at hlen;exact(Zz ∅).symm|cn=>simp only[UG,Þ] at hlen;exact(ZA ∅).symm|eq I J=>rw[WK] at hz;cases hz
    |ne I J=>rw[WK] at hz;cases hz
   rw[Y] at h
   wp_walk
   exact#[_,rfl,by simpa [tupleCompareSizes] using h]
  case h =>
   exact#[rfl,rfl,a.toList,e.toList,rfl,by simp;exact Nat.add_comm _ _,v]
end
theorem DI(a:XM s.heap l d)(e:XM s.heap b f)(g:A.units < Vj)(i:Lx A.in1 s d.toList f.toList c):Mj A s ↥l ↥b c:=by
 intro P w E Q h;obtain⟨⟨j,k,m,sl⟩,o,p,n,hd⟩:=id a;obtain⟨⟨q,r,u,v⟩,y,z,n2,B⟩:=id e;subst p hd z B;exact richCompare_meets_room  #[_,o,rfl] #[_,y,rfl] YQ PySem.F.entry_tuple_lt (PySem.F.args_tuple_lt_2 _ _) (qb l b d f n n2 k r sl v c)
  #[o,y,i,show Xl c≠Value.notImplemented/\Q _ s from#[(λx=>nomatch x),h]] g
theorem KP(c:u7 s.heap v a)(d:u7 s.heap u b)(e:A.units + deep a < Vj):SeqAt.EqAt A s v u (FN a b):=by
 let(f,as,g):=c;let(i,bs,j):=d;rw[<-sv a b f i];have h:=qI a;have k:min _ (yh b).depth<=(yh a).depth:=Nat.min_le_left _ _;exact SeqAt.eqAt_reads _ _ A s v u as bs g j (kE a f) (kE b i) ∅
theorem bM.aU(x:bM h us (d::ds)):∃ u r,us=u::r/\u7 h u d/\bM h r ds:=by
 let(f,as,r):=x;simp[bt,Á] at f;cases r with
 |cons a b=>exact#[_,_,rfl,#[f.1,_,a],f.2,_,b]
theorem bM.bR(x:bM h us []):us=[]:=by
 let(_,as,r):=x;cases r;rfl
theorem in1_units(A:þ):A.in1.units=A.units + 1:=rfl
theorem F8:∀ (n:Nat) {A:þ}{s:Ç},
  (∀ (a b:D) (v u:Ä) (c:Bool),deep a<=n->u7 s.heap v a->u7 s.heap u b->Jd a b=↑c->A.units + n < Vj->Mj A s v u c) /\
  (∀ (a b:⇑D) (vs us:Zk) (c:Bool),cL a < n->bM s.heap vs a->bM s.heap us b->wK a b=↑c->A.units + n < Vj->Lx A.in1 s vs us c):=by
 intro n
 induction n with
 |zero =>
  intro A s;refine#[λa b v u c hd ha hb e hu=>?_,λa b vs us c hd=>absurd hd (Yx _)];cases a with
  |int i =>
   cases b with
   |int j =>
    cases e;let(_,_,r1):=ha;let(_,_,r2):=hb;cases r1;cases r2;exact λP w E Q h=>HT.yn A s i _ j _ P w E Q h
   |_=>cases e
  |tup l=>simp[deep] at hd|_=>cases e
 |succ n ih =>
  have rows:∀ {A:þ}{s:Ç} (a b:⇑D) (vs us:Zk) (c),cL a < n + 1->bM s.heap vs a->bM s.heap us b->wK a b=↑c->A.units + (n + 1) < Vj->Lx A.in1 s vs us c:=by
   intro A s a
   induction a with
   |nil =>
    intro b vs us c _ ha hb e hu;cases ha.bR;cases b with
    |nil=>cases hb.bR;cases e;exact .nn
    |cons y q=>let(u,r,rfl,_):=hb.aU;cases e;exact .nc
   |cons x r ihr =>
    intro b vs us c hd ha hb e hu;let(v,vs',rfl,a1,a2):=ha.aU;cases b with
    |nil=>cases hb.bR;cases e;exact .cn
    |cons y q =>
     let(u,us',rfl,b1,b2):=hb.aU;have d1 :=Nat.le_of_lt_succ (V7 (Nat.le_max_left _ _) hd);have d2 :=V7 (Nat.le_max_right _ _) hd;have hu1:A.in1.units + n < cLine:=by rw[in1_units];exact V7 (Y5 (_j _ _ _)) hu
     have he:=KP (A:=A.in1) a1 b1 ∅
     simp only[wK] at e;cases hq:FN x y with
     |true =>
      rw[hq] at he e;exact .eq he (ihr q vs' us' c d2 a2 b2 (e) hu)
     |false =>
      rw[hq] at he e;exact .ne he ((ih  ).1 x y v u c d1 a1 b1 (e) hu1)
  intro A s;refine#[λa b v u c hd ha hb e hu=>?_,rows];cases a with
  |int i =>
   cases b with
   |int j =>
    cases e;let(_,_,r1):=ha;let(_,_,r2):=hb;cases r1;cases r2;exact λP w E Q h=>HT.yn A s i _ j _ P w E Q h
   |_=>cases e
  |tup l =>
   cases b with
   |tup q =>
    let(f1,as,r1):=ha;let(f2,bs,r2):=hb;simp only[deep] at hd;cases r1 with
    |tuple k1 k2 k3 k4 =>
     cases r2 with
     |tuple m1 m2 m3 m4 =>
      exact DI #[_,k1,k2,_,k3] #[_,m1,m2,_,m3] (V7 (V9 _ _) hu) (rows l q _ _ c hd #[f1,_,k4] #[f2,_,m4] e hu)
   |_=>cases e
  |_=>cases e
section
variable {X:Cx}
theorem Mk(h:N0 a b=↑c):g9 a/\g9 b/\Jd a b=↑c:=by
 unfold N0 at h
 simp_all
theorem Ml(f:X.A.units + 64 < Vj):gS X (UP .Lt) (su X.K λa b=>(f9 .lt a b).map λc=>.d (.bl c)):=by
 intro g s i H x y v u Q I j k h;let(l,z,m,n,w,o,p,r,e,q):=h;let(b,B,C):=Ë.mp e;subst C;let(E,F,G):=Mk (show N0 m n=↑b from B);let(J,_):=gf E;let(L,_):=gf F;let(as,N):=eB I (p.same (ak l H)) j J;let(bs,P):=eB I (r.same (ak l H)) k L;exact(F8 40  ).1 m n v u b (sy E) #[J,as,N] #[L,bs,P] G (V7 (Nat.add_le_add_left (_d _ _) _) f) _ _ _ _ #[.bl b,H,I,rfl,q _ _ (ae.refl H) di]
theorem lN{K:Ã}{H:Hp}:∀ {l:⇑D}{a:Zi}{b:⇑V},gq l=↑a->aN K H l b->b=a.map V.int/\l=a.map D.int
 |[],_,_,e,h=>by cases e;rw[h.bR];exact#[rfl,rfl]
 |~~~i::r,_,_,e,h=>by
  let(c,d,rfl):=Ë.mp e;let(x,f,rfl,g,j):=h.aU;cases g.bK;let(rfl,rfl):=lN d j;exact#[rfl,rfl]
 |.cD::_,_,_,e,_=>by cases e
 |.bl _::_,_,_,e,_=>by cases e
 |.str _::_,_,_,e,_=>by cases e
 |.tup _::_,_,_,e,_=>by cases e
 |.lst _::_,_,_,e,_=>by cases e
 |.dct::_,_,_,e,_=>by cases e
theorem Mm(f:X.A.units + 64 < Vj):gS X (UP .LtE) (su X.K λa b=>(f9 .le a b).map λc=>.d (.bl c)):=by
 intro g s k H x y v u Q I l m h;let(n,z,o,r,w,st,B,C,e,q):=h;cases o with
 |int i =>
  cases r with
  |int j =>
   cases e;cases B.bK;cases C.bK;exact Ot g s k H _ _ v u Q I l m #[i,j,rfl,rfl,q _ _ (ae.refl H) di]
  |_=>cases e
 |tup a =>
  cases r with
  |tup b =>
   let(c,E,F):=Ë.mp e;subst F;let(G,n1,E):=Ê.mp (show(gq a).bind _=_ from E);let(J,n2,rfl):=Ë.mp E;let(p,xs,rfl,L,N):=B.fW;let(P,ys,rfl,U,Y):=C.fW;let(rfl,_):=lN n1 N;let(rfl,_):=lN n2 Y;exact LW (V7 (V9 _ _) f) g s k H _ _ v u Q I l m #[p,P,G,J,rfl,rfl,(ak n H).j6 L,(ak n H).j6 U,q _ _ (ae.refl H) di]
  |_=>cases e
 |_=>cases e
theorem Mn:gS X (UP .Gt) (su X.K λa b=>(f9 .gt a b).map λc=>.d (.bl c)):=by
 intro f s g H x y v u Q I k l h;let(m,z,n,o,w,p,r,A,e,q):=h;cases n with
 |int i =>
  cases o with
  |int j =>
   cases e;cases r.bK;cases A.bK;exact Ou f s g H _ _ v u Q I k l #[i,j,rfl,rfl,q _ _ (ae.refl H) di]
  |_=>cases e
 |_=>cases e
theorem Mo:gS X (UP .GtE) (su X.K λa b=>(f9 .ge a b).map λc=>.d (.bl c)):=by
 intro f s g H x y v u Q I k l h;let(m,z,n,o,w,p,r,A,e,q):=h;cases n with
 |int i =>
  cases o with
  |int j =>
   cases e;cases r.bK;cases A.bK;exact Ov f s g H _ _ v u Q I k l #[i,j,rfl,rfl,q _ _ (ae.refl H) di]
  |_=>cases e
 |_=>cases e
def Jo:Cm->CmpOp
 |.eq=>.Eq | .ne=>.NotEq | .lt=>.Lt | .le=>.LtE | .gt=>.Gt | .ge=>.GtE | .mem=>.In | .nmem=>.NotIn
theorem wW(e:X.A.units + 64 < Vj)(o:Cm):gS X (UP (Jo o)) (su X.K λa b=>(f9 o a b).map λc=>.d (.bl c)):=by
 cases o
 .exact Mh e
 .exact Jm e
 .exact Ml e
 .exact Mm e
 .exact Mn
 .exact Mo
 .exact Jn e
 .exact F7 e
theorem aN.one{K:Ã}{H:Hp}{d:D}{a:⇑V}(h:aN K H [d] a):∃ x,a=[x]/\Hd K H d x:=by
 let(x,r,rfl,b,c):=h.aU;rw[c.bR];exact#[x,rfl,b]
theorem aN.two{K:Ã}{H:Hp}{d e:D}{a:⇑V}(h:aN K H [d,e] a):∃ x y,a=[x,y]/\Hd K H d x/\Hd K H e y:=by
 let(x,r,rfl,b,c):=h.aU;let(y,rfl,f):=c.one;exact#[x,y,rfl,b,f]
theorem wX{K:Ã}{b:Zl}{H:Hp}{d:D}{l:⇑D}{v:V}(h:Hd K (hz b H) d v)(e:mf d=↑l):∃ a c,v=↥a/\(gU K H a c∨dY K H a c)/\aN K (hz b H) l c:=by
 cases d with
 |tup m =>
  cases e;let(a,c,rfl,f,g):=h.fW;exact#[a,c,rfl,.inr ((ak b H).j6 f),g]
 |lst m =>
  cases e;let(a,c,rfl,f,g):=h.jZ;exact#[a,c,rfl,.inl (f.same (ak b H)).sq,g]
 |_=>cases e
theorem Mp:bN X (.builtin "len") (DG X.K (n9 .len)):=by
 intro b s c H f g Q I r h;let(i,z,ds,w,j,k,e,q):=h
 match ds,e with
 |[d],e =>
  let(l,m,rfl):=Ë.mp (show(mf d).map _=↑w from e);let(x,rfl,n):=k.one;let(a,o,rfl,p,u):=wX n m;exact wc b s c H _ g Q I r #[a,o,rfl,p,by rw[u.length];exact q _ _ (ae.refl H) eA]
theorem F9:bN X (.type "tuple") (DG X.K (n9 .tuple)):=by
 intro b s c H f g Q I r h;let(i,z,ds,w,j,k,e,q):=h
 match ds,e with
 |[d],e =>
  let(l,m,rfl):=Ë.mp (show(mf d).map _=↑w from e);let(x,rfl,n):=k.one;let(a,o,rfl,u,v):=wX n m;refine mr b s c H _ g Q I r #[a,o,rfl,?_];rcases u with u | u
  .refine .inl #[u,λp y=>q _ _ (ae.new _ y) (sr (Hd.tup ((j.same (ae.new _ y)).yX (dY.of ao)) (v.same (d9 (ae.new _ y)))))]
  .exact .inr #[u,q _ _ (ae.refl H) (sr (Hd.tup (j.yX u) v))]
theorem Jp:bN X (.type "list") (DG X.K (n9 .list)):=by
 intro b s c H f g Q I r h;let(i,z,ds,w,j,k,e,q):=h
 match ds,e with
 |[d],e =>
  let(l,m,rfl):=Ë.mp (show(mf d).map _=↑w from e);let(x,rfl,n):=k.one;let(a,o,rfl,u,v):=wX n m;exact wd b s c H _ g Q I r #[a,o,rfl,u,λp y=>q _ _ (ae.new _ y) (cQ j v y)]
theorem Ga{K:Ã}{H:Hp}:∀ {l:⇑D}{bs:⇑Bool}{a:⇑V},l.mapM pZ=↑bs->aN K H l a->a=bs.map V.bl
 |[],_,_,e,h=>by simp at e;subst e;rw[h.bR];rfl
 |x::r,_,_,e,h=>by
  simp only[mapM_cons,bind,Ê] at e;let(b,d,bs,f,g):=e;cases g;let(y,i,rfl,j,k):=h.aU;cases x with
  |bl c=>cases d;cases j.yV;rw[Ga f k];rfl
  |_=>cases d
theorem Mq(b:X.calm):bN X (.builtin "all") (DG X.K (n9 .all)):=by
 intro c s d H f g Q I r h;let(i,z,ds,w,j,k,e,q):=h
 match ds,e with
 |[.lst l],e =>
  let(bs,m,rfl):=Ë.mp (show(l.mapM pZ).map _=↑w from e);let(x,rfl,n):=k.one;let(a,o,rfl,p,u):=n.jZ;rw[Ga m u] at p;exact EX b c s d H _ g Q I r #[a,bs,rfl,(p.same (ak i H)).sq,q _ _ (ae.refl H) di]
theorem sA:∀ {a:Zi}{b:Zk},Vals (a.map V.int) b->∃ c:⇑(Int × Tok),b=c.map (λp=>.int p.1 p.2)/\c.map (·.1)=a
 |[],_,h=>by cases h;exact#[[],rfl,rfl]
 |n::r,_,h=>by
  cases h with
  |cons d f =>
   let(t,rfl):=d;let(c,rfl,e):=sA f;exact#[(n,t)::c,rfl,by simp_all]
theorem Gb(b:X.calm):bN X (.builtin "sum") (λc H Q=>∃ (a:È) (d:Zi),c=[↥a]/\(gU X.K H a (d.map V.int)∨dY X.K H a (d.map V.int))/\Q (~~~d.sum) H):=by
 intro f s g H c i Q I r h;let(a,d,rfl,j,q):=h;let(u,rfl,l):=vals1 r;subst l;have m:∀ {n:Zk},Vals (d.map V.int) n->∃ c:Array _,n.toArray=intItems c/\preSum (numAt c) c.size=d.sum:=λ{n} o=>by
  let(c,rfl,e):=sA o;exact#[c.toArray,by simp[intItems],by rw[preSum_eq,Vz ⋯];simp[e]]
 rcases j with j | j
 .let(n,o,p,_):=I.list j;let(c,v,x):=m o;exact sum_intListG (I.ok.hd b) (v ▸ p.isList) λy z A k=>#[_,H,I.kept k,by rw[x];exact#[_,rfl],q]
 .let(n,o,p,_):=I.tuple j;let(c,v,x):=m o;exact W.ktm_sumG (I.ok.hd b) (v ▸ p) λy z A k=>#[_,H,I.kept k,by rw[x];exact#[_,rfl],q]
theorem Gd{K:Ã}{H:Hp}:∀ {l:⇑D}{i:Int}{a:⇑V},rX l=↑i->aN K H l a->∃ b:Zi,a=b.map V.int/\b.sum=i
 |[],_,_,e,h=>by cases e;rw[h.bR];exact#[[],rfl,rfl]
 |~~~j::r,_,_,e,h=>by
  let(k,c,rfl):=Ë.mp (show(rX r).map _=_ from e);let(v,q,rfl,d,f):=h.aU;let(b,rfl,g):=Gd c f;cases d.bK;exact#[_,rfl,by rw[List.sum_cons,g]]
theorem Mr(b:X.calm):bN X (.builtin "sum") (DG X.K (n9 .sum)):=by
 intro c s f H g j Q I r h;let(k,z,ds,w,m,n,e,q):=h
 match ds,e with
 |[d],e =>
  let(i,o,rfl):=Ë.mp (show((mf d).bind rX).map _=↑w from e);let(l,p,u):=Ê.mp o;let(x,rfl,v):=n.one;let(a,y,rfl,A,B):=wX v p;let(C,rfl,rfl):=Gd u B;exact Gb b c s f H _ j Q I r #[a,C,rfl,A,q _ _ (ae.refl H) (show Hd X.K _ _ _ from Hd.int)]
theorem Ms(a:X.calm):bN X (.builtin "min") (DG X.K (n9 .min)):=by
 intro b s c H d f Q I r h;let(g,z,ds,w,k,l,e,q):=h
 match ds,e with
 |[~~~i,~~~j],e =>
  cases e;let(x,y,rfl,m,n):=l.two;cases m.bK;cases n.bK;exact C9 a b s c H _ f Q I r #[i,j,rfl,q _ _ (ae.refl H) eA]
theorem Mt(a:X.calm):bN X (.builtin "max") (DG X.K (n9 .max)):=by
 intro b s c H d f Q I r h;let(g,z,ds,w,k,l,e,q):=h
 match ds,e with
 |[~~~i,~~~j],e =>
  cases e;let(x,y,rfl,m,n):=l.two;cases m.bK;cases n.bK;exact C8 a b s c H _ f Q I r #[i,j,rfl,q _ _ (ae.refl H) eA]
theorem Mu:bN X (.type "int") (DG X.K (n9 .int)):=by
 intro a s c H d f Q I r h;let(g,z,ds,w,j,k,e,q):=h
 match ds,e with
 |[~~~i],e =>
  cases e;let(x,rfl,l):=k.one;cases l.bK;exact uK a s c H _ f Q I r (.inl #[i,rfl,q _ _ (ae.refl H) eA])
 |[.bl b],e =>
  cases e;let(x,rfl,l):=k.one;cases l.yV;exact uK a s c H _ f Q I r (.inr #[b,rfl,q _ _ (ae.refl H) eA])
def Ge:Ty->String
 |.int=>"int" | .bool=>"bool" | .tuple=>"tuple" | .list=>"list" | .str=>"str" | .seq=>""
theorem Jq(t:Ty)(d:D)(h:t≠.seq):Fh d.ty (Ge t)=AL t d:=by
 cases t <;> cases d <;> first | rfl | (exact absurd rfl h) | decide
theorem Gf(d:D):(Fh d.ty "tuple" || Fh d.ty "list")=AL .seq d:=by cases d <;> rfl
theorem at_of{K:Ã}{H:Hp}{l:⇑D}{a:⇑V}{i:Int}{d:D}(h:aN K H l a)(e:Ai l i=↑d):∃ v,Ai a i=↑v/\Hd K H d v:=by
 delta Ai at e ⊢
 let(j,b,c):=Ê.mp e;rw[h.length,b];exact h.get c
theorem S9:NY X (su X.K λa b=>(mh a b).map S.d):=by
 intro c f g s j H x y v u Q I k m h hs;let(n,z,o,p,w,A,B,C,e,q):=h;let(r,E,rfl):=Ë.mp e;cases o with
 |tup l =>
  cases p with
  |int i =>
   cases C.bK;let(a,F,rfl,G,J):=B.fW;let(L,N,P):=at_of J E;exact LI c f g s j H _ _ v u Q I k m #[a,F,i,L,rfl,rfl,(ak n H).j6 G,N,q _ _ (ae.refl H) (sr P)] hs
  |_=>cases E
 |lst l =>
  cases p with
  |int i =>
   cases C.bK;let(a,F,rfl,G,J):=B.jZ;let(L,N,P):=at_of J E;exact qC c f g s j H _ _ v u Q I k m #[a,F,i,L,rfl,rfl,(G.same (ak n H)).sq,N,q _ _ (ae.refl H) (sr P)] hs
  |_=>cases E
 |_=>cases E
theorem Gg{K:Ã}{H:Hp}{l:⇑D}{a:⇑V}(h:aN K H l a)(b c:Zq):aN K H (cutD l b c) (vZ a b c):=by
 delta cutD vZ
 rw[h.length];exact(h.drop _).take _
inductive O4 (K:PySem.W.Frag) (x:V) (lo:Option Int) (hi:Option Int) (H:Hp) (Q:VK):Prop where
 |mk (zA z dx s) (h0_:aF zA z H) (h1_:Hd K (hz zA H) dx x) (h2_:R7 dx lo hi=↑s) (h3_:∀ v H',ae H H'->my K zA H H' s v->Q v H'):O4 K x lo hi H Q
theorem R9:Oz X (O4 X.K):=by
 intro b s c H x v d f g i sl Q I j hs pl k h;let(m,z,n,w,o,r,e,q):=h;cases n with
 |tup l =>
  cases e;let(a,u,rfl,y,A):=r.fW;exact IK b s c H _ v d f g i sl Q I j hs pl k #[a,u,rfl,(ak m H).j6 y,tupQ o (Gg A g i) q]
 |lst l =>
  cases e;let(a,u,rfl,y,A):=r.jZ;exact Iy b s c H _ v d f g i sl Q I j hs pl k #[a,u,rfl,(y.same (ak m H)).sq,λp B=>q _ _ (ae.new _ B) (cQ o (Gg A g i) B)]
 |_=>cases e
end
end Q
namespace Q
open PySem L2 PySem.Spec PyProof.Rows
open PySem.W (KatLex KatTups kat_nil kat_cons kat_go kat_yes kat_no kat_one kat_lt kat_kind kas_kind kat_lt_int)
theorem pC(k:D):∀ l,(n6 k l).Perm (k::l)
 |[]=>.refl _
 |y::r=>by
  unfold n6;split
  .exact((pC k r).cons y).trans (.swap _ _ _)
  .exact .refl _
theorem dk:∀ l,(dh l).Perm l
 |[]=>.refl _|k::r=>(pC k _).trans ((dk r).cons k)
theorem BZ(k:D):∀ l,l.Pairwise (λx y=>MySort.bh (fb y) (fb x)=false)->(n6 k l).Pairwise (λx y=>MySort.bh (fb y) (fb x)=false)
 |[],_=>YL _ _
 |y::r,h=>by
  let(a,b):=Vn.mp h;unfold n6;split
  .rename_i c;refine Vn.mpr #[λz hz=>?_,BZ k r b];rcases ã.mp ((pC k r).mem_iff.mp hz) with rfl | hz
   .cases q:MySort.bh _ _ with
    |false=>rfl|true=>have:=MySort.gE _ _ _ c q;rw[MySort.kn] at this;cases this
   .exact a z hz
  .rename_i c;refine Vn.mpr #[λz hz=>?_,h];rcases ã.mp hz with rfl | hz
   .simpa using c
   .cases q:MySort.bh _ _ with
    |false=>rfl
    |true =>
     rcases MySort.yA _ _ _ q with q | q
     .rw[a z hz] at q;cases q
     .exact absurd q c
theorem kF:∀ l,(dh l).Pairwise (λx y=>MySort.bh (fb y) (fb x)=false)
 |[]=>.nil|k::r=>BZ k _ (kF r)
mutual
theorem wY:∀ x y:D,eqT x y=true->x=y
 |~~~i,y,h=>by
  cases y with
  |int j=>rw[ZD (show(i == j)=true from h)]|_=>cases h
 |.tup a,y,h=>by
  cases y with
  |tup b=>rw[qL a b h]|_=>cases h
 |.cD,y,h=>by cases y <;> cases h
 |.bl _,y,h=>by cases y <;> cases h
 |.str _,y,h=>by cases y <;> cases h
 |.lst _,y,h=>by cases y <;> cases h
 |.dct,y,h=>by cases y <;> cases h
theorem qL:∀ x y:⇑D,jx x y=true->x=y
 |[],[],_=>rfl|[],_::_,h=>by cases h
 |_::_,[],h=>by cases h
 |x::r,y::q,h=>by
  have h:(eqT x y&&jx r q)=true:=h;rw[Á] at h;rw[wY x y h.1,qL r q h.2]
end
theorem yY(c:d.Perm l)(hs:d.Pairwise λx y=>MySort.bh (fb y) (fb x)=false)(inj:∀ x∈l,∀ y∈l,fb x=fb y->x=y):dh l=d :=
 UB  (λa b e f p q=>inj a ((dk l).mem_iff.mp e) b (c.mem_iff.mp f) (MySort.fv _ _ q p)) (kF l) hs ((dk l).trans c.symm)
variable [TB:Tb]
theorem B0(ok:∀ x∈l,∀ y∈l,fb x=fb y->x=y)(h:MySort.sortedBy (l.map fb) p):(p.map λi=>l.getD i .cD)=dh l:=by
 have c:=h.1.map λi=>l.getD i .cD;rw[Æ,MySort.range_getD] at c;refine UB  (λa b g j p q=>?_) (by
  have:=h.2;rw[<-(by
  rw[æ];refine Uo λi d=>?_;simp[by simpa using (h.1.mem_iff.mp d)]:((p.map λi=>l.getD i .cD).map fb)=p.map _),X7] at this;exact this) (kF l) (c.trans (dk l).symm);exact ok a (c.mem_iff.mp g) b ((dk l).mem_iff.mp j) (MySort.fv _ _ q p)
mutual
theorem Gh(a:MySort.rF h b):∀ (d:D) {u:Ä}{as:Zo},eqT d d=true->Reads h u (yh d) as->Reads b u (yh d) as
 |~~~i,_,_,_,r=>by cases r;exact .int _ _
 |.tup l,_,_,e,r=>by
  cases r with
  |tuple c f g j=>exact .tuple (a _ _ c f) f g (fA a l e j)
 |.cD,_,_,e,_=>by cases e
 |.bl _,_,_,e,_=>by cases e
 |.str _,_,_,e,_=>by cases e
 |.lst _,_,_,e,_=>by cases e
 |.dct,_,_,e,_=>by cases e
theorem fA(a:MySort.rF h b):∀ (l:⇑D) {k:Zk}{as:Zo},jx l l=true->ReadsAll h k (i6 l) as->ReadsAll b k (i6 l) as
 |[],_,_,_,r=>by cases r;exact .nil
 |x::q,_,_,e,r=>by
  have e:(eqT x x&&jx q q)=true:=e;rw[Á] at e;cases r with
  |cons m n=>exact .cons (Gh a x e.1 m) (fA a q e.2 n)
end
theorem bM.get:∀ {us:Zk}{l:⇑D}{i:Nat}{d:D},bM h us l->l[i]?=↑d->u7 h (us.getD i ð) d
 |_,[],i,d,_,e=>by cases e
 |us,x::r,i,d,hd,e=>by
  let(u,q,rfl,h1,h2):=hd.aU;cases i with
  |zero=>cases e;exact h1
  |succ i=>simpa using bM.get h2 (e)
theorem bM.len:∀ {a:Zk}{l:⇑D},bM h a l->a.length=l.length
 |_,[],hd=>by rw[hd.bR];rfl
 |a,x::r,hd=>by
  let(u,q,rfl,b,c):=hd.aU;simp[bM.len c]
def Gi(l:⇑D):Prop:=∀ x r,l=x::r->∃ i,x= ~~~i
theorem O5(d:A.units + 40 < Vj):∀ (a c:⇑D) {f g:Zk}{r:Bool} (i:Nat),bM s.heap f a->bM s.heap g c->wK a c=↑r->cL a<=39 ->
  ((b&&i == 0)->Gi a/\Gi c)->fin=decide (f.length < g.length)->Q r s->KatLex P w A b fin Q (f.zip g) i s
 |[],[],_,_,r,i,h,j,e,_,_,o,q=>by
  cases h.bR;cases j.bR;cases e;subst o;exact kat_nil q
 |[],y::t,_,_,r,i,h,j,e,_,_,o,q=>by
  cases h.bR;let(u,g,rfl,_,_):=j.aU;cases e;subst o;exact kat_nil q
 |x::l,[],_,_,r,i,h,j,e,_,_,o,q=>by
  cases j.bR;let(v,f,rfl,_,_):=h.aU;cases e;subst o;exact kat_nil q
 |x::l,y::t,_,_,r,i,h,j,e,hd,p,o,q=>by
  let(v,f,rfl,B,C):=h.aU;let(u,g,rfl,c1,c2):=j.aU;have E:deep x<=39:=â (Nat.le_max_left _ _) hd;have F:cL l<=39:=â (Nat.le_max_right _ _) hd;have e:(if FN x y=true then wK l t else Jd x y)=↑r:=e;refine kat_cons (KP (A:=A) B c1 ∅ P w _ _ ?_)
  refine kat_go (λz=>?_) λz=>?_
  .rw[Zv z] at e;refine kat_yes (O5 d l t (i + 1) C c2 e F (λk=>?_) (by rw[o];simp) q)
   simp at k
  .rw[Zw (by rw[z];exact ê)] at e
   refine kat_no ?_;cases G:(b&&i == 0) with
   |true =>
    let(H,I):=p G;let(m,rfl):=H x l rfl;let(n,rfl):=I y t rfl;cases e;let(_,_,J):=B;let(_,_,K):=c1;cases J;cases K;exact oneLt_int q
   |false=>exact kat_one _ _ ((F8 39 (A:=A) (s:=s)).1 x y v u r E B c1 e (Nat.lt_of_succ_lt d) P w _ _ q)
theorem wZ(h:jy x=0):∃ i,x= ~~~i:=by
 cases x with
 |int i=>exact#[i,rfl]
 |tup l =>
  cases l with
  |nil=>cases h
  |cons y r=>cases y <;> cases h
 |_=>cases h
theorem w9(h:jy x=k)(a:1<=k)(b:k < 3):∃ y r,x=.tup (y::r)/\(k=1->∃ i,y= ~~~i)/\(k=2->∃ l,y=.tup l):=by
 cases x with
 |tup l =>
  cases l with
  |nil=>have:k=3:=h.symm;omega
  |cons y r =>
   refine#[y,r,rfl,λe=>?_,λe=>?_] <;> subst e <;> cases y <;> first | exact#[_,rfl] | cases h
 |int i=>have:k=0:=h.symm;omega|_=>have:k=3:=h.symm;omega
theorem Gj(b:1<=k)(c:k < 3):∀ {d:Zk}{l:⇑D},bM h d l->(∀ x∈l,jy x=k)->∃ fs,KatTups h d fs/\fs.length=d.length/\∀ v∈fs,(k=1->∃ i t,v=VD i t)/\(k=2->∃ a o,v=tv a/\h.get? a=↑o/\o.cls=.type "tuple")
 |_,[],hd,_=>by rw[hd.bR];exact#[[],.nil,rfl,λv g=>absurd g ⋯]
 |_,x::r,hd,j=>by
  obtain⟨u,q,rfl,⟨_,as,p⟩,s⟩:=hd.aU;let(fs,z,A,B):=Gj b c s λy C=>j y (É _ C);let(y,l,rfl,E,F):=w9 (j x Í) b c;cases p with
  | @tuple a o G n H as I J K L =>
   cases g:G.toList with
   |nil=>rw[g] at L;cases L
   |cons f fr =>
    rw[g] at L;cases L with
    |cons N P =>
     refine#[_,.cons I J K (by rw[<-Ug,g];rfl) z,by simp[A],λv U=>?_]
     rcases ã.mp U with rfl | U
     .refine#[λe=>?_,λe=>?_]
      .let(i,rfl):=E e;cases N;exact#[_,_,rfl]
      .let(m,rfl):=F e;cases N with
       |tuple X Y g3 g4=>exact#[_,_,rfl,X,Y]
     .exact B v U
def kdOf:Nat->W3
 |0=>oneType'|1=>tuples' true|_=>tuples' false
theorem qM(h:bH x y):jy y=jy x/\Jd x y=↑(MySort.bh (fb x) (fb y))/\(fb x=fb y->x=y):=by
 delta bH at h
 rw[Á,Á,Vd] at h;refine#[ZD h.1,ZD h.2.1,λe=>?_];rcases h.2.2 with k | k
 .exact wY _ _ k
 simp_all
theorem Mv{P:å}{w:î}{A:þ}{s:Ç}{b:Zk}{l:⇑D}{k:Nat}(hd:bM s.heap b l)(c:k < 3)(f:∀ x∈l,jy x=k)(g:2<=b.length)(E:Ä->Ç->Prop)(Q:W3->Ç->Prop)(q:Q (kdOf k) s):Ü (ß P w) A (keyKind' b.toArray) Q E s:=by
 match k,c,f,q with
 |0,_,f,q =>
  refine kas_kind g (T:=.type "int") (λv h=>?_) rfl rfl q;let(i,j,rfl):=XD.mp h;have m:i < l.length:=by rw[<-hd.len];exact j
  let(_,as,r):=hd.get (i:=i) (d:=l[i]) ⋯
  let(n,p):=wZ (f _ (UN m));rw[p] at r;have e:b.getD i ð=b[i]:=by simp[j]
  rw[e] at r;generalize b[i]=v at r;cases r;exact PySem.W.Looks.of_pure rfl
 |1,_,f,q =>
  let(fs,u,y,z):=Gj (-0) (-0) hd f
  exact kat_kind (T:=.type "int") u ∅ (λv h=>by let(i,t,rfl):=(z v h).1 rfl;exact PySem.W.Looks.of_pure rfl) rfl q
 |2,_,f,q =>
  let(fs,u,y,z):=Gj (-0) (-0) hd f
  exact kat_kind (T:=.type "tuple") u ∅ (λv h=>by
   let(a,o,rfl,B,C):=(z v h).2 rfl;rw[<-C];exact(XR B).andThen .now) rfl q
theorem O6{P:å}{w:î}{A:þ}{s:Ç}{f:Zk}{l:⇑D}{k:Nat}(hd:bM s.heap f l)(g:A.units + 40 < Vj)(o:k < 3)(p:∀ x∈l,jy x=k)(ho:∀ x∈l,g9 x)(hp:∀ x∈l,∀ y∈l,bH x y)(i j:Nat)(hi:i < f.length)(hj:j < f.length)(E:Ä->Ç->Prop)(C:Bool->Ç->Prop)(r:C (MySort.bh ((l.map fb).getD i []) ((l.map fb).getD j [])) s):Ü (ß P w) A (keyLt' (kdOf k) (f.getD i ð) (f.getD j ð)) C E s:=by
 have B:i < l.length:=by rw[<-hd.len];exact hi
 have F:j < l.length:=by rw[<-hd.len];exact hj
 have G:=UN B;have H:=UN F;let(_,I,_):=qM (hp _ G _ H);have J:=hd.get (i:=i) (d:=l[i]) ⋯
 have K:=hd.get (i:=j) (d:=l[j]) ⋯
 rw[(by simp[B]:(l.map fb).getD i []=fb l[i]),(by simp[F]:(l.map fb).getD j []=fb l[j])] at r;generalize MySort.bh _ _=c at I r;have L:=p _ G;have ky:=p _ H;generalize l[i]=x at *
 generalize l[j]=y at *
 have tup:∀ b ,1<=k->(b=true->k=1)->Ü (ß P w) A (keyLt' (tuples' b) (f.getD i ð) (f.getD j ð)) C E s:=λb N hb=>by
  let(x1,xr,rfl,x2,_):=w9 L N o;let(y1,yr,rfl,y2,_):=w9 ky N o;let(f1,as,U):=J;let(f2,bs,X):=K;generalize f.getD i ð=v at U;generalize f.getD j ð=u at X;cases U with
  |tuple p1 p2 p3 p4 =>
   cases X with
   |tuple q1 q2 q3 q4 =>
    refine kat_lt p1 p3 q1 q3 (O5 g _ _ 0 #[f1,_,p4] #[f2,_,q4] I (by have:deep (.tup (x1::xr))=cL _ + 1:=rfl;exact _h (sy (ho _ G))) (λz=>?_) ⋯ r)
    have Y:=hb (by simpa using z)
    exact#[λa q e=>by cases e;exact x2 Y,λa q e=>by cases e;exact y2 Y]
 match k,o,L,ky,tup with
 |0,_,L,ky,_ =>
  let(m,rfl):=wZ L;let(n,rfl):=wZ ky;cases I;let(_,_,U):=J;let(_,_,X):=K;generalize f.getD i ð=v at U;generalize f.getD j ð=u at X;cases U;cases X;exact kat_lt_int r
 |1,_,_,_,tup=>exact tup true (-0) λ_=>rfl|2,_,_,_,tup=>exact tup false (-0) λh=>by cases h
theorem sC(h64:us.length < 64)(hd:bM s.heap us l)(hu:A.units + 40 < Vj)(k3:k < 3)(hk:∀ x∈l,jy x=k)(ho:∀ x∈l,g9 x=true)(hp:∀ x∈l,∀ y∈l,bH x y=true):MySort.rE P w A s us (MySort.sortedBy (l.map fb)) (kdOf k) where
 len:=by omega
 few h2:=MySort.LR (by rw[Æ];exact hd.len) h2
 all p hp:=by rw[hp.1.length_eq,ó,Æ,hd.len]
 kind:=Mv hd k3 hk
 run:=MySort.ID (by rw[Æ];exact hd.len) h64 (O6 hd hu k3 hk ho hp)
theorem aN.pick{K:Ã}{H:Hp}{l:⇑D}{a:⇑V}(h:aN K H l a):∀ {p:Zh},(∀ i∈p,i < l.length)->aN K H (p.map λi=>l.getD i .cD) (p.map λi=>a.getD i .cD)
 |[],_=>.nil
 |i::p,b=>by
  have c:=b i Í;refine .cons ?_ (aN.pick h λj e=>b j (É _ e));let(v,f,g):=h.get (i:=i) (d:=l[i]) ⋯
  simp_all
end Q
namespace Q
open PySem L2 PySem.Spec PyProof.Rows
open PySem.W (kas_mapM kas_first_eq kas_item kas_item_eq kas_cmp)
theorem Gk(h:k<=8):∀ i∈TS.sN k,i < 2 ^ k:=by
 intro i a;exact Nat.blt_eq.mp (Ó.mp ((by decide +kernel:∀ k,k < 9->((TS.sN k).all λi=>Nat.blt i (2 ^ k))=true) k (_a h)) i a)
theorem Mw(h:k<=8):(TS.sN k).length=2 ^ k:=by
 exact Nat.eq_of_beq_eq_true ((by decide +kernel:∀ k,k < 9->beq (TS.sN k).length _=true) k (_a h))
theorem lO(h:i < 2 ^ k):(cS k)[i]?=↑(aQ k i):=by
 unfold cS;rw[Ú,Wz h];rfl
theorem Mx(h:k<=8):((TS.sN k).map λi=>(cS k).getD i .cD)=yP k :=
 Uo λi a=>by rw[Ñ,lO (Gk h i a)];rfl
theorem B1:∀ a b:Zh,wK (a.map λ(i:Nat)=>~~~i) (b.map λ(i:Nat)=>~~~i)=↑(TS.IH a b)
 |[],[]=>rfl|[],_::_=>rfl|_::_,[]=>rfl
 |a::r,b::q=>by
  show(if ((a:Int) == (b:Int))=true then wK _ _ else ↑(decide _))=↑(if beq a b=true then TS.IH r q else Nat.blt a b);rw[B1 r q];by_cases h:a=b
  .simp_all
  .rw[Zw (by simp;omega),Zw λe=>h (Nat.eq_of_beq_eq_true e)]
   congr 1
   rw[UY,Zx,Nat.blt_eq];omega
variable [TB:Tb]
section
variable {P:å}{w:î}{A:þ}{E:Ä->Ç->Prop}{s:Ç}
def TupAt(h:ö)(v:Ä):Prop:=∃ a o b n,v=↥a/\h.get? a=↑o/\o.cls=.type "tuple"/\o.data=.seq b n
theorem yZ(b:s.heap.get? a=↑o)(c:o.cls=.type "tuple")(hd:o.data=.seq xs n)(q:Q xs[0]? s):Ü (ß P w) A (firstOfTuple' ↥a) Q E s:=by
 refine À (PySem.W.Looks.here (show PySem.W.Looks _ s.heap _ o.cls from(XR b).andThen .now) ?_);rw[c];exact À (Yl b hd (Å q))
theorem u9:∀ (b:Zk),(∀ v∈b,TupAt s.heap v)->∃ fs:⇑Zn,∀ Q,Q fs s->Ü (ß P w) A (b.mapM firstOfTuple') Q E s
 |[],_=>#[[],λQ q=>by exact Å q]
 |v::b,h=>by
  let(fs,c):=u9 b λu d=>h u (É _ d);let(a,o,e,n,rfl,f,g,hd):=h v Í;refine#[e[0]?::fs,λQ q=>?_];rw[mapM_cons];exact À (yZ f g hd (À (c _ (Å q))))
theorem Jr(c:s.heap.get? a=↑o)(d:o.cls=.type "tuple")(hd:o.data=.seq [].toArray n)(h:∀ v∈e,TupAt s.heap v)(q:Q oneType' s):Ü (ß P w) A (keyKind' (tv a::e).toArray) Q E s:=by
 let(fs,f):=u9     e h;rw[keyKind'_eq,List.mapM_toArray,mapM_cons];refine À (À (À (yZ c d hd (À (f _ (Å (Å ?_)))))));rw[Zw ⋯,oneTypeOnly'_eq,List.mapM_toArray];refine À (À (À (kas_mapM (r:=.type "tuple") _ (λv g i j=>?_) (Å ?_))))
 .let(b,k,l,m,rfl,p,u,_):=(by
   rcases ã.mp g with rfl | g
   .exact#[_,_,_,_,rfl,c,d,hd]
   .exact h v g:TupAt s.heap v);rw[<-u] at j;exact PySem.W.Looks.here (show PySem.W.Looks _ s.heap _ k.cls from(XR p).andThen .now) j
 .rw[(⋯:(List.map _ _).toArray[0]?=↑(UZ "tuple"))];simp[(⋯:((List.map (λ_=>UZ "tuple") _).toArray.all λx=>x == UZ "tuple")=true),if_true];exact Å (Å q)
theorem Mz(a:XM s.heap l d)(e:XM s.heap b f)(g:A.units < Vj)(h:Lx A.in1 s d.toList f.toList c)(q:Q c s):Ü (ß P w) A (keyLt' oneType' ↥l ↥b) Q E s:=by
 obtain⟨⟨i,j,k,sl⟩,m,o,n,hd⟩:=id a;obtain⟨⟨p,r,u,v⟩,x,y,n2,z⟩:=id e;subst o hd y z;refine À (wpAny_cRoomFor g (À (wpAny_callSpecialIfBound?_slot #[_,m,rfl] YQ (UU YQ #[_,m,rfl] PySem.F.entry_tuple_lt (PySem.F.args_tuple_lt_2 _ _) (qb l b d f n n2 j r sl v c) #[m,x,h,?_]))));exact UW q
theorem MA(h8:k<=8)(hd:bM s.heap us (cS k))(hu:A.units + 40 < Vj):MySort.rE P w A s us (λp=>p=TS.sN k) oneType' where
 len:=by rw[hd.len,cS,Æ,ó];exact â (Nat.pow_le_pow_right (-0) h8) (-0)
 few h2:=by
  rw[hd.len,cS,Æ,ó] at h2 ⊢;cases k with
  |zero=>rfl|succ k=>have:=Nat.one_le_two_pow (n:=k);rw[Nat.pow_succ] at h2;omega
 all p hp:=by subst hp;rw[hd.len,cS,Æ,ó,Mw h8]
 kind h2 E Q q:=by
  have ht:∀ i v,us[i]?=↑v->∃ xs n a o,v=↥a/\s.heap.get? a=↑o/\o.cls=.type "tuple"/\o.data=.seq xs n/\(i=0->xs=[].toArray):=λi v e=>by
   have hi:i < us.length:=(Ý.mp e).1;have hi':i < 2 ^ k:=by rw[hd.len,cS,Æ,ó] at hi;exact hi
   let(_,as,r):=hd.get (lO hi');have e2:us.getD i ð=v:=by rw[Ñ,e];rfl
   rw[e2] at r;have z0:∀ k,TS.kq k 0 0=[]:=λk=>by
    have:∀ k i,TS.kq k i 0=[]:=λk=>by
     induction k with
     |zero=>exact λ_=>rfl|succ k ih=>exact λi=>ih (i + 1)
    exact this k 0
   cases i with
   |zero =>
    have r:Reads s.heap v (yh (.tup ((TS.kq k 0 0).map λ(i:Nat)=>~~~i))) as:=r;rw[z0] at r;cases r with
    | @tuple a o vs n xs as k1 k2 k3 k4 =>
     have:vs.toList=[]:=by cases hv:vs.toList with | nil=>rfl | cons _ _=>rw[hv] at k4;cases k4
     exact#[vs,n,a,o,rfl,k1,k2,k3,λ_=>Array.toList_eq_nil_iff.mp this]
   |succ i =>
    cases r with
    | @tuple a o vs n xs as k1 k2 k3 k4=>exact#[vs,n,a,o,rfl,k1,k2,k3,λe=>by cases e]
  match us,ht with
  |[],_=>simp at h2
  |v::vs,ht =>
   let(xs,n,a,o,rfl,h1,h3,h4,h5):=ht 0 v rfl;cases h5 rfl;refine Jr h1 h3 h4 (λu hu=>?_) q;let(i,hi,rfl):=XD.mp hu;let(xs,n,a,o,e,h1,h3,h4,_):=ht (i + 1) vs[i] (by simp[hi])
   exact#[a,o,xs,n,e,h1,h3,h4]
 run h2:=by
  have hl:us.length=2 ^ k:=by rw[hd.len,cS,Æ,ó]
  have h1:1<=k:=by
   cases k with
   |zero=>rw[hl] at h2;exact absurd h2 (-0)|succ k=>exact _d _ _
  refine TS.runL h1 h8 hl λi j C hi hj hC=>?_;have e1:=kas_item_eq us i;have e2:=kas_item_eq us j;show Ü (ß P w) A (keyLt' oneType' (Uh (pairsOf us) i).1 (Uh (pairsOf us) j).1) C _ s;rw[e1,e2];let(f1,as,r1):=hd.get (lO hi);let(f2,bs,r2):=hd.get (lO hj);show Ü (ß P w) A (keyLt' oneType' (us.getD i ð) (us.getD j ð)) C _ s;generalize us.getD i ð=v at r1;generalize us.getD j ð=u at r2;cases r1 with
  |tuple p1 p2 p3 p4 =>
   cases r2 with
   |tuple q1 q2 q3 q4 =>
    refine Mz #[_,p1,p2,_,p3] #[_,q1,q2,_,q3] (V7 (V9 _ _) hu) ((F8 40).2 _ _ _ _ _ ?_ #[f1,_,p4] #[f2,_,q4] (B1 _ _) hu) hC
    have:∀ l:Zh,cL (l.map λ(i:Nat)=>~~~i)=0:=λl=>by
     induction l with
     |nil=>rfl|cons x r ih=>show X4 0 _=0;rw[ih];rfl
    rw[this];decide
end
section
variable {X:Cx}
theorem Js{zA:Zl}{H:Hp}{k:Nat}{a:⇑V}(b:X.A.units + 64 < Vj)(hd:aN X.K H (cS k) a)(c:k<=8):uV X H a (λp=>p=TS.sN k):=by
 intro d e s f I g;have h:∀ l:Zh,bt (l.map λ(i:Nat)=>~~~i)=true/\jx (l.map λ(i:Nat)=>~~~i) (l.map λ(i:Nat)=>~~~i)=true:=λl=>by
  induction l with
  |nil=>exact#[rfl,rfl]|cons x r j=>exact#[j.1,by show((x:Int) == (x:Int)&&_)=true;rw[j.2];simp]
 have m:∀ l:Zh,bt (l.map (aQ k))=true/\jx (l.map (aQ k)) (l.map (aQ k))=true:=λl=>by
  induction l with
  |nil=>exact#[rfl,rfl]
  |cons x r j =>
   refine#[?_,?_]
   .show(bt _&&_)=true;rw[(h _).1,j.1];rfl
   .show(jx _ _&&_)=true;rw[(h _).2,j.2];rfl
 let(as,n):=lM I hd g (m _).1;exact#[oneType',λo q=>MA c #[(m _).1,_,fA q _ (m _).2 n] (by omega)]
theorem B2{zA:Zl}{H:Hp}{l:⇑D}{a:⇑V}{b:Zh->Prop}(hd:aN X.K H l a)(ok:bI l)(mk:∀ (s:Ç) (c:Zk) (k:Nat),c.length=l.length->bM s.heap c l->k < 3->(∀ x∈l,jy x=k)->(∀ x∈l,g9 x)->(∀ x∈l,∀ y∈l,bH x y)->MySort.rE X.prog X.w X.A.in1.in1 s c b (kdOf k)):uV X H a b:=by
 intro d e s c I f;have g:c.length=l.length:=by rw[<-f.length,hd.length]
 have all:∀ x∈l,jy x < 3/\g9 x=true/\∀ y∈l,bH x y=true:=λx i=>by
  have:=Ó.mp ok x i
  simp_all
 have j:bt l=true:=by
  clear hd mk g
  induction l with
  |nil=>rfl
  |cons x r m =>
   show(eZ x&&bt r)=true;rw[(gf (all x Í).2.1).1];exact m (Ó.mpr λy p=>by simp_all) λy p=>#[(all y (É _ p)).1,(all y (É _ p)).2.1,λz hz=>(all y (É _ p)).2.2 z (É _ hz)]
 let(as,u):=lM I hd f j;have pure :=by
  refine (λq=>by
   induction q with
   |nil=>intro _;rfl|cons x r m=>intro h;show(eqT x x&&jx r r)=true;rw[h x Í,m λy p=>h y (É _ p)];rfl:∀ q ,(∀ x∈q,eqT x x=true)->jx q q=true) l λx i=>?_;have h:=(all x i).2.2 x i;unfold bH at h
  simp_all
 cases l with
 |nil=>exact#[kdOf 0,λv B=>mk _ _ _ g #[j,_,fA B _ pure u] (-0) (λx i=>absurd i ⋯) (λx i=>absurd i ⋯) λx i=>absurd i ⋯]
 |cons x r =>
  have i:=all x Í;exact#[_,λv B=>mk _ _ _ g #[j,_,fA B _ pure u] i.1 (λy p=>(qM (i.2.2 y p)).1) (λy p=>(all y p).2.1) λy p=>(all y p).2.2]
theorem Jt{zA:Zl}{H:Hp}{l:⇑D}{a:⇑V}(b:X.A.units + 64 < Vj)(hd:aN X.K H l a)(c:l.length < 64)(ok:bI l):uV X H a (MySort.sortedBy (l.map fb)) :=
 B2 (zA:=zA) hd ok λ_ _ _ e d f g h i=>sC (V7 (Y5 e) c) d (by grind) f g h i
theorem DJ(b:X.A.units + 64 < Vj):bN X (.builtin "sorted") (DG X.K (n9 .sorted)):=by
 intro d s f H xs g Q I r h;let(j,z,ds,w,n,o,e,q):=h
 match ds,e with
 |[x],e =>
  have e:=e;let(l,u,e):=Ê.mp e;let(v,rfl,B):=o.one;have go:∀ (a:È) (C:⇑V),v=↥a->(gU X.K H a C∨dY X.K H a C)->aN X.K (hz j H) l C->Ü (ß X.prog X.w) X.A (call (.builtin "sorted") g) (EP X d f Q) X.xe s:=λa C E hq hd=>by
   subst E;by_cases c:l.length < 64/\bI l=true
   .rw[Zv c] at e;cases e;let(F,ok):=c;refine nQ d s f H _ g Q I r #[a,C,MySort.sortedBy _,rfl,hq,Jt (zA:=j) b (hd.same (ak j H)) F ok,λp G i J=>by rw[hd.length];simpa using (G.1.mem_iff.mp J),λp lA G L=>?_]
    have N:=hd.pick  λi J=>by simpa using (G.1.mem_iff.mp J)
    rw[B0 (λx o y hy=>?_) G] at N
    .exact q _ _ (ae.new _ L) (cQ n N L)
    .have:=Ó.mp ok x o;rw[Á,Á,Uq] at this;exact(qM (this.2.2 y hy)).2.2
   .rw[Zw c] at e;let(l',e1,rfl):=Ë.mp e;let(k,e2,rfl):=Ë.mp e1;have e3:=qL _ _ (List.find?_some (p:=λk=>jx l _) e2);have P:=by have:=List.mem_of_find?_eq_some e2;simp at this;exact _h this
    subst e3;refine nQ d s f H _ g Q I r #[a,C,λp=>p=TS.sN k,rfl,hq,Js (zA:=j) b (hd.same (ak j H)) P,λp G i J=>?_,λp lA G L=>?_]
    .subst G;rw[hd.length,cS,Æ,ó];exact Gk P i J
    .subst G;have N:=hd.pick (p:=TS.sN k) λi J=>by rw[cS,Æ,ó];exact Gk P i J
     rw[Mx P] at N;exact q _ _ (ae.new _ L) (cQ n N L)
  cases x with
  |tup m =>
   cases u;let(a,C,rfl,U,Y):=B.fW;exact go a C rfl (.inr ((ak j H).j6 U)) Y
  |lst m =>
   cases u;let(a,C,rfl,U,Y):=B.jZ;exact go a C rfl (.inl (U.same (ak j H)).sq) Y
  |_=>cases u
end
end Q
namespace SS
open PySem PySem.W PyProof.Rows MySort
def Gm(m:Nat):Nat->Nat
 |0=>0|i + 1=>(fw m).getD i 0 + 1
theorem DK:((ë 256).all λm=>(ë ((fw m).length + 1)).all λi=>WR (fw m).toArray (Gm m i) == i):=by decide +kernel
theorem DL(b:Bool)(m:Nat):(cK b m).plain:=by delta cK;split <;> rfl
theorem Ju(b:Bool)(m:Nat):(cK b m).led=b:=by delta cK;split <;> rfl
theorem vb(b:Bool)(m:Nat):(cK b m).place=(fw m).toArray:=by delta cK;split <;> rfl
theorem KQ{w:î}{m:Nat}{g:Nat->Tok}(hm:m < 256):ux w (cK (led w) m) (ent g m) where
 fits:=by rw[aH];exact(gH _ hm).1
 plain:=DL _ _
 led:=Ju _ _
 below:=λi hi=>by
  rw[aH] at hi;have h:=ZD (Ó.mp (Ó.mp DK m (Uc.mpr hm)) i (Uc.mpr (Nat.lt_succ_of_le hi)));have e:nZ (cK (led w) m) i=Gm m i:=by
   cases i with
   |zero=>rfl
   |succ i =>
    show(cK (led w) m).place.getD i 0 + 1=(fw m).getD i 0 + 1;rw[vb];simp[Array.getD,Ñ];split <;> simp_all
  rw[e,vb];exact h
 small:=by
  rw[aH];exact â (U6 _ _) ⋯
def key:Ä->Int
 |.int i _=>i|_=>0
theorem y4(m:Nat):(fw m).Pairwise (· < ·):=UR _ Vc
theorem sD:∀ a:Nat,a < 8->∀ b:Nat,b < 8->Q.bH (~~~a) (~~~b):=by decide
section
variable {P:å}{w:î}{A:þ}{E:Ä->Ç->Prop}{s:Ç}{S ep m:Nat}{g:Nat->Tok}{o:Obj}
def i7(w:î)(S ep:Nat)(g:Nat->Tok)(m:Nat):⇑Value:=(ord w S ep (ent g m)).toList.map (·.2)
def og(w:î)(S ep:Nat)(g:Nat->Tok)(m:Nat):⇑L2.D:=(i7 w S ep g m).map λv=>~~~(key v)
theorem oh:(i7 w S ep g m).Perm ((fw m).map λ(i:Nat)=>VD i (g i)):=by
 have:=(rS w S ep (ent g m)).map (·.2);unfold ent at this;rw[æ] at this;exact this
theorem xc(h:v∈i7 w S ep g m):∃ i,i < 8/\v=.int (i:Nat) (g i):=by
 let(i,a,rfl):=Ð.mp (oh.mem_iff.mp h);exact#[i,(nX.mp a).1,rfl]
theorem pD(h:ö):∀ a:Zk,(∀ v∈a,∃ (i:Nat) (t:Tok),v=.int i t)->Q.bM h a (a.map λv=>~~~(key v))
 |[],_=>#[rfl,[],.nil]
 |v::r,k=>by
  let(i,t,rfl):=k v Í;let(b,as,c):=pD h r λv d=>k v (É _ d);exact#[b,_,.cons (.int _ _) c]
theorem y6(c:sortedBy ((og w S ep g m).map Q.fb) p):(p.map λi=>(i7 w S ep g m).getD i ð)=(fw m).map λ(i:Nat)=>VD i (g i):=by
 let(d,f):=c;rw[(by delta og;simp:((og w S ep g m).map Q.fb).length=(i7 w S ep g m).length)] at d;have k:(p.map λi=>(i7 w S ep g m).getD i ð).Perm ((fw m).map λ(i:Nat)=>VD i (g i)):=by
  apply List.Perm.trans (d.map _);rw[MySort.range_getD];exact oh
 refine UB (le:=λu v=>key u<=key v) (λu v l n q r=>?_) ?_ ?_ k
 .let(i,x,rfl):=Ð.mp (k.mem_iff.mp l);let(j,y,rfl):=Ð.mp n;have q:(i:Int)<=j:=q;have r:(j:Int)<=i:=r
  grind
 .rw[(by
   rw[æ];refine Uo λi x=>?_;delta og
   simp[by simpa using d.mem_iff.mp x,Q.fb]:(p.map _)=(p.map λi=>(i7 w S ep g m).getD i ð).map λv=>[key v]),X7] at f;refine f.imp λ{u v} h=>?_;simp[bh] at h;omega
 .rw[X7];exact(y4 m).imp λ{a b} h=>by show(a:Int)<=b;exact Ww (_k h)
theorem AO{R:Ä->Ç->Prop}(a:A.handled=none)(f:A.units + 64 < Vj)(k:m < 256)(l:s.heap.get? S=↑o)(n:o.ExactSet)(hd:o.data=.set (ent g m) ep (cK (led w) m))
  (h:∀ q r x c,s.heap.objs.size<=q->(∀ b u,s.heap.get? b=↑u->r.get? b=↑u)->r.get? q=↑(UD "list" ((fw m).map λ(i:Nat)=>VD i (g i)).toArray c)->R ↥q { s with heap:=r,toks:=x }):Ü (ß P w) A (call (.builtin "sorted") [↥S]) R E s:=by
 have y:(i7 w S ep g m).length<=8:=by
  rw[oh.length_eq,Æ];exact â (U6 _ _) ⋯
 apply VH kind_sorted plain_sorted entry_sorted (args_sorted1 _);refine À  (Å ?_);refine À (kz (by simp[a]) (KQ k) l n hd λz x B C=>?_)
 refine À (WY ?_ (by show(i7 w S ep g m).length<=_;rw[gV];omega))
 have F:(z.push _).get? z.objs.size=↑(UD "list" (i7 w S ep g m).toArray 0):=Ì _ rfl;have G:∀ r,rE P w A.in1.in1 { s with heap:=r,toks:=x } _ (sortedBy ((og w S ep g m).map Q.fb)) (Q.kdOf 0):=λr=>by
  have H:∀ d∈og w S ep g m,∃ i:Nat,i < 8/\d= ~~~i:=λd hd=>by
   let(v,I,rfl):=Ð.mp hd;let(i,J,rfl):=xc I;exact#[i,J,rfl]
  letI:Q.Tb:=#[[]]
  refine Q.sC ∅ (pD r _ λv I=>by let(i,_,rfl):=xc I;exact#[i,_,rfl]) (by grind) (-0) (λd hd=>?_) (λd hd=>?_) λd hd e K=>?_
  .let(i,_,rfl):=H d hd;rfl
  .let(i,_,rfl):=H d hd;rfl
  .let(i,J,rfl):=H d hd;let(j,L,rfl):=H e K;exact sD i J j L
 refine À (û (My slot_list_sort #[_,F,rfl] entry_list_sort (ko F (λr _=>G r) λp r c N U X=>#[_,rfl,Å #[_,rfl,?_]]) (YE _)));rw[y6 N] at X;exact h _ r x c (Vb B) (λb u e=>U b u (Ù (à (C b u e))) (Â _ (C b u e))) X
end
end SS
namespace Q
open PySem L2 PySem.Spec PyProof.Rows
variable [TB:Tb]
structure Gs where
 fns:⇑(Str × ⇑Str)
 nums:⇑(Str × Int)
 F:FT
 cls:Nat->Addr
 lv:Nat
def EPost(G:Gs)(a:Zl)(E:XK)(c:Nat)(z:Z)(H:Hp):Prop:=∀ e b,Ext a H b->aF a z b->b e=none->E ↥(G.cls c) ↑e b
theorem EPost.mono(h:EPost G b E c z H)(e:Ext b H H1):EPost G b E c z H1:=λa d x s n=>h a d (e.trans x) s n
def O7(K:Ã)(G:Gs)(a:Zl)(E:XK)(H:Hp)(Q:VK):R S->Prop
 |.ok s b=>∀ v d,Ext a H d->aF a b d->my K a H d s v->Q v d|.er c b=>EPost G a E c b H
def sE(K:Ã)(G:Gs)(a:Zl)(E:XK)(H:Hp)(Q:VK):R ⇑S->Prop
 |.ok l b=>∃ s,l=[s]/\∀ v d,Ext a H d->aF a b d->my K a H d s v->Q v d|.er c b=>EPost G a E c b H
def O8(K:Ã)(G:Gs)(a:Zl)(E:XK)(H:Hp)(Q:⇑V->Hp->Prop):R ⇑S->Prop
 |.ok l b=>∀ d e,Ext a H e->aF a b e->UJ (my K a H e) l d->Q d e|.er c b=>EPost G a E c b H
def B3(G:Gs)(a:Zl)(E:XK)(H:Hp)(Q:Bool->Hp->Prop):R ⇑S->Prop
 |.ok l e=>∃ b,l=[.d (.bl b)]/\∀ f,Ext a H f->aF a e f->Q b f|.er c e=>EPost G a E c e H
def eS(K:Ã)(a:Zl)(H:Hp)(b:Env)(c:L2.St):Prop:=∀ (i:Nat) (s:S),b[i]?=↑↑s->∃ v,c[i]?=↑↑v/\wU K a H s v
theorem eS.mono{K:Ã}{c:Zl}{H d:Hp}{f:Env}{g:L2.St}(h:eS K c H f g)(e:Ext c H d):eS K c d f g:=λi s q=>let #[v,a,b]:=h i s q;#[v,a,b.mono e]
inductive tI (K:PySem.W.Frag) (G:Gs) (E:XK) (x:Ex) (σ:L2.St) (H:Hp) (Q:VK):Prop where
 |mk (zA ρ z r) (h0_:eS K zA H ρ σ) (h1_:aF zA z H) (h2_:ev G.F x ρ z=↑r) (h3_:sE K G zA E H Q r):tI K G E x σ H Q
inductive tA (K:PySem.W.Frag) (G:Gs) (E:XK) (x:Ex) (σ:L2.St) (H:Hp) (Q:⇑V->Hp->Prop):Prop where
 |mk (zA ρ z r) (h0_:eS K zA H ρ σ) (h1_:aF zA z H) (h2_:ev G.F x ρ z=↑r) (h3_:O8 K G zA E H Q r):tA K G E x σ H Q
inductive tT (K:PySem.W.Frag) (G:Gs) (E:XK) (x:Ex) (σ:L2.St) (H:Hp) (Q:Bool->Hp->Prop):Prop where
 |mk (zA ρ z r) (h0_:eS K zA H ρ σ) (h1_:aF zA z H) (h2_:ev G.F x ρ z=↑r) (h3_:B3 G zA E H Q r):tT K G E x σ H Q
def Im(K:Ã)(G:Gs)(f n:Nat):Sp:=λa H Q E=>a.length=n/\∃ b z c r,u6 K b H c a/\aF b z H/\G.F false f c z=↑r/\O7 K G b E H Q r
section
variable {K:Ã}{G:Gs}{E:XK}{a x:Ex}{ρ:Env}{z:Z}{zA:Zl}{σ:L2.St}{H:Hp}
theorem bU{b:Type}{k:⇑S->M b}{r:R b}(d:eS K zA H ρ σ)(e:aF zA z H)(h:Zd (ev G.F a ρ) k z=↑r)(f:∀ c g,r=.er c g->EPost G zA E c g H)
  (i:∀ l g,k l g=↑r->∃ s,l=[s]/\∀ v j,Ext zA H j->aF zA g j->my K zA H j s v->m v j):tI K G E a σ H m:=by
 rcases M.bind_some h with ⟨l,g,n,o⟩ | ⟨c,g,n,o⟩
 .exact#[zA,ρ,z,_,d,e,n,i l g o]
 .exact#[zA,ρ,z,_,d,e,n,f c g o]
theorem oi{b:Type}{k:⇑S->M b}{r:R b}(d:eS K zA H ρ σ)(e:aF zA z H)(h:Zd (ev G.F a ρ) k z=↑r)(f:∀ c g,r=.er c g->EPost G zA E c g H)
  (i:∀ l g,k l g=↑r->∀ j m,Ext zA H m->aF zA g m->UJ (my K zA H m) l j->n j m):tA K G E a σ H n:=by
 rcases M.bind_some h with ⟨l,g,o,p⟩ | ⟨c,g,o,p⟩
 .exact#[zA,ρ,z,_,d,e,o,i l g p]
 .exact#[zA,ρ,z,_,d,e,o,f c g p]
theorem oj{e:Type}{k:Bool->M e}{r:R e}{f:Bool->Hp->Prop}(g:eS K zA H ρ σ)(i:aF zA z H)(h:Zd (ev G.F a ρ) (λx=>Zd (Zf ((pl x).bind pZ)) k) z=↑r)(j:∀ c m,r=.er c m->EPost G zA E c m H)
  (n:∀ b m,k b m=↑r->∀ o,Ext zA H o->aF zA m o->f b o):tT K G E a σ H f:=by
 rcases M.bind_some h with ⟨l,m,p,q⟩ | ⟨c,m,p,q⟩
 .let(b,u,v):=M.ai q;let(d,A,B):=Ê.mp u;have C:l=[.d (.bl b)]:=by
   let(s,rfl,hs):=bJ A;cases s with
   |d y=>cases hs;cases d <;> first | (cases B;rfl) | cases B
   |fr I=>cases hs;cases B
   |_=>cases hs
  exact#[zA,ρ,z,_,g,i,p,b,C,n b m v]
 .exact#[zA,ρ,z,_,g,i,p,j c m q]
theorem kG{l:⇑S}{s:S}(h:one l=↑s):l=[s]:=by
 delta one at h
 split at h
 .cases h;rfl
 .cases h
end
theorem PE.imp(h:PE X e t)(i:∀ a H Q,b a H Q->t a H Q):PE X e b:=λc s a H Q I q=>h c s a H Q I (i _ _ _ q)
theorem PT.imp(h:PT X e t)(i:∀ a H Q,b a H Q->t a H Q):PT X e b:=λc s a H Q I q=>h c s a H Q I (i _ _ _ q)
theorem PW.imp(h:PW X e t)(i:∀ a H Q,b a H Q->t a H Q):PW X e b:=λw c s a H Q I q=>h w c s a H Q I (i _ _ _ q)
theorem PA.imp(h:PA X e t)(i:∀ a H Q,b a H Q->t a H Q):PA X e b:=λp c s a H Q I q=>h p c s a H Q I (i _ _ _ q)
def noStar:Ö->Bool
 |.Starred ..=>false|_=>true
theorem bF(h:noStar e)(a:Zm)(b:VV):Ul (e::a) b=(false,eval e b)::Ul a b:=by
 cases e <;> first | rfl | cases h
theorem gI:∀ {a:Zm} (b:VV) (pos:Pos),a.all noStar->(backTo pos (Ul a b)).any (·.1)=false
 |[],_,_,_=>rfl
 |e::a,b,pos,h=>by
  rw[U7,Á] at h;rw[bF h.1];show(false || (backTo pos _).any _)=false;rw[gI b pos h.2];rfl
def plainT:Ö->Bool
 |.UnaryOp .Not _ _=>false|.BoolOp ..=>false|.IfExp ..=>false|.Compare ..=>false|_=>true
theorem DM(h:plainT e=true)(env:VV)(whole:Sem Ä):isTrue e env whole=(do let v <-whole;standAt e.pos;holding [v] (truthy v)):=by
 cases e with
 |UnaryOp op _ _=>cases op <;> first | rfl | cases h
 |BoolOp _ _ _=>cases h
 |IfExp _ _ _ _=>cases h
 |Compare _ _ _ _=>cases h
 |_=>rfl
def hJ:Ö->Bool
 |.Slice ..=>false|_=>true
theorem jA(h:hJ e=true):BD e:=λo i=>by
 cases e with
 |Slice _ _ _ _=>cases h
 |_=>rfl
def gu:Ö->Bool
 |.Set ..=>false|_=>true
theorem pE(h:gu e=true)(op:CmpOp):behindInMarks op e=false:=by
 cases e with
 |Set _ _ _=>cases h
 |_=>rfl
structure aw(X:Cx)(G:Gs)(E:XK)(x:Ex)(e:Expr):Prop where
 pe:PE X e (tI X.K G E x)
 pt:(∀ t a b p,e≠.IfExp t a b p)->PT X e (tT X.K G E x)
 pw:∀ op vs p,e=.BoolOp op vs p->PW X e (tT X.K G E x)
theorem aG(h:PE X e (tI X.K G E x))(a:plainT e):aw X G E x e:=by
 refine#[h,λ_=>PT.imp (vW h (DM a X.env)) λd H Q q=>?_,λf g p i=>?_]
 .let(j,k,z,r,m,n,e,o):=q;refine#[j,k,z,r,m,n,e,?_];cases r with
  |er c s=>exact o
  |ok l s =>
   let(b,rfl,o):=o;exact#[_,rfl,λv u ex y A=>#[b,Hd.yV (show Hd X.K (hz j u) _ v from A),o u ex y]]
 .subst i;cases a
def bS:Ex->Bool
 |.nil=>true|.cons _ _=>true|_=>false
def Good(X:Cx)(G:Gs)(E:XK):Ex->Zm->Prop
 |.nil,b=>b=[]|.cons a r,b=>∃ e c,b=e::c/\noStar e=true/\aw X G E a e/\bS r=true/\Good X G E r c|x,b=>∃ e,b=[e]/\aw X G E x e
theorem Good.args:∀ {x:Ex}{b:Zm},bS x->Good X G E x b->PA X b (tA X.K G E x)/\b.all noStar:=by
 intro x
 induction x with
 |nil =>
  intro b _ h;subst h;refine#[PA.imp cM λd H Q q=>?_,rfl];let(f,i,z,r,j,k,e,m):=q;cases e;exact m [] H Ext.refl k .nil
 |cons a r _ n =>
  intro b _ h;let(e,o,rfl,p,g,u,y):=h;let(A,B):=n u y;refine#[PA.imp (bA g.pe A (bF p o X.env)) λd H Q q=>?_,by rw[U7,p,B];rfl]
  let(f,i,z,C,j,k,e,m):=q;have F:∀ c I,C=.er c I->EPost G f E c I H:=λc I e=>by subst e;exact m
  refine bU j k e F λl I J=>?_;let(s,hs,e2):=M.ai J;refine#[s,kG hs,λv H1 L aO rv=>?_];refine oi (j.mono L) aO e2 (λc N q=>(F c N q).mono L) λl2 N e3 vs H2 P U Y=>?_;cases e3;exact m _ H2 (L.trans P) U (.cons (rv.mono P) (UJ.Aj Y λ_ _ q=>q.from L))
 |_=>intro b h;cases h
def AQ:Zj:=["len","sorted","tuple","list","sum","min","max","abs","all","any","int","bool","str","isinstance","range","zip","enumerate","set"]
def lowG(G:Gs)(k:Nat):Gs:={ G with F:=cT G.F,lv:=k }
structure fX(X:Cx)(G:Gs)(sc:Scope)(c P:Addr)(q:Str)(k:Nat)(fR:Addr)(fdR:FuncData):Prop where
 sco:X.env.scope=sc
 code:X.env.code=↥c
 hd:PySem.W.codeHdIn X.K c P=true
 qual:X.env.qual++"<lambda>"=q
 tb:(P,q)∈TB.tb
 uq:∀ p∈TB.tb,p.1=P->p.2=q
 bm:BMain X.mg X.base
 lv:G.lv=k + 2
 cls:∀ j,j < 12->pq X.K X.mg (G.cls j) j
 m:X.mg "_law_refused"=↑↥fR
 kp:PySem.W.keepIn X.K ↥fR=true
 bd:Binds X.K fdR ["_law_call"] []
 fn:nU X.prog X.w X.K X.mg X.base yu (k + 2) fR fdR ["_law_call"] (Fz X.prog X.w X.K X.mg X.base (k + 1))
 low:∀ f nm ps,G.fns[f]?=↑(nm,ps)->∃ fa fd,X.mg nm=↑↥fa/\PySem.W.keepIn X.K ↥fa=true/\Binds X.K fd ps []/\jo X.prog X.w X.K X.mg X.base (pX X.prog X.w) k fa fd ps (Im X.K (lowG G k) f ps.length)
theorem fX.rm(L:fX X G sc c P q k a b)(r:ez G.lv A):ez (k + 2) A:=by rw[<-L.lv];exact r
def O9(X:Cx)(G:Gs)(a:ò):Prop:=∃ c P q k b d,fX X G a c P q k b d
structure XI(lm:Bool)(X:Cx)(G:Gs)(E:XK)(N:⇑Str)(sc:Scope):Prop where
 gok:∀ f nm ps,G.fns[f]?=↑(nm,ps)->∃ fa fd,X.mg nm=↑↥fa/\PySem.W.keepIn X.K ↥fa=true/\Binds X.K fd ps []/\jo X.prog X.w X.K X.mg X.base (pX X.prog X.w) G.lv fa fd ps (Im X.K G f ps.length)
 num:∀ p∈G.nums,∃ t,X.mg p.1=↑(.int p.2 t)
 blt:∀ n∈AQ,X.mg n=none
 hN:X.N=N
 nd:N.Nodup
 vis:∀ x∈N,Bq X.env.scope x
 glb:∀ x,sc.names.lookup x=↑.globalImplicit->Gl X x
 cel:∀ x,(sc.names.lookup x=↑.cell∨sc.names.lookup x=↑.free)->(X.env.kindOf x=↑.cell∨X.env.kindOf x=↑.free)
 calm:X.calm=true
 room:ez G.lv X.A
 pas:Passes (pX X.prog X.w) X E
 lam:lm=true->O9 X G sc
def glob(a:ò)(x:Str):Bool:=a.names.lookup x == ↑.globalImplicit&&!(x == ("__debug__":Str))&&!(x == ("__name__":Str))
def az(x:Str):Bool:=!(x == ("__debug__":Str))&&!(x == ("__classdict__":Str))
def Pa:Const->D->Bool
 |~~~i,~~~j=>i == j|.bool a,.bl b=>a == b|.str x,.str y=>x == y|.none,.cD=>true|_,_=>false
def Ta:Bf->Str × Bool
 |.len=>("len",false) | .sorted=>("sorted",false) | .tuple=>("tuple",true) | .list=>("list",true) | .sum=>("sum",false) | .min=>("min",false) | .max=>("max",false)|.all=>("all",false) | .int=>("int",true) | .sset=>("sorted",false) | .oZ=>("len",false)
def served:Bf->Bool
 |.len | .tuple | .list | .min | .max | .all | .int | .sorted | .sum=>true|_=>false
mutual
noncomputable def fi(N:Zj)(loc:Str->Bool):iD->Ö->Bool
 |.v i=>λe=>match e with
  |.Name x _=>N[i]? == ↑x&&loc x|_=>false
 |.tup a=>λe=>match e with
  |.Tuple b _ _=>AR N loc a b|_=>false
 |.nil=>λ_=>false|.cons _ _=>λ_=>false
noncomputable def AR(N:Zj)(loc:Str->Bool):iD->Zm->Bool
 |.nil=>λb=>b.isEmpty
 |.cons p r=>λb=>match b with
  |e::b=>noStar e&&fi N loc p e&&AR N loc r b|[]=>false
 |.v _=>λ_=>false|.tup _=>λ_=>false
end
def fB:Ö->Bool
 |.Tuple ..=>true|_=>false
def cH:Ö->Zj
 |.Name x _=>[x]|.Tuple c _ _=>names c|_=>[]
where names:Zm->Zj
 |[]=>[]|.Name x _::r=>x::names r|.Tuple [.Name a _,.Name b _] _ _::r=>a::b::names r|_::r=>names r
def jB(a b:ò)(N own:Zj)(c:⇑(Str × Nat)):Bool :=
 a.kind == .function&&a.names.all (λy=>y.2 != .cell)&&a.names.all (λy=>y.2 != .local || a.names.lookup y.1 == ↑.local) &&
  a.names.all (λy=>y.2 != .free || (b.names.lookup y.1 == ↑.cell || b.names.lookup y.1 == ↑.free))&&c.all (λp=>N[p.2]? == ↑p.1&&a.names.lookup p.1 == ↑.free) &&
  own.all (λx=>a.names.lookup x == ↑.local)&&decide (own++c.map (·.1)).Nodup
def ay(N:Zj):Zh->⇑(Str × Nat)
 |[]=>[]
 |i::r=>match N[i]? with
  |↑x=>(x,i)::ay N r|none=>ay N r
def opt{b:Type}(o:Option b)(f:b->Bool):Bool:=match o with
 |↑a=>f a|none=>false
theorem aA{b:Type}{o:Option b}{f:b->Bool}(h:opt o f):∃ a,o=↑a/\f a:=by
 cases o with
 |none=>cases h
 |some a=>exact#[a,rfl,h]
theorem oe{α:Type _}{o:Option α}{f:α->Bool}{C:Prop}(h:opt o f=true)(k:∀ q,f q=true->C):C:=by
 cases o with
 |none=>cases h
 |some a=>exact k a h
def Pb:(e:Zm)->Option {q:Str × Pos // e=[.Name q.1 q.2]}
 |[.Name n p]=>↑#[(n,p),rfl]|_=>none
def Pc:(e:Zm)->Option {q:Const × Nat × Pos // e=[.Constant q.1 q.2.1 q.2.2]}
 |[.Constant c k p]=>↑#[(c,k,p),rfl]|_=>none
def Pd:(e:Zm)->Option {q:Pos // e=[.Dict [] [] q]}
 |[.Dict [] [] p]=>↑#[p,rfl]|_=>none
def Pe:(e:Zm)->Option {q:Zm × Nat × Pos // e=[.Tuple q.1 q.2.1 q.2.2]}
 |[.Tuple l k p]=>↑#[(l,k,p),rfl]|_=>none
def Pf:(e:Zm)->Option {q:Zm × Pos // e=[.List q.1 q.2]}
 |[.List l p]=>↑#[(l,p),rfl]|_=>none
def Pg:(e:Zm)->Option {q:Ö × Xw × Ö × Pos // e=[.BinOp q.1 q.2.1 q.2.2.1 q.2.2.2]}
 |[.BinOp l o r p]=>↑#[(l,o,r,p),rfl]|_=>none
def Ph:(e:Zm)->Option {q:Ö × CmpOp × Ö × Pos // e=[.Compare q.1 [q.2.1] [q.2.2.1] q.2.2.2]}
 |[.Compare l [o] [r] p]=>↑#[(l,o,r,p),rfl]|_=>none
def Sa:(e:Zm)->Option {q:Str × Pos × Str × Pos × Ö × Pos × Pos // e=[.Call (.Name q.1 q.2.1) [.Call (.Name q.2.2.1 q.2.2.2.1) [q.2.2.2.2.1] [] q.2.2.2.2.2.1] [] q.2.2.2.2.2.2]}
 |[.Call (.Name n a) [.Call (.Name m p2) [x] [] b] [] c]=>↑#[(n,a,m,p2,x,b,c),rfl]|_=>none
def Pj:(e:Zm)->Option {q:Ö × Pos // e=[.UnaryOp .USub q.1 q.2]}
 |[.UnaryOp .USub x p]=>↑#[(x,p),rfl]|_=>none
def Pk:(e:Zm)->Option {q:Ö × Pos // e=[.UnaryOp .Not q.1 q.2]}
 |[.UnaryOp .Not x p]=>↑#[(x,p),rfl]|_=>none
def Pl:(e:Zm)->Option {q:Ö × Ö × Zm × Pos // e=[.BoolOp .And (q.1::q.2.1::q.2.2.1) q.2.2.2]}
 |[.BoolOp .And (l::r::v) p]=>↑#[(l,r,v,p),rfl]|_=>none
def Pm:(e:Zm)->Option {q:Ö × Ö × Zm × Pos // e=[.BoolOp .Or (q.1::q.2.1::q.2.2.1) q.2.2.2]}
 |[.BoolOp .Or (l::r::v) p]=>↑#[(l,r,v,p),rfl]|_=>none
def Pn:(e:Zm)->Option {q:Ö × Ö × Ö × Pos // e=[.IfExp q.1 q.2.1 q.2.2.1 q.2.2.2]}
 |[.IfExp t x y p]=>↑#[(t,x,y,p),rfl]|_=>none
def Sb:(e:Zm)->Option {q:Ö × CmpOp × CmpOp × Ö × Ö × Pos // e=[.Compare q.1 [q.2.1,q.2.2.1] [q.2.2.2.1,q.2.2.2.2.1] q.2.2.2.2.2]}
 |[.Compare l [o,a] [r,s] p]=>↑#[(l,o,a,r,s,p),rfl]|_=>none
def Po:(e:Zm)->Option {q:Str × Pos × Ö × Zm × Pos // e=[.Call (.Name q.1 q.2.1) (q.2.2.1::q.2.2.2.1) [] q.2.2.2.2]}
 |[.Call (.Name n a) (x::l) [] p]=>↑#[(n,a,x,l,p),rfl]|_=>none
def Sd:(e:Zm)->Option {q:Str × Pos × Str × Pos × Ö × Pos × Pos // e=[.Call (.Name q.1 q.2.1) [.Call (.Name q.2.2.1 q.2.2.2.1) [q.2.2.2.2.1] [] q.2.2.2.2.2.1] [] q.2.2.2.2.2.2]}
 |[.Call (.Name n a) [.Call (.Name m p2) [x] [] b] [] c]=>↑#[(n,a,m,p2,x,b,c),rfl]|_=>none
def Se:Bf->Bool
 |.sset=>true|_=>false
def Pp:(e:Zm)->Option {q:Str × Pos × Ö × Ö × Pos // e=[.Call (.Name q.1 q.2.1) [q.2.2.1,q.2.2.2.1] [] q.2.2.2.2]}
 |[.Call (.Name n a) [x,ty] [] p]=>↑#[(n,a,x,ty,p),rfl]|_=>none
def Sf:(e:Zm)->Option {q:Ö × Ö × Pos // e=[.Subscript q.1 q.2.1 q.2.2]}
 |[.Subscript v x p]=>↑#[(v,x,p),rfl]|_=>none
def Sg:(e:Zm)->Option {q:Ö × Zt × Zt × Pos × Pos // e=[.Subscript q.1 (.Slice q.2.1 q.2.2.1 none q.2.2.2.1) q.2.2.2.2]}
 |[.Subscript v (.Slice l h none a) p]=>↑#[(v,l,h,a,p),rfl]|_=>none
def Pq:(e:Zm)->Option {q:Ö × Nat × Pos × Pos × Pos × Pos // e=[.Subscript q.1 (.Slice none none ↑(.UnaryOp .USub (.Constant (~~~1) q.2.1 q.2.2.1) q.2.2.2.1) q.2.2.2.2.1) q.2.2.2.2.2]}
 |[.Subscript v (.Slice none none ↑(.UnaryOp .USub (.Constant (~~~1) k a) b) c) p]=>↑#[(v,k,a,b,c,p),rfl]|_=>none
def MB:(e:Zm)->Option {q:Ö × Ö × Ö × Zm × ò × Pos // e=[.ListComp q.1 [#[q.2.1,q.2.2.1,q.2.2.2.1,0]] q.2.2.2.2.1 q.2.2.2.2.2]}
 |[.ListComp a [#[b,c,d,0]] f p]=>↑#[(a,b,c,d,f,p),rfl]|_=>none
def DN:(e:Ö)->Option {q:Str × Pos × Ö × Pos // e=.Call (.Name q.1 q.2.1) [q.2.2.1] [] q.2.2.2}
 |.Call (.Name n b) [a] [] p=>↑#[(n,b,a,p),rfl]|_=>none
def DO:(e:Ö)->Option {q:Str × Pos × Ö × Ö × Pos // e=.Call (.Name q.1 q.2.1) [q.2.2.1,q.2.2.2.1] [] q.2.2.2.2}
 |.Call (.Name n c) [a,b] [] p=>↑#[(n,c,a,b,p),rfl]|_=>none
def Tc:(e:Ö)->Option {q:Str × Pos // e=.Name q.1 q.2}
 |.Name n p=>↑#[(n,p),rfl]|_=>none
def Pu:(e:Ö)->Option {q:Str × Pos × Str × Pos × Nat × Pos // e=.Tuple [.Name q.1 q.2.1,.Name q.2.2.1 q.2.2.2.1] q.2.2.2.2.1 q.2.2.2.2.2}
 |.Tuple [.Name a c,.Name b d] k p=>↑#[(a,c,b,d,k,p),rfl]|_=>none
def Sh:(e:Zm)->Option {q:Str × Pos × Int × Nat × Pos × Pos // e=[.Subscript (.Name q.1 q.2.1) (.Constant (~~~q.2.2.1) q.2.2.2.1 q.2.2.2.2.1) q.2.2.2.2.2]}
 |[.Subscript (.Name n p) (.Constant (~~~j) c a) r]=>↑#[(n,p,j,c,a,r),rfl]|_=>none
def Si:(e:Zm)->Option {q:Str × Pos × Str × Pos × Zm × Pos × Pos // e=[.Call (.Name q.1 q.2.1) [.Call (.Name q.2.2.1 q.2.2.2.1) q.2.2.2.2.1 [] q.2.2.2.2.2.1] [] q.2.2.2.2.2.2]}
 |[.Call (.Name n p) [.Call (.Name m a) l [] r] [] t]=>↑#[(n,p,m,a,l,r,t),rfl]|_=>none
def Pw:(e:Zm)->Option {q:Str × Pos × Ö × ò × Pos × Pos // e=[.Call (.Name q.1 q.2.1) [.Lambda #[[],[],none,[],[],none,[]] q.2.2.1 q.2.2.2.1 q.2.2.2.2.1] [] q.2.2.2.2.2]}
 |[.Call (.Name n p) [.Lambda #[[],[],none,[],[],none,[]] b c l] [] t]=>↑#[(n,p,b,c,l,t),rfl]|_=>none
def TU(a:ò):Ty->Ö->Bool
 |.seq=>λe=>opt (Pu e) λq=>q.1.1 == ("tuple":Str)&&q.1.2.2.1 == ("list":Str)&&glob a "tuple"&&glob a "list"|t=>λe=>opt (Tc e) λq=>q.1.1 == VP (Ge t)&&glob a (VP (Ge t))
def MC:D->Bool
 |.dct=>true|_=>false
def Jv:Ö->Bool
 |.IfExp ..=>true|_=>false
def i8(a b:ò)(c:⇑(Str × Nat)):Bool :=
 a.kind == .function&&!a.isCoroutine&&!a.isGenerator&&a.names.all (λy=>y.2 != .cell)&&a.names.all (λy=>y.2 != .free || b.names.lookup y.1 == ↑.cell)&&c.all (λp=>a.names.lookup p.1 == ↑.free)&&decide (c.map (·.1)).Nodup
def mt:Bool->⇑(Str × Zj)->⇑(Str × Int)->Ex->ò->Zj->Zm->Bool
 |h,j,nums,.nil=>λ_ _ l=>l.isEmpty
 |h,j,nums,.cons a r=>λm N l=>match l with
  |e::l=>noStar e&&!bS a&&bS r&&mt h j nums a m N [e]&&mt h j nums r m N l|[]=>false
 |h,j,nums,.var i=>λ_ N l=>opt (Pb l) λq=>N[i]? == ↑q.1.1&&az q.1.1|h,j,nums,.con d=>λ_ _ l=>(opt (Pc l) λq=>Pa q.1.1 d) || opt (Pd l) λ_=>MC d|h,j,nums,.gint g i=>λm _ l=>opt (Pb l) λq=>q.1.1 == g&&glob m q.1.1&&nums.contains (g,i)|h,j,nums,.tup as=>λm N l=>opt (Pe l) λq=>bS as&&mt h j nums as m N q.1.1|h,j,nums,.lst as=>λm N l=>opt (Pf l) λq=>bS as&&mt h j nums as m N q.1.1|h,j,nums,.bin o a b=>λm N l=>opt (Pg l) λq=>q.1.2.1 == R8 o&&!bS a&&!bS b&&mt h j nums a m N [q.1.1]&&mt h j nums b m N [q.1.2.2.1]|h,j,nums,.cmp o a b=>λm N l=>opt (Ph l) λq=>q.1.2.1 == Jo o&&gu q.1.2.2.1&&!bS a&&!bS b&&mt h j nums a m N [q.1.1]&&mt h j nums b m N [q.1.2.2.1]|h,j,nums,.neg a=>λm N l=>opt (Pj l) λq=>!bS a&&mt h j nums a m N [q.1.1]|h,j,nums,.not a=>λm N l=>opt (Pk l) λq=>!bS a&&!Jv q.1.1&&mt h j nums a m N [q.1.1]|h,j,nums,.and a b=>λm N l=>opt (Pl l) λq=>!bS a&&!bS b&&!Jv q.1.1&&mt h j nums a m N [q.1.1]&&(if q.1.2.2.1.isEmpty then !Jv q.1.2.1&&mt h j nums b m N [q.1.2.1] else mt h j nums b m N [.BoolOp .And (q.1.2.1::q.1.2.2.1) q.1.2.2.2])|h,j,nums,.or a b=>λm N l=>opt (Pm l) λq=>!bS a&&!bS b&&!Jv q.1.1&&mt h j nums a m N [q.1.1]&&(if q.1.2.2.1.isEmpty then !Jv q.1.2.1&&mt h j nums b m N [q.1.2.1] else mt h j nums b m N [.BoolOp .Or (q.1.2.1::q.1.2.2.1) q.1.2.2.2])|h,j,nums,.orT a b=>λm N l=>opt (Pm l) λq=>!bS a&&!bS b&&q.1.2.2.1.isEmpty&&mt h j nums a m N [q.1.1]&&mt h j nums b m N [q.1.2.1]|h,j,nums,.ite c a b=>λm N l=>opt (Pn l) λq=>!bS c&&!bS a&&!bS b&&!Jv q.1.1&&mt h j nums c m N [q.1.1]&&mt h j nums a m N [q.1.2.1]&&mt h j nums b m N [q.1.2.2.1]|h,j,nums,.ch o n a b c=>λm N l=>opt (Sb l) λq=>q.1.2.1 == Jo o&&q.1.2.2.1 == Jo n&&gu q.1.2.2.2.2.1&&!bS a&&!bS b&&!bS c&&mt h j nums a m N [q.1.1]&&mt h j nums b m N [q.1.2.2.2.1]&&mt h j nums c m N [q.1.2.2.2.2.1]|h,j,nums,.bf f as=>λm N l=>(opt (Po l) λq=>served f&&q.1.1 == (Ta f).1&&glob m q.1.1&&bS as&&mt h j nums as m N (q.1.2.2.1::q.1.2.2.2.1)) || (Se f&&opt (Sd l) λq=>q.1.1 == ("sorted":Str)&&q.1.2.2.1 == ("set":Str)&&glob m "sorted"&&glob m "set"&&bS as&&mt h j nums as m N [q.1.2.2.2.2.1])|h,j,nums,.isi t a=>λm N l=>opt (Pp l) λq=>q.1.1 == ("isinstance":Str)&&glob m q.1.1&&noStar q.1.2.2.1&&!bS a&&mt h j nums a m N [q.1.2.2.1]&&TU m t q.1.2.2.2.1|h,j,nums,.idx a i=>λm N l=>opt (Sf l) λq=>hJ q.1.2.1&&!bS a&&!bS i&&mt h j nums a m N [q.1.1]&&mt h j nums i m N [q.1.2.1]|h,j,nums,.sl a s u=>λm N l=>opt (Sg l) λq=>!bS a&&bS s&&bS u&&mt h j nums a m N [q.1.1]&&mt h j nums s m N q.1.2.1.toList&&mt h j nums u m N q.1.2.2.1.toList|h,j,nums,.rev a=>λm N l=>opt (Pq l) λq=>!bS a&&mt h j nums a m N [q.1.1]|h,j,nums,.call f as=>λm N l=>opt (Po l) λq=>(opt j[f]? λp=>p.1 == q.1.1&&p.2.length == q.1.2.2.2.1.length + 1)&&glob m q.1.1&&bS as&&mt h j nums as m N (q.1.2.2.1::q.1.2.2.2.1)
 |h,j,nums,.comp own v p it y z A=>λm N l=>opt (MB l) λq =>
   (cH q.1.2.1).length == own&&(ay N v).length == v.length&&jB q.1.2.2.2.2.1 m N (cH q.1.2.1) (ay N v)&&fi (cH q.1.2.1++(ay N v).map (·.1)) (λx=>(cH q.1.2.1).contains x) p q.1.2.1&&bS y&&!bS A&&bS z&&q.1.2.2.2.1.length<=1&&noStar q.1.1&&gu q.1.2.2.1 &&
    q.1.2.2.2.1.all (λc=>!Jv c) &&
    (match it with
    |.seq=>mt h j nums y m N [q.1.2.2.1]|.rng1=>opt (DN q.1.2.2.1) λr=>r.1.1 == ("range":Str)&&glob m r.1.1&&mt h j nums y m N [r.1.2.2.1]|.rng2=>opt (DO q.1.2.2.1) λr=>r.1.1 == ("range":Str)&&glob m r.1.1&&mt h j nums y m N [r.1.2.2.1,r.1.2.2.2.1]|.zip=>opt (DO q.1.2.2.1) λr=>r.1.1 == ("zip":Str)&&glob m r.1.1&&fB q.1.2.1&&mt h j nums y m N [r.1.2.2.1,r.1.2.2.2.1]|.enum=>opt (DN q.1.2.2.1) λr=>r.1.1 == ("enumerate":Str)&&glob m r.1.1&&fB q.1.2.1&&mt h j nums y m N [r.1.2.2.1]
    )&&mt false j nums z q.1.2.2.2.2.1 (cH q.1.2.1++(ay N v).map (·.1)) q.1.2.2.2.1&&mt false j nums A q.1.2.2.2.2.1 (cH q.1.2.1++(ay N v).map (·.1)) [q.1.1]
 |h,j,nums,.lrng b as=>λm N l=>opt (Si l) λq=>q.1.1 == KN b&&q.1.2.2.1 == ("range":Str)&&glob m (KN b)&&glob m "range"&&bS as&&decide (1<=q.1.2.2.2.2.1.length/\q.1.2.2.2.2.1.length<=2)&&mt h j nums as m N q.1.2.2.2.2.1|h,j,nums,.zget i k=>λ_ N l=>opt (Sh l) λq=>N[i]? == ↑q.1.1&&az q.1.1&&q.1.2.2.1 == (k:Int)|h,j,nums,.oZ as=>λm N l=>opt (Sa l) λq=>q.1.1 == ("len":Str)&&q.1.2.2.1 == ("set":Str)&&glob m "len"&&glob m "set"&&bS as&&mt h j nums as m N [q.1.2.2.2.2.1]|h,j,nums,.refd v a=>λm N l=>opt (Pw l) λq=>h&&q.1.1 == ("_law_refused":Str)&&glob m "_law_refused"&&(ay N v).length == v.length&&i8 q.1.2.2.2.1 m (ay N v)&&!bS a&&mt false j nums a q.1.2.2.2.1 ((ay N v).map (·.1)) [q.1.2.2.1]
theorem bu{a:ò}{x:Str}(h:glob a x):a.names.lookup x=↑.globalImplicit/\(x == ("__debug__":Str))=false/\x≠"__name__":=by
 delta glob at h
 simp_all
section
variable {lm:Bool}{X:Cx}{G:Gs}{E:XK}{N:Zj}{sc:ò}
theorem MD{K:Ã}{a:Zl}{b H:Hp}{s:S}{v:V}(h:wU K a H s v):my K a b H (n5 s) v:=by cases s <;> exact h
theorem AS(h:(!Jv e)):∀ t a b p,e≠.IfExp t a b p:=by
 intro t a b p c;subst c;cases h
theorem aB(a:bS x=false)(h:Good X G E x [e]):aw X G E x e:=by
 cases x with
 |nil=>cases a
 |cons _ _=>cases a
 |_ =>
  let(b,c,d):=(show ∃ b,[e]=[b]/\aw X G E _ b from h);cases c;exact d
theorem aY(a:bS x=false)(h:aw X G E x e):Good X G E x [e]:=by
 cases x with
 |nil=>cases a
 |cons _ _=>cases a
 |_=>exact#[e,rfl,h]
theorem bV(a:sE X.K G b E H Q r):∀ c d,r=.er c d->EPost G b E c d H:=λc d e=>by subst e;exact a
theorem pF(a:B3 G b E H Q r):∀ c d,r=.er c d->EPost G b E c d H:=λc d e=>by subst e;exact a
theorem Px(x:XI lm X G E N sc){pos:Pos}(a:N[i]?=↑n)(b:az n):aw X G E (.var i) (.Name n pos):=by
 delta az at b
 simp only[Á,ç] at b;refine aG (PE.imp (cg  (by rw[x.hN];exact a) (x.vis n (Û a)) b.1 b.2) λc H Q q=>?_) rfl
 let(d,f,z,r,g,h,e,j):=q;have k:(match f[i]? with | ↑↑s=>Ze _ | _=>Zg) z=↑r:=e
 cases hs:f[i]? with
 |none=>rw[hs] at k;cases k
 |some o =>
  cases o with
  |none=>rw[hs] at k;cases k
  |some s =>
   rw[hs] at k;cases k;let(v,l,m):=g i s hs;let(p,k,j):=j;cases k;exact#[v,l,j v H Ext.refl h (MD m)]
theorem Py{pos:Pos}(h:Pa c d):aw X G E (.con d) (.Constant c j pos):=by
 refine aG ?_ rfl;have a:∀ {v:V},(∀ H,Hd X.K H d v)->∀ f H Q,tI X.K G E (.con d) f H Q->tC v f H Q:=λ{v} hd f H Q q=>by
  let(g,k,z,r,l,m,e,n):=q;cases e;let(o,p,n):=n;cases p;exact n v H Ext.refl m (sr (hd _))
 cases c with
 |int i=>cases d <;> first | (cases ZD (show(i == _)=true from h);exact PE.imp qY (a λH=>Hd.int)) | (cases h)
 |bool b=>cases d <;> first | (cases ZD (show(b == _)=true from h);exact PE.imp N8 (a λH=>Hd.bl)) | (cases h)
 |str y=>cases d <;> first | (cases ZD (show(y == _)=true from h);exact PE.imp Ep (a λH=>Hd.str)) | (cases h)
 |none=>cases d <;> first | exact PE.imp Al (a λH=>Hd.cD) | (cases h)
 |_=>cases h
theorem Pz{pos:Pos}:aw X G E (.con .dct) (.Dict [] [] pos):=by
 refine aG (PE.imp BM λa H Q q=>?_) rfl;let(b,c,z,r,d,f,e,g):=q;cases e;let(h,i,g):=g;cases i;intro p j;refine g _ _ (Ext.of (ae.new _ j)) (f.same (ae.new _ j)) (sr ?_);exact#[p,[],rfl,aV ao (f.mR j)]
theorem ME(x:XI lm X G E N sc){pos:Pos}(a:glob sc g)(b:(g,i)∈G.nums):aw X G E (.gint g i) (.Name g pos):=by
 let(c,d,_):=bu a;let(t,f):=x.num _ b;refine aG (PE.imp (dD (v:= ~~~i) (x.glb g c) f #[t,rfl] d) λh H Q q=>?_) rfl;let(j,k,z,r,l,m,e,n):=q;cases e;let(o,p,n):=n;cases p;exact n _ H Ext.refl m eA
theorem jT{K:Ã}{a:Zl}{b H:Hp}{l:⇑S}{c:⇑V}{ds:⇑D}(h:UJ (my K a b H) l c)(e:iC l=↑ds):aN K (hz a H) ds c:=u6.ds (UJ.Aj h λ_ _ q=>q.pl) e
theorem PB{pos:Pos}(a:bS as)(g:Good X G E as l):aw X G E (.tup as) (.Tuple l k pos):=by
 refine aG (PE.imp (EJ (g.args a).1) λb H Q q=>?_) rfl;let(c,d,z,r,f,i,e,j):=q;refine oi f i e (bV j) λl m n o s u v x=>?_;let(ds,hd,y):=M.ai n;split at y
 .rename_i A;cases y;let(B,C,j):=j;cases C;have h:=jT x hd;exact#[dG (by rw[h.length];exact A),λp F=>j _ _ (u.trans (Ext.of (ae.new _ F))) (v.same (ae.new _ F)) (sr (Hd.tup ((v.same (ae.new _ F)).yX (dY.of ao)) (h.same (d9 (ae.new _ F)))))]
 .cases y
theorem PC{pos:Pos}(a:bS as)(g:Good X G E as l):aw X G E (.lst as) (.List l pos):=by
 refine aG (PE.imp (oW (g.args a).1) λb H Q q=>?_) rfl;let(c,d,z,r,f,i,e,j):=q;refine oi f i e (bV j) λl k m n o s u v=>?_;let(ds,hd,x):=M.ai m;split at x
 .rename_i y;cases x;let(A,B,j):=j;cases B;have h:=jT v hd;exact#[dG (by rw[h.length];exact y),λp C=>j _ _ (s.trans (Ext.of (ae.new _ C))) (u.same (ae.new _ C)) ((cQ u h C).from s)]
 .cases x
theorem sF{d:Type}{k:D->D->M d}{r:R d}{Q:V->V->Hp->Prop}(e:eS X.K f H g σ)(i:aF f z H)
  (h:Zd (ev G.F a g) (λx=>Zd (Zf (pl x)) λx=>Zd (ev G.F b g) λy=>Zd (Zf (pl y)) λy=>k x y) z=↑r) (j:∀ c n,r=.er c n->EPost G f E c n H)
  (o:∀ p s u v w A,k p s u=↑r->Ext f H A->aF f u A->Hd X.K (hz f A) p v->Hd X.K (hz f A) s w->Q v w A) :
  tI X.K G E a σ H λv B=>tI X.K G E b σ B λw A=>Q v w A:=by
 refine bU e i h j λl n C=>?_;let(p,I,J):=M.ai C;let(s1,rfl,q1):=bJ I;refine#[s1,rfl,λv B L aO rv=>?_];refine bU (e.mono L) aO J (λc u q=>(j c u q).mono L) λm u e3=>?_;let(s,p2,e4):=M.ai e3;let(s2,rfl,q2):=bJ p2;exact#[s2,rfl,λw A P U Y=>o p s u v w A e4 (L.trans P) U ((rv.pl.mono P).d_ q1) (Y.pl.d_ q2)]
theorem bP{Q:VK}(a:sE X.K G b E H Q (.ok [s] c))(x:Ext b H d)(e:aF b c d):∀ v f,ae d f->my X.K b d f s v->Q v f:=λv f g h=>by
 let(i,j,a):=a;cases j;exact a v f (x.trans (Ext.of g)) (e.same g) (h.from x)
theorem PD{pos:Pos}(c:aw X G E a l)(d:aw X G E b r):aw X G E (.bin o a b) (.BinOp l (R8 o) r pos):=by
 refine aG (PE.imp (Bu (TR o) c.pe d.pe) λf H Q q=>?_) rfl;let(g,h,z,i,j,k,e,m):=q;refine sF j k e (bV m) λn p u v w x y A B C F=>?_;let(s,hs,I):=M.ai y;cases I;exact#[g,u,n,p,s,B,C,F,hs,bP m A B]
theorem Gp(a:B3 G d E H Q r):sE X.K G d E H (λx e=>∃ k,x=.bl k/\Q k e) r:=by
 cases r with
 |er c f=>exact a
 |ok l f =>
  let(b,rfl,a):=a;exact#[_,rfl,λv e ex g h=>#[b,Hd.yV (show Hd X.K (hz d e) _ v from h),a e ex g]]
theorem PF(x:XI lm X G E N sc){pos:Pos}(hs:gu r)(d:aw X G E a l)(f:aw X G E b r):aw X G E (.cmp o a b) (.Compare l [Jo o] [r] pos):=by
 have key:∀ g H Q,tI X.K G E (.cmp o a b) g H Q->NX (su X.K λa b=>(f9 o a b).map _) _ _ g H Q:=λg H Q q=>by
  let(i,j,z,k,m,n,e,s):=q;refine sF m n e (bV s) λu y A v w B C F I J L=>?_;let(c,P,U):=M.ai C;cases U;exact#[i,A,u,y,_,I,J,L,by rw[P];rfl,bP s F I]
 refine#[PE.imp (Bv (wW x.room.units o) d.pe f.pe (pE hs _)) key,λ_=>PT.imp (vY (wW x.room.units o) d.pe f.pe (pE hs _)) λg H Q q=>?_,λY vs p h=>by cases h]
 let(i,j,z,k,m,n,e,s):=q;exact key g H _ #[i,j,z,k,m,n,e,Gp s]
theorem PH{pos:Pos}(b:aw X G E a l):aw X G E (.neg a) (.UnaryOp .USub l pos):=by
 refine aG (PE.imp (KA EE b.pe) λc H Q q=>?_) rfl;let(f,g,z,h,k,n,e,o):=q;refine bU k n e (bV o) λm p r=>?_;let(i,s,u):=M.ai r;let(d,p2,x):=Ê.mp s;let(s1,rfl,y):=bJ p2;cases u;refine#[s1,rfl,λv A B C F=>?_];have hd:=F.pl.d_ y;cases d with
 |int j =>
  cases x;exact#[i,hd.bK,bP o B C _ _ (ae.refl A) eA]
 |_=>cases x
theorem PJ{a:Ex}{l:Ö}{pos:Pos}(f:aw X G E a l)(g:∀ t x y p,l≠.IfExp t x y p):aw X G E (.not a) (.UnaryOp .Not l pos):=by
 refine#[PE.imp (Es f.pe) λi H Q q=>?_,λ_=>PT.imp (Am (f.pt g)) λi H Q q=>?_,λj vs p h=>by cases h]
 .let(k,n,z,o,r,s,e,u):=q;refine bU r s e (bV u) λm A B=>?_;let(b,C,F):=M.ai B;let(d,p2,I):=Ê.mp C;let(s1,rfl,J):=bJ p2;cases F;refine#[s1,rfl,λv K L P U=>?_];have hd:=U.pl.d_ J;cases d with
  |bl c =>
   cases I;exact#[b,hd.yV,bP u L P _ _ (ae.refl K) di]
  |_=>cases I
 .let(k,n,z,o,r,s,e,u):=q;refine oj r s e (pF u) λb A B K L P=>?_;cases B;let(b',Y,u):=u;cases Y;exact u K L P
end
end Q
namespace Q
open PySem L2 PySem.Spec PyProof.Rows
variable [TB:Tb]
section
variable {lm:Bool}{X:Cx}{G:Gs}{E:XK}{N:Zj}{sc:ò}
theorem qN(e:eS X.K f H g σ)(i:aF f z H)
  (h:Zd (ev G.F a g) (λx=>Zd (Zf ((pl x).bind pZ)) k) z=↑r) (j:∀ c l,r=.er c l->EPost G f E c l H)
  (n:∀ b l,k b l=↑r->∀ o,Ext f H o->aF f l o->p (.bl b) o):tI X.K G E a σ H p:=by
 refine bU e i h j λm l q=>?_;let(b,s,u):=M.ai q;let(d,p2,y):=Ê.mp s;let(s1,rfl,A):=bJ p2;refine#[s1,rfl,λv o B C I=>?_];have hd:=I.pl.d_ A;cases d with
 |bl c =>
  cases y;rw[hd.yV];exact n b l u o B C
 |_=>cases y
theorem PK(d:aw X G E a l)(f:∀ t x y p,l≠.IfExp t x y p)
  (g:aw X G E b (.BoolOp .And (r::i) p)):aw X G E (.and a b) (.BoolOp .And (l::r::i) p):=by
 have j:PW X (.BoolOp .And (l::r::i) p) (tT X.K G E (.and a b)):=by
  refine PW.imp (Er (d.pt f) (g.pw _ _ _ rfl)) λk H Q q=>?_;let(m,n,z,o,s,u,e,v):=q;refine oj s u e (pF v) λc z1 A B C F=>?_;cases c with
  |true =>
   refine oj (s.mono C) F A (λc I q=>((pF v) c I q).mono C) λc I J L P U=>?_;cases J;let(b',Y,v):=v;cases Y;exact v L (C.trans P) U
  |false =>
   rw[Zw ê];cases A;let(b',Y,v):=v;cases Y;exact v B C F
 refine#[PE.imp (Ll d.pe g.pe) λk H Q q=>?_,λ_=>j.pt,λop i p h=>j];let(m,n,z,o,s,u,e,v):=q;refine qN s u e (bV v) λc z1 A B C F=>#[c,rfl,?_];cases c with
 |true =>
  refine qN (s.mono C) F A (λc I q=>((bV v) c I q).mono C) λc I J L P U=>?_;cases J;exact bP v (C.trans P) U _ _ (ae.refl L) di
 |false =>
  cases A;exact bP v C F _ _ (ae.refl B) di
theorem Sj(d:aw X G E a l)(f:∀ t x y p,l≠.IfExp t x y p)
  (g:aw X G E b (.BoolOp .Or (r::i) p)):aw X G E (.or a b) (.BoolOp .Or (l::r::i) p):=by
 have j:PW X (.BoolOp .Or (l::r::i) p) (tT X.K G E (.or a b)):=by
  refine PW.imp (N9 (d.pt f) (g.pw _ _ _ rfl)) λk H Q q=>?_;let(m,n,z,o,s,u,e,v):=q;refine oj s u e (pF v) λc z1 A B C F=>?_;cases c with
  |false =>
   refine oj (s.mono C) F A (λc I q=>((pF v) c I q).mono C) λc I J L P U=>?_;cases J;let(b',Y,v):=v;cases Y;exact v L (C.trans P) U
  |true =>
   rw[Zv rfl];cases A;let(b',Y,v):=v;cases Y;exact v B C F
 refine#[PE.imp (Oc d.pe g.pe) λk H Q q=>?_,λ_=>j.pt,λop i p h=>j];let(m,n,z,o,s,u,e,v):=q;refine qN s u e (bV v) λc z1 A B C F=>#[c,rfl,?_];cases c with
 |false =>
  refine qN (s.mono C) F A (λc I q=>((bV v) c I q).mono C) λc I J L P U=>?_;cases J;exact bP v (C.trans P) U _ _ (ae.refl L) di
 |true =>
  cases A;exact bP v C F _ _ (ae.refl B) di
theorem KR(gb:aw X G E b r)(hr:∀ t x y p,r≠.IfExp t x y p):aw X G E b (.BoolOp op [r] p):=by
 have pw:PW X (.BoolOp op [r] p) (tT X.K G E b):=by
  cases op with
  |And=>exact Br (gb.pt hr)|Or=>exact Lj (gb.pt hr)
 exact#[Lk gb.pe,λ_=>pw.pt,λ_ _ _ _=>pw]
theorem sE.KS(a:sE X.K G b E H Q d)(e:Ext b H H1):sE X.K G b E H1 Q d:=by
 cases d with
 |er c f=>exact EPost.mono a e
 |ok l g =>
  let(s,h,a):=a;exact#[s,h,λv i j k m=>a v i (e.trans j) k (m.from e)]
set_option tactic.hygienic true in
theorem vc{b:Type}{m:M b}{z:Z}{r:R b}(h:M.calm m z=↑r):m z=↑r/\∃ a c,r=.ok a c:=by
 delta M.calm at h
 split at h
 .rename_i a c e;cases h;exact#[e,a,c,rfl]
 .cases h
theorem MF{a b:Ö}{c d:TE}{pos:Pos}(e:PE X a c)(f:PE X b d):PE X (.BoolOp .Or [a,b] pos) (λg H Q=>c g H λx i=>∃ t j,x=↥t/\dY X.K i t j/\if j.isEmpty=true then d g i Q else Q x i):=by
 intro k s g H Q I h;refine BoolOp_or (bQ (e k s g H _ I h) λv s1 #[x,i,l,m,n]=>?_);let(t,j,rfl,o,n):=n;let(p,q,u,z):=l.tuple o;have A :=q.length;subst m;apply truthy_tuple u (by rw[á];have:=gV;omega)
 cases j with
 |nil =>
  cases p with
  |nil=>exact BoolOp_one (f k _ g i Q (l.tok _) n)|cons _ _=>cases A
 |cons y r =>
  cases p with
  |nil=>cases A
  |cons _ _=>exact#[↥t,i,l.tok _,rfl,n]
theorem Gq(h:(pl y).bind FO=↑l):∃ s,y=[s]/\FK s=↑(.tup l):=by
 let(d,p2,a):=Ê.mp h;let(s1,rfl,b):=bJ p2;cases d with
 |tup l=>cases a;exact#[s1,rfl,b]
 |_=>cases a
theorem PL(ga:aw X G E a l)(gb:aw X G E b r):aw X G E (.orT a b) (.BoolOp .Or [l,r] p):=by
 have d:∀ {f:Zl}{g:Env}{z:Z}{h:R _}{H:Hp}{Q:Bool->Hp->Prop},ev G.F (.orT a b) g z=↑h->B3 G f E H Q h->False:=λe i=>by
  let(e,u,j,rfl):=vc e;let(c,rfl,_):=i;rcases M.bind_some e with ⟨m,k,_,n⟩ | ⟨c,k,_,n⟩
  .let(ds,_,o):=M.ai n;split at o
   .rcases M.bind_some o with ⟨m,k,_,n⟩ | ⟨c,k,_,n⟩
    .let(ds,_,o):=M.ai n;cases o
    .cases n
   .cases o
  .cases n
 refine#[PE.imp (MF ga.pe gb.pe) λx H Q q=>?_,λ_ aa s x H Q I #[_,_,_,_,_,_,e,i]=>(d e i).elim,λ_ _ _ _ wh aa s x H Q I #[_,_,_,_,_,_,e,i]=>(d e i).elim];let(f,g,z,h,A,st,e,i):=q;let(e,u,j,rfl):=vc e;refine bU A st e (bV i) λm j B=>?_;let(ds,C,n):=M.ai B;let(s1,rfl,J):=Gq C;refine#[s1,rfl,λv K L P U=>?_];have hd:=U.pl.d_ J;let(t,xs,rfl,h1,h2):=hd.fW;refine#[t,xs,rfl,(ak f K).j6 h1,?_];cases ds with
 |nil =>
  cases h2.bR;have i:=i.KS L;refine bU (A.mono L) P n (bV i) λm j B=>?_;let(ds,C,n):=M.ai B;let(s1,rfl,J):=Gq C;cases n;exact#[s1,rfl,λv H2 x2 Y U=>bP i x2 Y _ _ (ae.refl H2) (U.pl.d_ J)]
 |cons y r =>
  let(u,w,rfl,_):=h2.aU;cases n;exact bP i L P _ _ (ae.refl K) hd
theorem PM(f:aw X G E c t)(g:∀ a b d p,t≠.IfExp a b d p)(i:aw X G E a x)(j:aw X G E b y):aw X G E (.ite c a b) (.IfExp t x y p):=by
 refine#[PE.imp (Eu (f.pt g) i.pe j.pe) λl H Q q=>?_,λh=>absurd rfl (h t x y p),λm n p h=>by cases h]
 let(o,r,z,s,u,v,e,A):=q;refine oj u v e (bV A) λk B C F I J=>?_;have K:=A.KS I;cases k with
 |true =>
  exact#[o,r,B,s,u.mono I,J,C,K]
 |false =>
  exact#[o,r,B,s,u.mono I,J,C,K]
theorem Sk(x:XI lm X G E N sc){pos:Pos}(hs:gu s)(f:aw X G E a l)(g:aw X G E b r)(i:aw X G E c s):aw X G E (.ch o j a b c) (.Compare l [Jo o,Jo j] [r,s] pos):=by
 have hm:lastMarks [Jo o,Jo j] [r,s]=false:=pE hs _;have key:∀ n H Q,tI X.K G E (.ch o j a b c) n H Q->Aq (su X.K λa b=>(f9 o a b).map _) (su X.K λa b=>(f9 j a b).map _) _ _ _ n H Q:=λn H Q q=>by
  let(u,ρ,z,rr,y,A,e,B):=q;refine sF y A e (bV B) λdx dy C v w H2 e2 x2 F h1 h2=>?_;let(k,hk,e3):=M.ai e2;refine#[u,C,dx,dy,.d (.bl k),F,h1,h2,by rw[hk];rfl,λv3 H3 I rv=>#[k,Hd.yV (show Hd X.K (hz u H3) _ v3 from rv),?_]]
  have J:=x2.trans (Ext.of I);have L:=F.same I;cases k with
  |true =>
   refine bU (y.mono J) L e3 (λc C q=>((bV B) c C q).mono J) λm z4 e4=>?_;let(dw,p1,e5):=M.ai e4;let(k',P,e6):=M.ai e5;let(s1,rfl,q1):=bJ p1;cases e6;refine#[s1,rfl,λv4 H4 x4 U Y=>?_];exact#[u,z4,dy,dw,_,U,(h2.same (ae.trans (d9 I) x4)),Y.pl.d_ q1,by rw[P];rfl,bP B (J.trans x4) U]
  |false =>
   cases e3;exact bP B J L _ _ (ae.refl H3) di
 refine#[PE.imp (EH (wW x.room.units o) (wW x.room.units j) f.pe g.pe i.pe hm) key,λ_=>PT.imp (EI (wW x.room.units o) (wW x.room.units j) f.pe g.pe i.pe hm) λn H Q q=>?_,λop vs p h=>by cases h]
 let(u,ρ,z,rr,y,A,e,B):=q;exact key n H _ #[u,ρ,z,rr,y,A,e,Gp B]
theorem Gr:∀ a H Q,tI X.K G E (.bf f as) a H Q->QU (DG X.K (n9 f)) (tA X.K G E as) a H Q:=λa H Q q=>by
 let(b,c,z,d,g,h,e,i):=q;refine oi g h e (bV i) λl j k m n o p r=>?_;let(ds,hd,u):=M.ai k;let(s,hs,v):=M.ai u;cases v;exact#[b,j,ds,s,p,jT r hd,hs,bP i o p]
theorem vd(x:XI lm X G E N sc){f:Bf}{as:Ex}{n:Str}{a:String}{e:Ö}{l:Zm}{p pos:Pos}(b:bN X (.builtin a) (DG X.K (n9 f)))(c:n∈AQ)(d:ý n=↑(.builtin a))(h:glob sc n)(i:bS as)(g:Good X G E as (e::l)):aw X G E (.bf f as) (.Call (.Name n p) (e::l) [] pos):=by
 let(j,k,m):=bu h;let(o,hs):=g.args i;rw[U7,Á] at hs;exact aG (PE.imp (iV b (x.glb n j) (x.blt n c) d o m k (bF hs.1 l X.env) (gI X.env pos hs.2)) Gr) rfl
theorem Gu(x:XI lm X G E N sc){T:String}{p pos:Pos}(a:bN X (.type T) (DG X.K (n9 f)))(b:n∈AQ)(c:ý n=↑(.type T))(d:glob sc n)(h:bS as)(g:Good X G E as (e::l)):aw X G E (.bf f as) (.Call (.Name n p) (e::l) [] pos):=by
 let(i,j,k):=bu d;let(m,hs):=g.args h;rw[U7,Á] at hs;exact aG (PE.imp (lK a (x.glb n i) (x.blt n b) c m k j (bF hs.1 l X.env) (gI X.env pos hs.2)) Gr) rfl
theorem Gv:ý "len"=↑(.builtin "len"):=by decide +kernel
theorem vf:ý "sorted"=↑(.builtin "sorted"):=by decide +kernel
theorem MG:ý "all"=↑(.builtin "all"):=by decide +kernel
theorem MH:ý "sum"=↑(.builtin "sum"):=by decide +kernel
theorem MI:ý "min"=↑(.builtin "min"):=by decide +kernel
theorem MJ:ý "max"=↑(.builtin "max"):=by decide +kernel
theorem mz:ý "isinstance"=↑(.builtin "isinstance"):=by decide +kernel
theorem MK:ý "int"=↑(.type "int"):=by decide +kernel
theorem sG:ý "tuple"=↑(.type "tuple"):=by decide +kernel
theorem xf:ý "list"=↑(.type "list"):=by decide +kernel
theorem Sl(x:XI lm X G E N sc){p pos:Pos}(a:served f)(b:n=(Ta f).1)(c:glob sc n)(d:bS as)(g:Good X G E as (e::l)):aw X G E (.bf f as) (.Call (.Name n p) (e::l) [] pos):=by
 subst b;cases f with
 |len=>exact vd x Mp (-0) Gv c d g|tuple=>exact Gu x F9 (-0) sG c d g|list=>exact Gu x Jp (-0) xf c d g|min=>exact vd x (Ms x.calm) (-0) MI c d g|max=>exact vd x (Mt x.calm) (-0) MJ c d g|all=>exact vd x (Mq x.calm) (-0) MG c d g|int=>exact Gu x Mu (-0) MK c d g|sorted=>exact vd x (DJ x.room.units) (-0) vf c d g|sum=>exact vd x (Mr x.calm) (-0) MH c d g|_=>cases a
theorem PN(t:Ty)(h:t≠.seq):VP (Ge t)∈AQ/\ý (VP (Ge t))=↑(.type (Ge t))/\Ge t∈["int","bool","tuple","list","str"]:=by
 cases t with
 |seq=>exact absurd rfl h|_=>decide +kernel
theorem ML(x:XI lm X G E N sc){t:Ty}{a:Ex}{n:Str}{e:Ö}{p pos p2:Pos}(hs:t≠.seq)
  (b:glob sc (VP (Ge t))) (c:n="isinstance") (f:glob sc n) (g:noStar e) (h:aw X G E a e):aw X G E (.isi t a) (.Call (.Name n p) [e,.Name (VP (Ge t)) p2] [] pos):=by
 let(i,j,k):=PN t hs;subst c;let(l,o,r):=bu f;let(s,u,y):=bu b;refine aG (PE.imp (iV Fj (x.glb _ l) (x.blt _ (-0)) mz (bA h.pe (bA (qA (v:=.ty _) (x.glb _ s) (x.blt _ i) j rfl y u) cM) (bF g _ _)) r o (bF g _ _) rfl) λσ H Q q=>?_) rfl
 let(A,ρ,z,rr,B,C,e,F):=q;refine bU B C e (bV F) λm z1 I=>?_;let(d,J,K):=M.ai I;let(s1,rfl,L):=bJ J;cases K;refine#[s1,rfl,λv P U Y rv=>#[d,v,_,rfl,((rv.pl.d_ L).same (ak A P)).has,k,?_]];rw[Jq t d hs];exact bP F U Y _ _ (ae.refl P) di
theorem MM(x:XI lm X G E N sc){a:Ex}{n:Str}{e:Ö}{p pos b p2 c:Pos}{k:Nat}(f:glob sc "tuple")(g:glob sc "list")(h:n="isinstance")(i:glob sc n)(j:noStar e)(l:aw X G E a e) :
  aw X G E (.isi .seq a) (.Call (.Name n p) [e,.Tuple [.Name "tuple" b,.Name "list" p2] k c] [] pos):=by
 subst h;let(o,r,s):=bu i;let(u,y,A):=bu f;let(B,C,F):=bu g;refine aG (PE.imp (iV Dp (x.glb _ o) (x.blt _ (-0)) mz (bA l.pe (bA (EJ (bA (qA (v:=.ty _) (x.glb _ u) (x.blt _ (-0)) sG rfl A y)
  (bA (qA (v:=.ty _) (x.glb _ B) (x.blt _ (-0)) xf rfl F C) cM))) cM) (bF j _ _)) s r (bF j _ _) rfl) λσ H Q q=>?_) rfl
 let(I,ρ,z,rr,J,K,e,L):=q;refine bU J K e (bV L) λm z1 P=>?_;let(d,b,e2):=M.ai P;let(s1,rfl,q1):=bJ b;cases e2;refine#[s1,rfl,λv U x1 aO rv=>#[by decide,λt ht=>?_]]
 have Y:ae U (upd U t (.tup [.ty "tuple",.ty "list"])):=ae.new _ ht;refine#[d,v,t,rfl,((rv.pl.d_ q1).same (ae.trans (ak I U) Y)).has,dY.of ao,?_];rw[Gf d];exact bP L x1 aO _ _ Y di
theorem PQ{pos:Pos}(hs:hJ x)(b:aw X G E a v)(d:aw X G E i x):aw X G E (.idx a i) (.Subscript v x pos):=by
 refine aG (PE.imp (yp S9 b.pe d.pe (jA hs)) λf H Q q=>?_) rfl;let(g,h,z,j,k,l,e,m):=q;refine sF k l e (bV m) λn o p v w r s u y A B=>?_;let(c,C,F):=M.ai s;cases F;exact#[g,p,n,o,_,y,A,B,by simp_all,bP m u y]
set_option tactic.hygienic true in
theorem MN(x:XI lm X G E N sc){i k:Nat}{n:Str}{c:Nat}{p q pos:Pos}(b:N[i]?=↑n)(d:az n):aw X G E (.zget i k) (.Subscript (.Name n p) (.Constant (~~~k) c q) pos):=by
 delta az at d
 simp only[Á,ç] at d;refine aG (PE.imp (yp qC (cg  (by rw[x.hN];exact b) (x.vis n (Û b)) d.1 d.2) qY (jA rfl)) λf H Q g=>?_) rfl
 let(h,j,z,l,m,o,e,r):=g;have s:yS k _ z=↑l:=e
 delta yS at s
 split at s
 .rename_i p hs;let(v,u,a,y,rfl):=m i .z hs;subst y;have A :=o.zat;refine#[_,u,a,[~~~p.1,.bl p.2],(k:Int),?_];split at s
  .rename_i B;subst B;cases s;let(C,F,r):=r;cases F;exact#[_,rfl,rfl,gU.of A,rfl,r _ H Ext.refl o eA]
  .split at s
   .rename_i B;subst B;cases s;let(C,F,r):=r;cases F;exact#[_,rfl,rfl,gU.of A,rfl,r _ H Ext.refl o (sr Hd.bl)]
   .cases s
 .cases s
theorem om(a:Int):∀ (n:Nat) {ar:Zk},ar.length=n->(∀ i,i < n->∃ v t,ar[i]?=↑v/\v=.int (a + (i:Nat)) t)->Vals ((ë n).map λ(k:Nat)=>V.int (a + k)) ar:=by
 intro n ar hl h;rw[List.range_eq_range'];exact (by
  intro m
  induction m with
  |zero =>
   intro l o hl _;rw[List.length_eq_zero_iff.mp hl];exact .nil
  |succ m ih =>
   intro l o hl h;cases l with
   |nil=>cases hl
   |cons x r =>
    let(v,t,e1,e2):=h 0 (Nat.succ_pos m);simp only[WW,V1] at e1;refine .cons #[t,by simp_all] (ih r _ (by simpa using hl) λi hi=>?_)
    grind:∀ (m:Nat) (l:Zk) (o:Nat),l.length=m->(∀ i,i < m->∃ v t,l[i]?=↑v/\v=.int (a + (o + i:Nat)) t)->Vals ((Vw o m 1).map _) l) n ar 0 hl λi hi=>by
  let(v,t,e1,e2):=h i hi;exact#[v,t,e1,by simp_all]
theorem DP:ý "range"=↑(.type "range"):=by decide +kernel
def TV:⇑V->Option (Int × Int)
 |[~~~j]=>↑(0,j)|[~~~i,~~~j]=>↑(i,j)|_=>none
def Sn:Bool->⇑V->HO
 |true=>HO.tup|false=>HO.lst
def Td:Bool->String
 |true=>"tuple"|false=>"list"
def PR(b:Bool)(a:TA):TE:=λc H Q=>a c H λd e=>∃ i j:Int,TV d=↑(i,j)/\-100000 < i/\i < 100000/\-100000 < j/\j < 100000/\∀ l,e l=none->Q ↥l (upd e l (Sn b ((ë (j - i).toNat).map λ(k:Nat)=>V.int (i + k))))
theorem MO{a:⇑(È × Obj)}{b:L2.St}{c:Hp}{s1:Ç}{r:È}{i j:Int}{t u v:Tok}{Q:VK}(d:X.calm)(f:Inv X a b c s1)(g:IsRange s1.heap r i j 1 t u v)(h:-100000 < i)(m:i < 100000)(n:-100000 < j)(o:j < 100000)
  (q:∀ l,c l=none->Q ↥l (upd c l (.lst ((ë (j - i).toNat).map λ(k:Nat)=>V.int (i + k))))):Ü (ß X.prog X.w) X.A (call (.type "list") [↥r]) (EP X a b Q) X.xe s1:=by
 refine call_list_range  (f.ok.hd d) g (small_one ∅ ∅ ∅ ∅) (by rw[Y0];split <;> omega:UC i j 1=(((j - i).toNat:Nat):Int)) ∅ λp s x y z B C=>?_
 exact#[↥_,_,f.laid  z (Î _) (show bY X.prog X.w _ p _ (.lst _) from#[by rw[Æ,ó,gV];omega,x.toList,y,by
  refine om i _ ?_ λi H=>?_
  .exact C.1
  .have I:i < x.size:=by rw[C.1];exact H
   let(t,e):=C.2 i _ (Vg I)
   simp_all,by simp_all]),rfl,q _ (f.aM.fresh (Î _))]
theorem Jw{a:⇑(È × Obj)}{c:L2.St}{d:Hp}{s1:Ç}{r:È}{i j:Int}{t u v:Tok}{Q:VK}(f:X.calm)(g:Inv X a c d s1)(h:IsRange s1.heap r i j 1 t u v)(m:-100000 < i)(n:i < 100000)(p:-100000 < j)(s:j < 100000)
  (q:∀ l,d l=none->Q ↥l (upd d l (.tup ((ë (j - i).toNat).map λ(k:Nat)=>V.int (i + k))))):Ü (ß X.prog X.w) X.A (call (.type "tuple") [↥r]) (EP X a c Q) X.xe s1:=by
 refine HT.tuple_range  (g.ok.hd f) h (small_one ∅ ∅ ∅ ∅) (by rw[Y0];split <;> omega:UC i j 1=(((j - i).toNat:Nat):Int)) ∅ λx y z B C F=>?_
 exact#[↥_,_,g.laid  (λb o e=>Â _ (B b o e)) C (show bY X.prog X.w _ _ _ (.tup _) from#[by rw[Æ,ó,gV];omega,z.toList,by
  refine om i _ ?_ λi I=>?_
  .exact F.1
  .have J:i < z.size:=by rw[F.1];exact I
   let(t,e):=F.2 i _ (Vg J)
   simp_all,#[_,Ì _ rfl,rfl,0,rfl]]),rfl,q _ (g.aM.fresh C)]
theorem B4(b:Bool){a:⇑(È × Obj)}{c:L2.St}{d:Hp}{s1:Ç}{r:È}{i j:Int}{t u v:Tok}{Q:VK}(e:X.calm)(f:Inv X a c d s1)(g:IsRange s1.heap r i j 1 t u v)(h:-100000 < i)(m:i < 100000)(n:-100000 < j)(o:j < 100000)
  (q:∀ l,d l=none->Q ↥l (upd d l (Sn b ((ë (j - i).toNat).map λ(k:Nat)=>V.int (i + k))))):Ü (ß X.prog X.w) X.A (call (.type (Td b)) [↥r]) (EP X a c Q) X.xe s1:=by
 cases b with
 |true=>exact Jw e f g h m n o q|false=>exact MO e f g h m n o q
theorem PU(b:Bool):ý (KN b)=↑(.type (Td b)):=by
 cases b with
 |true=>exact sG|false=>exact xf
theorem DQ(b:Bool){e:Ö}{l:Zm}{a:TA}{p p2 pos c:Pos}(d:X.calm)(f:Gl X (KN b))(g:X.mg (KN b)=none)(k:Gl X "range")(m:X.mg "range"=none)(n:PA X (e::l) a)(hs:noStar e)(v:l.all noStar) :
  PE X (.Call (.Name (KN b) p) [.Call (.Name "range" p2) (e::l) [] c] [] pos) (PR b a):=by
 intro x s y H Q I h;refine Call_ (f7 I f g (PU b) (Ua (WJ ?_) rfl rfl) (by cases b <;> decide) (by cases b <;> decide))
 refine Call_ (f7 I k m DP (Ua (bQ (n c x s y H _ I h) λus s1 #[z,H1,A,B,C]=>?_) (bF hs l X.env) (gI X.env c v)));let(i,j,F,J,K,L,P,q):=C
 match z,F with
 |[~~~_],F =>
  cases F;let(u,rfl,r):=vals1 B;let(t,rfl):=r;exact call_range_1 (Wc (B4 b d (A.kept λb o e=>Â _ e) (IsRange.new ..) J K L P q))
 |[~~~_,~~~_],F =>
  cases F;let(u,U,rfl,r,Y):=vals2 B;let(t,rfl):=r;let(t',rfl):=Y;exact call_range_2 (Wc (B4 b d (A.kept λb o e=>Â _ e) (IsRange.new ..) J K L P q))
theorem Gw:∀ {ds a:⇑D},O1 ds=↑a->∃ i j:Int,((ds=[~~~j]/\i=0)∨ds=[~~~i,~~~j])/\-100000 < i/\i < 100000/\-100000 < j/\j < 100000/\a=(ë (j - i).toNat).map λ(k:Nat)=>D.int (i + k)
 |[],_,h=>by cases h
 |[x],a,h=>by
  cases x with
  |int j =>
   let(b,h):=bC h;have b:=jQ.mp b;exact#[0,j,.inl #[rfl,rfl],by omega,by omega,b.1,b.2,by simp_all]
  |_=>cases h
 |[x,y],a,h=>by
  cases x with
  |int i =>
   cases y with
   |int j =>
    let(b,h):=bC h;have c:=jQ.mp b.1;have d:=jQ.mp b.2;exact#[i,j,.inr rfl,c.1,c.2,d.1,d.2,by simp_all]
   |_=>cases h
  |_=>cases h
 |x::y::_::_,_,h=>by
  cases x with
  |int i=>cases y <;> cases h
  |_=>cases h
theorem MP(x:XI lm X G E N sc){p p2 pos c:Pos}(d:glob sc (KN b))(f:glob sc "range")(h:bS as)(g:Good X G E as (a::l)):aw X G E (.lrng b as) (.Call (.Name (KN b) p) [.Call (.Name "range" p2) (a::l) [] c] [] pos):=by
 let(m,_,_):=bu d;let(n,_,_):=bu f;let(o,hs):=g.args h;rw[U7,Á] at hs;refine aG (PE.imp (DQ b x.calm (x.glb _ m) (x.blt _ (by cases b <;> decide)) (x.glb _ n) (x.blt _ (-0)) o hs.1 hs.2) λσ H Q q=>?_) rfl
 let(r,ρ,z,rr,s,u,e,y):=q;refine oi s u e (bV y) λl z1 e1 vs A B C F=>?_;let(xs,hx,e2):=M.ai e1;cases e2;let(s',e',y):=y;cases e';let(ds,h3,h4):=Ê.mp hx;have hd:=jT F h3;let(i,j,U,j1,j2,j3,j4,ex):=Gw h4;refine#[i,j,?_,j1,j2,j3,j4,(λi j ex J L=>by
  subst ex;have P:=aN.ints (K:=X.K) (H:=hz r A) ((ë (j - i).toNat).map λ(k:Nat)=>i + (k:Int));rw[æ,æ] at P;cases b with
  |false=>exact y _ _ (B.trans (Ext.of (ae.new _ L))) (C.same (ae.new _ L)) ((cQ C P L).from B)|true=>exact y _ _ (B.trans (Ext.of (ae.new _ L))) (C.same (ae.new _ L)) (sr (Hd.tup ((C.same (ae.new _ L)).yX (dY.of ao)) (P.same (d9 (ae.new _ L))))):∀ i j ,xs=(ë (j - i).toNat).map (λ(k:Nat)=>D.int (i + k))->∀ J,A J=none->Q ↥J (upd A J (Sn b ((ë (j - i).toNat).map λ(k:Nat)=>V.int (i + k))))) i j ex];rcases U with ⟨rfl,rfl⟩ | rfl
 .let(v,rfl,Y):=hd.one;cases Y.bK;rfl
 .let(v,w,rfl,Y,h6):=hd.two;cases Y.bK;cases h6.bK;rfl
end
theorem xg(a:Nat->Nat)(i:Nat):∀ n,(SS.met a n).testBit i=(ë n).any λj=>a j == i
 |0=>Nat.zero_testBit i
 |n + 1=>by
  show(SS.met a n ||| 2 ^ a n).testBit i=_;rw[Nat.testBit_or,xg a i n,Nat.testBit_two_pow,List.range_succ];simp;rfl
theorem sI:∀ {l:⇑D}{a:Zh},mQ l=↑a->l=a.map (λ(n:Nat)=>D.int n)/\∀ n∈a,n < 8
 |[],a,h=>by cases h;simp_all
 |x::r,a,h=>by
  cases x with
  |int i =>
   let(b,h):=bC h;let(c,d,rfl):=Ë.mp h;let(e,k):=sI d;refine#[?_,λn f=>?_]
   .rw[Ux,<-e,show((i.toNat:Nat):Int)=i from VO b.1]
   .rcases ã.mp f with rfl | f
    .omega
    .exact k n f
  |_=>cases h
theorem Jx{a:Zh}:SS.fw (SS.met (λi=>a.getD i 0) a.length)=(ë 8).filter λi=>a.contains i:=by
 refine Xh λi _=>?_;rw[xg,UY,List.any_eq_true,V0];constructor
 .rintro ⟨j,b,e⟩;rw[XA] at b;rw[<-ZD e,Ñ,Õ b];exact UN b
 .intro h;let(j,b,e):=XD.mp h;exact#[j,Uc.mpr b,by simp_all]
theorem B5{K:Ã}{H:Hp}:∀ {a:Zh}{b:⇑V},aN K H (a.map λ(n:Nat)=>D.int n) b->b=a.map λ(n:Nat)=>V.int n
 |[],_,h=>h.bR
 |n::r,_,h=>by
  let(y,q,rfl,c,d):=aN.aU h;rw[c.bK,B5 d];rfl
theorem B6{K:Ã}{H:Hp}:∀ a:Zh,aN K H (a.map λ(n:Nat)=>D.int n) (a.map λ(n:Nat)=>V.int n)
 |[]=>.nil|n::r=>.cons Hd.int (B6 r)
theorem B7{a:Zh}(h:∀ n∈a,n < 8)(i:Nat):a.getD i 0 < 8:=by
 rw[Ñ];cases e:a[i]? with
 |none=>decide|some n=>exact h n (Û e)
section
variable {lm:Bool}{X:Cx}{G:Gs}{E:XK}{N:Zj}{sc:ò}
def Gx(w:î)(p m:Nat):ö->Prop:=λh=>SS.jN w h p m
theorem DR(c:X.calm):bN X (.type "set") (λd H Q=>∃ (a:È) (f:Zh) (g:⇑V),d=[↥a]/\(gU X.K H a g∨dY X.K H a g)/\g=f.map (λ(n:Nat)=>V.int n)/\(∀ n∈f,n < 8)/\∀ p,H p=none->Q ↥p (upd H p (.ext (Gx X.w p (SS.met (λi=>f.getD i 0) f.length))))):=by
 intro aa s σ H d g Q I r h;let(a,f,vs,rfl,j,rfl,h8,q):=h;let(u,rfl,rx):=vals1 r;subst rx;have l :=B7 h8;have hp:∀ {m:Zk},Vals (f.map λ(n:Nat)=>V.int n) m->m.toArray.size=f.length/\∀ (i:Nat) (v),m.toArray[i]?=↑v->∃ t,v=.int ((λi=>f.getD i 0) i) t:=λ{m} y=>by
  refine#[by rw[á,<-y.length,Æ],λi v e=>?_]
  have e :=by simpa using e
  have hi :=by have:=(Ý.mp e).1;rw[<-y.length,Æ] at this;exact this
  let(w',e1,e2):=y.get (i:=i) (x:=V.int (f[i])) (by simp[hi])
  rw[e] at e1;cases e1;let(t,rfl):=e2;exact#[t,by simp[hi]]
 have z:∀ (B) (C),SS.jN X.w B s.heap.objs.size _->(∀ b u,s.heap.get? b=↑u->B.get? b=↑u)->EP X aa σ Q _ _:=λB C hS J=>by
  refine#[↥s.heap.objs.size,_,I.laid (t':=C) (o:=.ext _) J (Î _) #[hS,?_,λh1 h2 p k=>p.keep k],rfl,q _ (I.aM.fresh (Î _))];let(o,_,_,L,_):=hS;exact#[o,L]
 rcases j with j | j
 .let(m,y,pl,_):=I.list j;let(o,L,P,n,hd):=pl.isList;let(sz,pv):=hp y;refine SS.yN
   #[P,F.sub_list_set,F.sub_list_frozenset,by decide,λA E s Q e q=>YT #[o,e,P,n,hd] q,λA I U Y=>Walks.list U I a Y _,λh e=>#[#[_,Ì _ rfl,rfl,rfl],#[o,Â _ e,P,n,hd]]] (by exact I.ok.hd c) L l pv λB C x J=>?_
  rw[sz] at x;exact z B C x J
 .let(m,y,pl,_):=I.tuple j;let(o,L,P,n,hd):=pl;let(sz,pv):=hp y;refine SS.yN
   #[P,by kernel_rfl,by kernel_rfl,by decide,λA E s Q e q=>Wd #[o,e,P,n,hd] q,λA I U Y=>Walks.tuple U I a Y _,λh e=>#[#[_,Ì _ rfl,rfl,rfl],#[o,Â _ e,P,n,hd]]] (by exact I.ok.hd c) L l pv λB C x J=>?_
  rw[sz] at x;exact z B C x J
theorem xh(a:X.calm)(b:X.A.units + 64 < Vj):bN X (.builtin "sorted") (λd H Q=>∃ (p:È) (m:Nat),d=[↥p]/\m < 256/\H p=↑(.ext (Gx X.w p m))/\∀ l,H l=none->Q ↥l (upd H l (.lst ((SS.fw m).map λ(n:Nat)=>V.int n)))):=by
 intro e s f H d i Q I r h;let(p,m,rfl,j,k,q):=h;let(u,rfl,v):=vals1 r;subst v;obtain⟨⟨o,x,g,y,z,hd⟩,_⟩:=I.aM p _ k;refine SS.AO (by exact I.ok.hd a) b j y z hd λl B C c F J K=>?_
 refine#[↥l,_,I.laid  (o:=.lst _) J F #[?_,_,c,?_,K],rfl,q _ (I.aM.fresh F)]
 .rw[Æ,gV];have:(SS.fw m).length<=8:=â (U6 _ _) ⋯
  omega
 .generalize SS.fw m=l
  induction l with
  |nil=>exact .nil|cons n r L=>exact .cons #[_,rfl] L
theorem Gy:ý "set"=↑(.type "set"):=by decide +kernel
end
end Q
namespace ST
open PySem PySem.W PyProof.Rows
def hT(a:Zi):Int:=reduceHash (Builtin.Tuple.tupleHashOf (a.map hashInt))
abbrev St:=⇑Zi × UL
def MQ(K:⇑Zi)(i:Nat):Int:=(K[i]?.map hT).getD 0
def iF{a:Type}(l:⇑a)(p:Nat)(x:a):⇑a:=l.take p++x::l.drop p
def El(t:UL)(n:Nat):Bool:=t.plain&&!t.gaveWay&&t.fits n
def add(s:St)(a:Zi):Option St:=match s.2.probe (MQ s.1) (hT a) (s.2.probeStart (hT a)) with
 |↑(.empty j none) =>
  let r:=s.2.put j
  let K:=iF s.1 r.2 a
  if El r.1 K.length then if r.1.tooFull then(r.1.relaid (K.map hT).toArray (XJ (s.1.length + 1))).bind λq =>
   let b:=q.2.toList.filterMap (K[·]?)
   if b.length=K.length/\El q.1 b.length=true/\SetTable.sizeAbove (XJ (s.1.length + 1))<=10000 then ↑(b,q.1) else none
   else ↑(K,r.1) else none
 |↑(.candidate _ i _)=>if s.1[i]?=↑a then ↑s else none|_=>none
def s0(led:Bool):St:=([],.fresh 0 0 led)
def run(led:Bool)(l:⇑Zi):Option St:=l.foldlM add (s0 led)
def lQ:Nat->⇑Zh
 |0=>[[]]|n + 1=>(lQ n).flatMap λl=>(ë (n + 1)).filterMap λc=>if c == n || l.getD c 0 == c then ↑(l++[c]) else none
def Q3(led:Bool)(g:Zh):Bool:=match run led (blocks g) with
 |↑s=>(blocks g).all (s.1.contains ·)&&s.1.all ((blocks g).contains ·)&&decide s.1.Nodup&&s.2.led == led&&(ë (s.1.length + 1)).all λi=>WR s.2.place (SS.nZ s.2 i) == i|none=>false
theorem wH:([true,false].all λled=>(ë 7).all λn=>(lQ n).all λg=>Q3 led g):=by decide +kernel
theorem qc{α:Type}[BEq α][LawfulBEq α](l:⇑α):fy l∈lQ l.length:=by
 induction hn:l.length generalizing l with
 |zero =>
  have:=XF hn;subst this;exact Ô.mpr rfl
 |succ n ih =>
  obtain⟨m,x,rfl⟩:∃ m x,l=m++[x]:=#[_,_,(List.dropLast_concat_getLast (λh=>by simp_all)).symm];have hm:=by simpa using hn
  rw[(by
   unfold fy;rw[Um]
   congr 1
   exact Uo λy hy=>by rw[List.idxOf_append,Zv hy]:fy _=fy m++[(m++[x]).idxOf x])];refine List.mem_flatMap.mpr #[_,ih m hm,WT.mpr #[(m++[x]).idxOf x,?_,?_]]
  .rw[XA,<-hn];exact (Ve (show x∈m++[x] by simp))
  .rw[Zv];rw[List.idxOf_append];by_cases hx:x∈m
   .rw[Zv hx];unfold fy;simp[Ñ,Ve hx]
   .rw[Zw hx];simp[hm]
def ent(L:⇑(Zi × È)):Array (Int × Ä):=(L.map λe=>(hT e.1,tv e.2)).toArray
def pG(h:ö)(a:È)(L:⇑(Zi × È))(t:UL):Prop:=∃ o b,h.get? a=↑o/\o.ExactSet/\o.data=.set (ent L) b t
section
variable {P:å}{w:î}{A:þ}{E:Ä->Ç->Prop}{s:Ç}
theorem aH(L:⇑(Zi × È)):(ent L).size=L.length:=by unfold ent;simp
theorem y7{t:UL}{L:⇑(Zi × È)}(a:∀ i,f i=((ent L)[i]?.map λx=>x.1).getD 0):t.probe f h p=t.probe (MQ (L.map (·.1))) h p:=by
 congr 1
 funext i
 rw[a];unfold MQ ent;simp[Ú,Function.comp_def]
theorem y8{t:UL}{Q:SetFound->Ç->Prop}(c:pG s.heap a L t)(d:t.fits L.length)(e:t.gaveWay=false)(f:t.probe (MQ (L.map (·.1))) (hT g) (t.probeStart (hT g))=↑(.empty j none))(q:Q (.free j false) s) :
  Ü (ß P w) A (setSearch a ↥b (hT g) true) Q E s:=by
 let(o,h,k,l,hd):=c;refine À (UK k hd (by rw[aH];exact d) ?_)
 dsimp only;rw[Zw (by rw[e];exact ê),y7 ]
 .show Ü _ _ (match t.probe (MQ (L.map (·.1))) (hT g) (t.probeStart (hT g)) with | ↑met=>_ | x=>_) _ _ _
  rw[f];exact Å q
 .exact λi=>rfl
theorem pH(a:∀ i t,body (.int i t) (none,())=pure (.yield (none,()))):∀ (l:Zk),(∀ v∈l,∃ i t,v=.int i t)->∀ {Q:Zs × Unit->Ç->Prop},Q (none,()) s->Ü (ß P w) A (forIn l (none,()) body) Q E s
 |[],_,Q,q=>by exact Å q
 |v::r,h,Q,q=>by
  let(i,t,rfl):=h v Í;rw[XB,a];exact À (Å (pH a r (λu b=>h u (É _ b)) q))
theorem y9(a:Vv (Uy P w) h c b):∃ o d n,h.get? b=↑o/\o.cls=.type "tuple"/\o.data=.seq d n/\∀ v∈d.toList,∃ i t,v=.int i t:=by
 let(o,d,n,f,g,j,k):=a;refine#[o,d,n,f,g,j,?_];generalize d.toList=l at k;induction k with
 |nil=>exact λv m=>nomatch m
 |cons e _ p =>
  intro v m;rcases ã.mp m with rfl | m
  .cases v with
   |int i t=>exact#[i,t,rfl]|_=>simp[Uy,WO] at e
  .exact p v m
theorem Gz{Q:Bool->Ç->Prop}(a:Vv (Uy P w) s.heap c b)(q:Q false s):Ü (ß P w) A (ofAClassStatement 8 ↥b) Q E s:=by
 let(o,d,n,e,f,g,h):=y9 a;unfold ofAClassStatement;refine À (Vh  #[o,e,f] ?_);show Ü _ _ (do
  let __x <-seqItems? _
  _) _ _ _
 refine À (Vy e g ?_);apply À;rw[<-Array.forIn_toList];exact pH (λi t=>rfl) _ h (Å q)
theorem MR{Q:Bool->Ç->Prop}(a:Vv (Uy P w) s.heap c b)(q:Q true s):Ü (ß P w) A (hashByValue 8 ↥b) Q E s:=by
 let(o,d,n,e,f,g,h):=y9 a;refine À (wpAny_specialOf  #[o,e,f] F.slot_tuple_hash.lookup ?_);refine À (Vy e g ?_);apply À;rw[<-Array.forIn_toList];exact pH (λi t=>rfl) _ h (Å q)
theorem Jy(a:Vv (Uy P w) s.heap d b):∀ (l:Zk) {Q:Bool->Ç->Prop},(∀ v∈l,∃ c e,v=↥c/\Vv (Uy P w) s.heap e c)->Q false s->Ü (ß P w) A (searchCouldBeSeen ↥b l) Q E s:=by
 intro l Q f q;apply À
 induction l with
 |nil=>exact Å (Å q)
 |cons v r g =>
  let(c,e,rfl,h):=f v Í;rw[XB];have g:=g λu i=>f u (É _ i);apply À;by_cases j:((b == c) || Xv ↥b&&Xv ↥c)=true
  .show Ü _ _ (if ((b == c) || Xv ↥b&&Xv ↥c)=true then _ else _) _ _ _;rw[Zv j];exact Å g
  .show Ü _ _ (if ((b == c) || Xv ↥b&&Xv ↥c)=true then _ else _) _ _ _;rw[Zw j];refine À ((WG (Uy P w)).quiet a ?_);refine À ((WG (Uy P w)).quiet h ?_);refine À (Gz a ?_);refine À (Gz h ?_);exact Å g
theorem xj{t:UL}{Q:SetFound->Ç->Prop}(c:(WG (Uy P w)).room A)(d:pG s.heap a L t)(f:t.fits L.length)(g:t.gaveWay=false)(h:∀ e∈L,Vv (Uy P w) s.heap e.1 e.2)(k:Vv (Uy P w) s.heap l b)(m:t.probe (MQ (L.map (·.1))) (hT l) (t.probeStart (hT l))=↑(.candidate j i nx))(n:L[i]?=↑(l,p))(q:Q (.there none) s) :
  Ü (ß P w) A (setSearch a ↥b (hT l) true) Q E s:=by
 let(o,r,u,y,hd):=d;have z:=h _ (Û n);unfold setSearch setSearchFrom;refine À (UK u hd (by rw[aH];exact f) ?_)
 dsimp only;rw[Zw (by simp_all),y7 ]
 .show Ü _ _ (match t.probe (MQ (L.map (·.1))) (hT l) (t.probeStart (hT l)) with | ↑met=>_ | x=>_) _ _ _
  rw[m];dsimp only;rw[(by unfold ent;simp[n]:(ent L)[i]?=↑(hT l,↥p))];dsimp only;by_cases C:(!t.led)=true
  .rw[Zv C];refine À (Jy k _ (λv F=>?_) ?_)
   .unfold ent at F;simp only[List.filter_toArray,Ð,mem_filter] at F;obtain⟨x,⟨⟨e,G,rfl⟩,_⟩,rfl⟩:=F;exact#[e.2,e.1,rfl,h e G]
   .rw[Zw ê];refine À (û ((WG (Uy P w)).eqBool c z k ?_));refine À (UK u hd (by rw[aH];exact f) ?_)
    rw[Zv ⋯]
    exact Å q
  .rw[Zw C];refine À (û ((WG (Uy P w)).eqBool c z k ?_));refine À (UK u hd (by rw[aH];exact f) ?_)
   rw[Zv ⋯]
   exact Å q
 .exact λi=>rfl
theorem Jz(L:⇑(Zi × È))(p:Nat)(a:Zi)(b:È):X2 (ent L) p (hT a,tv b)=ent (iF L p (a,b)):=by
 unfold X2 ent iF;simp;exact Vz ⋯
theorem sJ(L:⇑(Zi × È))(p:Nat)(a:Zi)(b:È):(iF L p (a,b)).map (·.1)=iF (L.map (·.1)) p a:=by
 unfold iF;simp_all
theorem lR(l:⇑α)(p:Nat)(x:α):(iF l p x).length=l.length + 1:=by
 unfold iF;simp;omega
theorem nY(L:⇑(Zi × È)):(ent L).map (·.1)=((L.map (·.1)).map hT).toArray:=by
 unfold ent;rw[map_toArray,æ,æ];rfl
theorem AU{a b:Type}(f:a->b)(L:⇑a):∀ o:Zh,o.filterMap ((L.map f)[·]?)=(o.filterMap (L[·]?)).map f
 |[]=>rfl
 |i::r=>by
  rw[Ud,Ud,Ú,AU f L r];cases L[i]? <;> rfl
theorem MS(L:⇑(Zi × È))(o:Zr):o.filterMap ((ent L)[·]?)=ent (o.toList.filterMap (L[·]?)):=by
 apply YG.mp;rw[Array.toList_filterMap];show o.toList.filterMap (λx=>(L.map _).toArray[x]?)=_;simp only[List.getElem?_toArray];exact AU _ L o.toList
set_option tactic.hygienic true in
theorem AJ{a b:È}{c:Zi}{L:⇑(Zi × È)}{t d:UL}{K':⇑Zi}{Q:Bool->Ç->Prop}(hr:(WG (Uy P w)).room A)(hS:pG s.heap a L t)(hk:∀ e∈L,Vv (Uy P w) s.heap e.1 e.2)(hb:Vv (Uy P w) s.heap c b)(f:El t L.length)(hl:L.length<=100)(g:add (L.map (·.1),t) c=↑(K',d))
  (h:∀ r k l,V6 a s.heap k->pG k a l d->l.map (·.1)=K'->El d l.length->l.length<=L.length + 1->(∀ e∈l,e∈L∨e=(c,b))->Q r { s with heap:=k }):Ü (ß P w) A (setAddHashed a ↥b (hT c)) Q E s:=by
 have m:=f;unfold El at f;simp only[Á,ç] at f;obtain⟨⟨tp,tg⟩,n⟩:=f;have q:=hS;let(o,u,v,hx,hd):=hS;refine û (À (UK v hd (by rw[aH];exact n) ?_))
 dsimp only;apply À;unfold add at g;split at g
 .rename_i j x;apply y8 q n tg x;refine À (UK v hd (by rw[aH];exact n) ?_)
  generalize t.put j=r at g ⊢;let(r1,p):=r;dsimp only at g ⊢;split at g
  rotate_left
  .cases g
  rename_i y;have z:=y;unfold El at z;simp only[Á,ç] at z;obtain⟨⟨rp,rg⟩,rf⟩:=z;have B:(iF (L.map (·.1)) p c).length=L.length + 1:=by rw[lR,Æ]
  rw[B] at rf y;have get:∀ {C:ö}{o:Obj}{es u t} (F:Array (Int × Ä)) (d:UL),C.get? a=↑o->o.data=.set es u t->(C.update a (Y4 F d)).get? a=↑{ o with data:=.set F (u + 1) d }:=λ{C o es u t} F d G H=>by
   have:=VG (Y4 F d) G (by rw[putSet_of F d H];rfl)
   rw[putSet_of F d H] at this;exact this
  rw[Zv rp];refine À (MR hb ?_);rw[Zv rfl];rw[Jz];have sz1:(ent (iF L p (c,b))).size<=sizeLine:=by rw[aH,lR,gV];omega
  have I:=get (ent (iF L p (c,b))) r1 v hd;have J:=U3 s.heap a (Y4 (ent (iF L p (c,b))) r1);have K:∀ e∈iF L p (c,b),e∈L∨e=(c,b):=λe N=>by
   unfold iF at N;rcases ù.mp N with N | N
   .exact .inl (List.mem_of_mem_take N)
   .rcases ã.mp N with N | N
    .exact .inr N
    .exact .inl (List.mem_of_mem_drop N)
  refine À (YS v hd ?_ sz1);split at g
  .rename_i U;rw[Zv (by simpa using U)]
   obtain⟨⟨t2,ord⟩,hq,g⟩:=Ê.mp g;dsimp only at g;split at g
   rotate_left
   .cases g
   rename_i hc;let(c1,c2,c3):=hc;cases g;refine À ?_;unfold setRelay;refine À (UK I rfl (by rw[aH,lR];exact rf) ?_)
   dsimp only;rw[aH];rw[Æ] at c3 hq;rw[Zw (by rw[gV];omega)]
   rw[nY,sJ,hq];refine À ?_;show Ü _ _ (if ((ord.filterMap ((ent (iF L p (c,b)))[·]?)).size != (ent (iF L p (c,b))).size)=true then _ else _) _ _ _;have H:(ord.toList.filterMap ((iF L p (c,b))[·]?)).map (·.1)=ord.toList.filterMap ((iF (L.map (·.1)) p c)[·]?):=by
    rw[<-sJ L p c b,AU]
   have X:(ord.toList.filterMap ((iF L p (c,b))[·]?)).length=L.length + 1:=by
    rw[<-B,<-c1,<-H,Æ]
   rw[MS,aH,aH,X,lR,Zw ⋯]
   refine Å (YS I rfl ?_ (by rw[aH,X,gV];omega))
   refine Å (h true _ (ord.toList.filterMap ((iF L p (c,b))[·]?)) (J.trans (U3 _ a _)) #[_,_,get _ _ I rfl,hx,rfl] H (by rw[X,<-B,<-c1];exact c2) (by rw[X];exact Î _) λe N=>?_)
   let(i,_,Y):=WT.mp N;exact K e (Û Y)
  .rename_i U;cases g;rw[Zw (by simpa using U)]
   exact Å (h true _ (iF L p (c,b)) J #[_,u + 1,I,hx,rfl] (sJ L p c b) (by rw[lR];exact y) (by rw[lR];exact Î _) K)
 .rename_i j i nx x;split at g
  .rename_i Y;cases g;rw[Ú] at Y;obtain⟨⟨k1,b'⟩,G,H⟩:=Ë.mp Y;cases H;refine xj hr q n tg hk hb x G ?_;exact Å (h false s.heap L (Heap.SameBut.refl a s.heap) q rfl m (le_succ _) λe N=>.inl N)
  .cases g
 .cases g
end
section
variable {P:å}{w:î}{A:þ}
theorem pG.keep{t:UL}(x:pG h a L t)(k:∀ o,h.get? a=↑o->b.get? a=↑o):pG b a L t:=by
 let(o,c,d,r):=x;exact#[o,c,k o d,r]
theorem GA{R:Result->Ç->Prop}{I a S:È}{St:Nat->ö->Prop}{vals:⇑(Zi × È)}{Kf:⇑Zi}{tf:UL}{s0:Ç}(W:Walks P w A.in1 I [I,a] [I] n Pv St)(hr:(WG (Uy P w)).room A.in1)(d:S≠I)(f:S≠a)(hl:vals.length=n)(hz:n<=50)(hv:∀ (i:Nat) (e:Zi × È) (v:Ä),vals[i]?=↑e->Pv i v->v=tv e.2)(g:∀ e∈vals,e.2≠I/\e.2≠S)
  (j:∀ e∈vals,Vv (Uy P w) s0.heap e.1 e.2)
  (hR:∀ l p L,pG l S L tf->L.map (·.1)=Kf->El tf L.length->(∀ e∈L,e∈vals)->(∀ b u,b≠I->b≠S->s0.heap.get? b=↑u->l.get? b=↑u)->R (.ok (.ret .none)) { s0 with heap:=l,toks:=p }) :
  ∀ (k i:Nat) (h:ö) (p:Nat) (L:⇑(Zi × È)) (t:UL),i + k=n->St i h->pG h S L t->El t L.length->L.length<=i->(∀ e∈L,e∈vals)->((vals.drop i).map (·.1)).foldlM add (L.map (·.1),t)=↑(Kf,tf)->(∀ b u,b≠I->b≠S->s0.heap.get? b=↑u->h.get? b=↑u) ->
   W5 (ß P w) A (.builtin "set.update.loop" #[[↥S,↥I],[]]) R { s0 with heap:=h,toks:=p }:=by
 intro k
 induction k with
 |zero =>
  intro i h p L t q y x B C E F G;have q:i=n:=q;subst q;apply Uu W9;refine À  (W.done _ _ _ y λH J K=>?_);rw[<-hl,YD] at F;cases F;exact Å (hR H J L (x.keep λo e=>K _ _ (by simpa using d) e) rfl B E λb u N U e=>K b u (by simpa using N) (G b u N U e))
 |succ k ih =>
  intro i h p L t q y x B C E F G;refine Uu W9 ?_;rw[Xo W8 _];have hi:i < vals.length:=by omega
  refine À (m:=pyNext ↥I) (W.item i _ _ _ (_l (_a (V9 _ _)) q) y λv H J hv1 aO K=>?_)
  have ev:=hv i _ v (Õ hi) hv1;subst ev;have hm:=UN hi;have X:∀ b u,b≠I->b≠S->s0.heap.get? b=↑u->H.get? b=↑u:=λb u N U e=>K b u (by simpa using N) (G b u N U e)
  have key:∀ e∈vals,Vv (Uy P w) H e.1 e.2:=λe Y=>by
   let(o,it,n,g1,g2):=j e Y;exact#[o,it,n,X _ _ (g e Y).1 (g e Y).2 g1,g2]
  rw[UO hi,Ux,List.foldlM_cons] at F;obtain⟨⟨K',t'⟩,ha,F⟩:=Ê.mp (show(add (L.map (·.1),t) vals[i].1).bind _=_ from F);refine À (m:=holding _ (setAdd S ↥vals[i].2)) (û ?_);unfold setAdd;refine û (À ((WG (Uy P w)).pyHash hr (key _ hm) ?_));refine AJ (s:={ s0 with heap:=H,toks:=J + (WG (Uy P w)).draws vals[i].1 }) hr (x.keep λo e=>K _ _ (by simpa using d) e) (λe Y=>key e (E e Y)) (key _ hm) B ∅ ha λr h2 L' sb x2 eK ht' hl' mem=>?_
  have off:∀ c o,c≠S->H.get? c=↑o->h2.get? c=↑o:=λc o hc e=>(sb.2 c hc).trans e;refine Å #[W0 W8 _,ih (i + 1) h2 _ L' t' (_A (_j _ _ _) q) (W.frame _ H _ aO λc hc o e=>off c o (λz=>?_) e) x2 ht' (â hl' (Xe C)) (λe Y=>?_) (by rw[eK];exact F) λb u N U e=>off b u U (X b u N U e)]
  .subst z;rcases ã.mp hc with z | z
   .exact d z
   .exact f (by simpa using z)
  .rcases mem e Y with Y | Y
   .exact E e Y
   .rw[Y];exact hm
end
section
variable {P:å}{w:î}{A:þ}{E:Ä->Ç->Prop}{s:Ç}
set_option maxHeartbeats 3200000 in
theorem GB{T:String}{l:È}{o it:Obj}{n:Nat}{Pv:Nat->Ä->Prop}{St:È->Nat->ö->Prop}{vals:List (Zi × È)}{Kf:List Zi}{tf:UL}{Q:Ä->Ç->Prop}(D:SS.OX P w T l o it n Pv St)(hr:∀ B:þ,B.units<=A.units + 10->(WG (Uy P w)).room B)(hh:A.handled=none)(ho:s.heap.get? l=some o)(hl:vals.length=n)(hz:n<=50)(hv:∀ (i:Nat) (e:Zi × È) (v:Ä),vals[i]?=some e->Pv i v->v=tv e.2)(hk0:∀ e∈vals,Vv (Uy P w) s.heap e.1 e.2)(hf:run (SS.led w) (vals.map (·.1))=some (Kf,tf))
  (h:∀ (h':ö) (tk:Nat) (L:List (Zi × È)),pG h' s.heap.objs.size L tf->L.map (·.1)=Kf->El tf L.length=true->(∀ e∈L,e∈vals)->(∀ b u,s.heap.get? b=some u->h'.get? b=some u)->Q (.ref s.heap.objs.size) { s with heap:=h',toks:=tk }):Ü (ß P w) A (call (.type "set") [.ref l]) Q E s:=by
 let(c,tl,hmro):=UI.mro;have hmade:=UI.made;have hsub:=UI.sub;have h1:=UI.notType;have h2:=UI.canCreate;have hct:=F.typeCall_set_1 (.ref l);refine Xa (codeAny_of_tree ?_);show Ü _ _ (callAny (.type "set") _) _ _ _;refine Å #[X8 _ (by decide +kernel),Uu F.entry_type_call ?_]
 rw[Around.under_plain (weight_type_call_type "set" [.ref l] []) rfl]
 repeat (any_goals (first | assumption | wp_step))
 refine U4 (SS.BS (.ref l) (E:=E) (Q:=λv s1=>v=.ref s.heap.objs.size/\s1={ s with heap:=s.heap.push (SS.jX w) }) #[rfl,rfl]) λr s1 hr=>?_;cases r with
 |error e=>exact hr
 |ok fl =>
  cases fl with
  |ret v =>
   let(rfl,rfl):=hr;have hT:Shared.TypeIs { s with heap:=s.heap.push (SS.jX w) } (.ref s.heap.objs.size) "set":=#[_,Ì _ rfl,rfl];have hli:=UI.init.lookup;have hbi:=UI.init.bind (.ref s.heap.objs.size);have lS:l < s.heap.objs.size:=à ho;have ho1:(s.heap.push (SS.jX w)).get? l=some o:=Â _ ho
   repeat (any_goals (first | assumption | wp_step))
   refine U4 (X1 (R:=wants (λr s2=>r=.none/\∃ h' tk L,s2={ s with heap:=h',toks:=tk }/\pG h' s.heap.objs.size L tf/\L.map (·.1)=Kf/\El tf L.length=true/\(∀ e∈L,e∈vals)/\∀ b u,s.heap.get? b=some u->h'.get? b=some u) E) UI.init.plain F.entry_set_init (check_set_init_1 hT ?_)) λr2 s2 hr2=>?_
   .have f1:=D.f1;have f2:=D.f2;have f3:=D.f3;let(ocls,odict,odata,oslots):=o;have hc:ocls=.type T:=D.ty;subst hc;unfold Vq.«set.__init__» noKeywords Y8;generalize hPI:pyIter=PI
    wp_walk
    subst hPI;refine D.iter _ _ _ _ ho1 ?_;refine À (Yt ?_);have hI:(s.heap.push (SS.jX w)).objs.size=s.heap.objs.size + 1:=Wy ..;have nI:l≠(s.heap.push (SS.jX w)).objs.size:=by rw[hI];exact Ù (Uw lS)
    have nS:s.heap.objs.size ∉ [(s.heap.push (SS.jX w)).objs.size,l]:=by
     rw[hI];simp only[Ur,Ub,ZF,not_or];exact#[Ù (Vs _),Vx lS]
    have old:∀ b u,s.heap.get? b=some u->((s.heap.push (SS.jX w)).push it).get? b=some u:=λb u e=>Â _ (Â _ e);have lw:∀ {b:È},b < s.heap.objs.size->b≠(s.heap.push (SS.jX w)).objs.size/\b≠s.heap.objs.size:=λ{b} hb=>#[by rw[hI];exact Ù (Uw hb),Ù hb]
    refine GA (s0:={ s with heap:=(s.heap.push (SS.jX w)).push it }) (I:=(s.heap.push (SS.jX w)).objs.size) (a:=l) (S:=s.heap.objs.size) (vals:=vals) (Kf:=Kf) (tf:=tf) (D.walk _ _ (by simp[hh]) nI) (hr _ (by show _<=A.units + 10;simp[þ.in1];try omega)) (by rw[hI];exact Ù (Vs _)) (Vx lS) hl hz hv (λe he=>by let(_,_,_,g1,_):=hk0 e he;exact lw (à g1)) (λe he=>by let(o1,it1,n1,g1,g2):=hk0 e he;exact#[o1,it1,n1,old _ _ g1,g2]) (λh' tk L x1 x2 x3 x4 kp=>?_) n 0 _ _ [] (.fresh 0 0 (SS.led w)) (X3 _) (D.zero _ ho1) #[_,0,Â _ (Ì _ rfl),#[rfl,rfl,rfl],rfl] ?_ (Î _) (λe he=>nomatch he) hf λ_ _ _ _ e=>e
    .refine Å (Å #[rfl,h',tk,L,rfl,x1,x2,x3,x4,λb u e=>?_]);exact kp b u (lw (à e)).1 (lw (à e)).2 (old b u e)
    .cases SS.led w <;> decide
   .cases r2 with
    |error e=>exact hr2
    |ok fl2 =>
     cases fl2 with
     |ret r =>
      let(rfl,h',tk,L,rfl,x1,x2,x3,x4,kp):=hr2
      repeat (any_goals (first | assumption | wp_step))
      exact h _ _ L x1 x2 x3 x4 kp
     |_=>exact hr2.elim
  |_=>exact hr.elim
end
theorem GC{c d:Type}{f:c->d}:∀ {l m:⇑d},l.Perm m->∀ L:⇑c,m=L.map f->∃ L2:⇑c,L2.Perm L/\l=L2.map f:=by
 intro l m h
 induction h with
 |nil =>
  simp_all
 |cons x _ g =>
  intro L e;cases L with
  |nil=>cases e
  |cons y r =>
   cases e;let(L2,i,rfl):=g r rfl;exact#[y::L2,i.cons y,rfl]
 |swap x y l =>
  intro L e;cases L with
  |nil=>cases e
  |cons a r =>
   cases r with
   |nil=>cases e
   |cons b r =>
    cases e;exact#[b::a::r,.swap _ _ _,rfl]
 |trans _ _ j k =>
  intro L e;let(L2,i,n):=k L e;let(o,p,q):=j L2 n;exact#[o,p.trans i,q]
section
variable {P:å}{w:î}{A:þ}{E:Ä->Ç->Prop}{s:Ç}
theorem sL:∀ {a:Zi}{b:Zk},ItemsAre (Uy P w) a b->ReadsAll h b (Q.i6 (a.map L2.D.int)) []
 |[],_,.nil=>.nil
 |k::a,v::_,.cons e t=>by
  let(u,rfl):=(by
   cases v with
   |int i u =>
    exact#[u,by rw[ZD (by simpa [Uy,WO] using e:(i == k)=true)]]
   |_=>simp[Uy,WO] at e:∃ u,v=.int k u);exact .cons (.int _ _) (sL t)
theorem sM:∀ a:Zi,Q.bt (a.map L2.D.int)
 |[]=>rfl|_::r=>sM r
theorem vg:∀ L:List (Zi × È),(∀ e∈L,Vv (Uy P w) h e.1 e.2)->Q.bM h (L.map λe=>tv e.2) (L.map λe=>tD e.1)
 |[],_=>#[rfl,[],.nil]
 |e::r,k=>by
  let(o,a,n,b,c,d,f):=k e Í;let(g,as,i):=vg r λx j=>k x (É _ j);refine#[?_,_,.cons (.tuple b c d (sL f)) i];show(Q.bt (e.1.map L2.D.int)&&Q.bt (r.map λe=>tD e.1))=true;rw[g,sM];rfl
end
open PySem PySem.W PyProof.Rows MySort
theorem MT(led:Bool){g:Zh}(a:g.length<=6)(b:g∈lQ g.length):Q3 led g:=by
 exact Ó.mp (Ó.mp (Ó.mp wH led (by simp)) g.length (Uc.mpr (_a a))) g b
theorem JA{led:Bool}(h:Q3 led g):∃ s,run led (blocks g)=↑s/\(∀ x∈blocks g,x∈s.1)/\(∀ x∈s.1,x∈blocks g)/\s.1.Nodup/\s.2.led=led/\∀ i,i<=s.1.length->WR s.2.place (SS.nZ s.2 i)=i:=by
 unfold Q3 at h;cases e:run led _ with
 |none=>rw[e] at h;cases h
 |some s =>
  rw[e] at h;simp only[Á,Uq,Zx,Zy,V0,XA] at h;obtain⟨⟨⟨⟨a,b⟩,c⟩,d⟩,f⟩:=h;exact#[s,rfl,a,b,c,d,λi j=>f i (_a j)]
theorem PV{w:î}{t:UL}(a:t.led=SS.led w)(b:∀ i,i<=L.length->WR t.place (SS.nZ t i)=i)(c:El t L.length)(hs:L.length<=50):SS.ux w t (ent L):=by
 unfold El at c;simp only[Á,ç] at c;exact#[by rw[aH];exact c.2,c.1.1,a,by rw[aH];exact b,by rw[aH];exact â hs (_e (Ui _))]
section
variable {P:å}{w:î}{A:þ}{E:Ä->Ç->Prop}{s:Ç}{S ep:Nat}{L:List (Zi × È)}{t:UL}{o:Obj}
theorem AV{R:Ä->Ç->Prop}(hh:A.handled=none)(hu:A.units + 64 < Vj)(hG:SS.ux w t (ent L))(hl:L.length<=50)(hk:∀ e∈L,Vv (Uy P w) s.heap e.1 e.2)(aM:Q.bI (L.map λe=>tD e.1))(ho:s.heap.get? S=↑o)(a:o.ExactSet)(hd:o.data=.set (ent L) ep t)
  (h:∀ f g j c (l:⇑(Zi × È)),l.Perm L->(l.map λe=>tD e.1)=Q.dh (L.map λe=>tD e.1)->s.heap.objs.size<=f->(∀ b u,s.heap.get? b=↑u->g.get? b=↑u)->g.get? f=↑(UD "list" (l.map λe=>tv e.2).toArray c)->R ↥f { s with heap:=g,toks:=j }):Ü (ß P w) A (call (.builtin "sorted") [↥S]) R E s:=by
 obtain⟨L2,q,e2⟩:∃ L2:⇑(Zi × È),L2.Perm L/\(SS.ord w S ep _).toList.map _=L2.map λe=>tv e.2:=by
  apply GC ((SS.rS w S ep (ent L)).map (·.2)) L;unfold ent;rw[æ];rfl
 have v:(L2.map _).Perm (L.map λe=>tD e.1):=q.map _;have z:∀ x∈L2.map _,∀ y∈L2.map _,Q.jy x < 3/\Q.g9 x=true/\Q.bH x y=true:=λx a y B=>by
  have C:=Ó.mp aM x (v.mem_iff.mp a);simp only[Á,Zx] at C;exact#[C.1,C.2.1,Ó.mp C.2.2 y (v.mem_iff.mp B)]
 have inj:∀ x∈L2.map _,∀ y∈L2.map _,Q.fb x=Q.fb y->x=y:=λx a y B e=>by
  have:=(z x a y B).2.2;unfold Q.bH at this;simp only[Á,Vd,ç] at this;rcases this.2.2 with h | h
  .exact Q.wY _ _ h
  .rw[e] at h;simp at h
 obtain⟨k,k3,kk⟩:∃ k,k < 3/\∀ x∈L2.map (λe=>tD e.1),Q.jy x=k:=by
  cases F:L2.map _ with
  |nil=>exact#[0,by decide,λx a=>nomatch a]
  |cons d r =>
   have G:d∈L2.map (λe=>tD e.1):=by rw[F];exact Í
   refine#[Q.jy d,(z d G d G).1,λx a=>?_];have:=(z d G x (by rw[F];exact a)).2.2
   unfold Q.bH at this;simp only[Á,Zy] at this;exact this.1
 have H:L2.length<=50:=by rw[q.length_eq];exact hl
 refine VH kind_sorted plain_sorted entry_sorted (args_sorted1 _) ?_;unfold Vq.«sorted»;refine À (m:=checkCount "sorted" 1 1 _) (Å ?_);refine À (SS.kz (by simp[hh]) hG ho a hd λC j lS I=>?_)
 rw[e2];refine À (WY ?_ (by show(L2.map _).length<=_;rw[Æ,gV];omega))
 have J:(C.push (UD "list" (L2.map λe=>tv e.2).toArray 0)).get? C.objs.size=↑(UD "list" (L2.map λe=>tv e.2).toArray 0):=Ì _ rfl;have kw:∀ g,rF (C.push (UD "list" (L2.map λe=>tv e.2).toArray 0)) g->rE P w A.in1.in1 { s with heap:=g,toks:=j } (L2.map λe=>tv e.2) (sortedBy ((L2.map λe=>tD e.1).map Q.fb)) (Q.kdOf k):=λg K=>by
  letI:Q.Tb:=#[[]]
  refine Q.sC (by rw[Æ];omega) (vg (P:=P) (w:=w) L2 λe N=>?_) (by show A.units + 1 + 1 + 40 < Vj;omega) k3 kk (λd hd=>(z d hd d hd).2.1) λd hd e N=>(z d hd e N).2.2
  let(o,ar,n,g1,g2,g3):=hk e (q.mem_iff.mp N);exact#[o,ar,n,K _ _ (Â _ (I _ _ g1)) g2,g2,g3]
 refine À (û (My slot_list_sort #[_,J,rfl] entry_list_sort (ko J kw λp g c U K hD=>#[_,rfl,Å #[_,rfl,?_]]) (YE _)));have X:∀ i∈p,i < L2.length:=λi Y=>by
  have:=U.1.mem_iff.mp Y;simpa using this
 have e3:(p.map λi=>(L2.map λe=>tv e.2).getD i ð)=(p.map λi=>L2.getD i ([],0)).map λe=>tv e.2:=by
  rw[æ];refine Uo λi Y=>?_;have:=X i Y;simp[Ñ,this]
 have e4:((p.map λi=>L2.getD i ([],0)).map λe=>tD e.1)=Q.dh (L.map λe=>tD e.1):=by
  letI:Q.Tb:=#[[]]
  have C:=Q.B0 inj U;rw[æ];have h2:Q.dh (L2.map λe=>tD e.1)=Q.dh (L.map λe=>tD e.1) :=
   (Q.yY ((Q.dk _).trans v.symm) (Q.kF _) inj)
  rw[<-h2,<-C];refine Uo λi Y=>?_;have:=X i Y;simp[Ñ,this]
 have e5:(p.map λi=>L2.getD i ([],0)).Perm L:=by
  have C:=U.1.map λi=>L2.getD i ([],0);rw[Æ,Æ] at C;rw[MySort.range_getD] at C;exact C.trans q
 rw[e3] at hD;exact h _ g j c _ e5 e4 (Vb lS) (λb u e=>K b u (Ù (à (I b u e))) (Â _ (I b u e))) hD
end
end ST
namespace L2
open PySem PySem.Spec PyProof.Rows
theorem items_int{w:î}:∀ {a:Zi}{b:Zk},Vals (a.map V.int) b->ItemsAre (Uy P w) a b
 |[],_,h=>by cases h;exact .nil
 |k::a,_,h=>by
  cases h with
  |cons r t =>
   let(u,rfl):=r;exact .cons (by show WO k (.int k u)=true;simp[WO]) (items_int t)
section
variable {X:Cx}{aa:⇑(È × Obj)}{σ:St}{H:Hp}{s:Ç}
theorem key_is(I:Inv X aa σ H s)(h:dY X.K H b (a.map V.int)):Vv (Uy X.prog X.w) s.heap a b:=by
 obtain⟨f,g,⟨o,e,c,n,d⟩,_⟩:=I.tuple h;exact#[o,f.toArray,n,e,c,d,items_int g]
end
end L2
namespace Q
open PySem L2 PySem.Spec PyProof.Rows
variable [TB:Tb]
def vh(p:Nat)(L:⇑(Zi × È))(t:UL):ö->Prop:=λh=>ST.pG h p L t
structure DS(K:PySem.W.Frag)(w:World)(H:Hp)(ks:⇑⇑Int)(L:⇑(⇑Int × Addr))(t:SetTable):Prop where
 g:SS.ux w t (ST.ent L)
 few:L.length<=50
 at_:∀ e∈L,dY K H e.2 (e.1.map V.int)
 mem:∀ x,x∈L.map (·.1)↔x∈ks
 nodup:(L.map (·.1)).Nodup
theorem DS.same{K:Ã}{w:î}{H a:Hp}{b:⇑Zi}{L:⇑(Zi × È)}{t:UL}(x:DS K w H b L t)(e:ae H a):DS K w a b L t:=#[x.g,x.few,λy c=>e.j6 (x.at_ y c),x.mem,x.nodup]
def GD(K:Ã)(H:Hp)(P:Zi->È->Prop)(a:⇑V)(c:⇑Zi):Prop:=UJ (λx k=>∃ b,x=V.ref b/\dY K H b (k.map V.int)/\P k b) a c
theorem vi{K:Ã}{H:Hp}{P:Zi->È->Prop}:∀ {a:⇑V}{c:⇑Zi},GD K H P a c->∃ d:⇑(Zi × È),d.map (·.1)=c/\a=d.map (λe=>V.ref e.2)/\∀ e∈d,dY K H e.2 (e.1.map V.int)/\P e.1 e.2
 |_,_,.nil=>#[[],rfl,rfl,λe f=>nomatch f]
 |_,_,.cons (b:=k) h r=>by
  let(b,rfl,g):=h;let(d,i,j,l):=vi r;refine#[(k,b)::d,by rw[Ux,i],by rw[Ux,j],λe f=>?_]
  rcases ã.mp f with rfl | f
  .exact g
  .exact l e f
theorem vj:∀ {a:⇑(Zi × È)}{b:Zk},Vals (a.map λe=>V.ref e.2) b->b=a.map λe=>tv e.2
 |[],_,.nil=>rfl
 |e::r,_,.cons h t=>by
  cases h;rw[Ux,<-vj t]
theorem vk:∀ a:List (Zi × È),Vals (a.map λe=>V.ref e.2) (a.map λe=>tv e.2)
 |[]=>.nil|e::r=>.cons rfl (vk r)
section
variable {lm:Bool}{X:Cx}{G:Gs}{E:XK}{N:Zj}{sc:ò}
theorem vm(hc:X.calm)(hu:X.A.units + 64 < Vj):bN X (.type "set") (λxs H Q=>∃ (a:È) (b:⇑Zi) (c:⇑V) (P:Zi->È->Prop),xs=[↥a]/\gU X.K H a c/\GD X.K H P c b/\b.length<=6/\ST.blocks (ST.fy b)=b/\∀ p L t,H p=none->DS X.K X.w H b L t->(∀ e∈L,P e.1 e.2)->Q ↥p (upd H p (.ext (vh p L t)))):=by
 intro aa s σ H xs c Q I r h;let(a,b,vs,P,rfl,hq,pk,h6,hb,q):=h;let(u,rfl,rx):=vals1 r;cases rx;let(d,f,rfl,j):=vi pk;let(ar,rv,pl,_):=I.list hq;let(o,ho,l,n,hd):=pl.isList;obtain rfl:=vj rv;have hlen:d.length=b.length:=by rw[<-f,Æ]
 have gl:(ST.fy b).length=b.length:=by unfold ST.fy;rw[Æ]
 obtain⟨⟨Kf,tf⟩,m,m1,y,nd,ld,bl⟩:=ST.JA (ST.MT _  (â (Y5 gl) h6) (by rw[gl];exact ST.qc b));rw[hb] at m m1 y;refine ST.GB          #[l,F.sub_list_set,F.sub_list_frozenset,by decide,λA E s Q e q=>YT #[o,e,l,n,hd] q,λA I hh hn=>Walks.list hh I a hn _,λh e=>#[#[_,Ì _ rfl,rfl,rfl],#[o,Â _ e,l,n,hd]]] (λB hB=>by show B.units < Vj;omega) (I.ok.hd hc) ho ⋯ (by simp;omega) (λi e v z C=>by simp_all) (λe J=>key_is I (j e J).1) (by rw[f];exact m) λh' tk L hS U ht hL kp=>?_
 have hS':=hS;let(oS,ep,hoS,_):=hS';have Y:L.length<=50:=by
  have z:(L.map (·.1)).length<=b.length:=List.Nodup.length_le_of_subset (U ▸ nd) λx hx=>y x (U ▸ hx);rw[Æ] at z;omega
 refine#[↥s.heap.objs.size,_,I.laid (t':=tk) (o:=.ext (vh s.heap.objs.size L tf)) kp (Î _) #[hS,#[oS,hoS],λz C p k=>ST.pG.keep p k],rfl,q _ _ _ (I.aM.fresh (Î _)) #[ST.PV ld (λi hi=>bl i (by show i<=Kf.length;rw[<-U,Æ];exact hi)) ht Y,Y,λe J=>(j e (hL e J)).1,λx=>?_,U ▸ nd] λe J=>(j e (hL e J)).2]
 rw[U];exact#[y x,m1 x]
theorem xk(a:X.calm)(b:X.A.units + 64 < Vj):bN X (.builtin "sorted") (λd H Q=>∃ (p:È) (f:⇑Zi) (L:⇑(Zi × È)) (t:UL),d=[↥p]/\H p=↑(.ext (vh p L t))/\DS X.K X.w H f L t/\bI (L.map λe=>ST.tD e.1)/\∀ l (i:⇑(Zi × È)),H l=none->i.Perm L->(i.map λe=>ST.tD e.1)=dh (L.map λe=>ST.tD e.1)->Q ↥l (upd H l (.lst (i.map λe=>V.ref e.2)))):=by
 intro j s m H d us Q I r h;let(p,f,L,t,rfl,n,k,v,q):=h;let(u,rfl,x):=vals1 r;cases x;obtain⟨⟨o,ep,y,z,hd⟩,_⟩:=I.aM p _ n;refine ST.AV (by exact I.ok.hd a) b k.g k.few (λe B=>key_is I (k.at_ e B)) v y z hd λl h' C c i F J P U Y=>?_
 refine#[↥l,_,I.laid  (o:=.lst _) U P #[?_,_,c,vk i,Y],rfl,q _ i (I.aM.fresh P) F J];rw[Æ,F.length_eq,gV];have:=k.few;omega
theorem zc{f:Ä}{a b:⇑V->Hp->VK->Prop}(c:bN X f a)(d:bN X f b):bN X f (λe H Q=>a e H Q∨b e H Q):=by
 intro g s i H e j Q I r h;rcases h with h | h
 .exact c g s i H e j Q I r h
 .exact d g s i H e j Q I r h
theorem AW:∀ {l:⇑D}{a:⇑Zi},FQ l=↑a->l=a.map ST.tD
 |[],_,h=>by cases h;rfl
 |x::r,a,h=>by
  cases x with
  |tup m =>
   let(k,b,h):=Ê.mp h;let(q,c,rfl):=Ë.mp h;rw[Ux,<-AW c];have:∀ {m:⇑D}{k:Zi},gq m=↑k->m=k.map D.int:=by
    intro m
    induction m with
    |nil=>intro k h;cases h;rfl
    |cons y q d =>
     intro k h;cases y with
     |int i =>
      let(e,f,rfl):=Ë.mp h;rw[Ux,<-d f]
     |_=>cases h
   rw[this b]
  |_=>cases h
theorem zd{K:Ã}{H:Hp}:∀ {a:Zi}{b:List V},aN K H (a.map D.int) b->b=a.map V.int
 |[],_,h=>h.bR
 |n::r,_,h=>by
  let(y,q,rfl,c,d):=aN.aU h;rw[c.bK,zd d];rfl
theorem xm{K:Ã}{H c:Hp}(d:ae H c):∀ {e:⇑Zi}{f:⇑V},aN K H (e.map ST.tD) f->GD K c (λk b=>dY K H b (k.map V.int)) f e
 |[],_,h=>by rw[h.bR];exact .nil
 |k::r,_,h=>by
  let(y,q,rfl,g,i):=aN.aU h;let(a,j,rfl,l,m):=g.fW;obtain rfl:=zd m;exact .cons #[a,rfl,d.j6 l,l] (xm d i)
theorem B8{K:Ã}{H:Hp}:∀ {L:⇑(Zi × È)},(∀ e∈L,dY K H e.2 (e.1.map V.int))->aN K H (L.map λe=>ST.tD e.1) (L.map λe=>V.ref e.2)
 |[],_=>.nil|e::r,h=>.cons (.tup (h e Í) (aN.ints _)) (B8 λx a=>h x (É _ a))
theorem oo{x:Zi}:∀ {l:⇑Zi},x∈yQ l↔x∈l
 |[]=>.rfl
 |y::r=>by
  unfold yQ;by_cases h:r.contains y=true
  .rw[Zv h,oo];simp_all
  .rw[Zw h,Ur,Ur,oo]
theorem lT:∀ l:⇑Zi,(yQ l).Nodup
 |[]=>.nil
 |y::r=>by
  unfold yQ;by_cases h:r.contains y=true
  .rw[Zv h];exact lT r
  .rw[Zw h];exact WI.mpr #[λa=>h (List.contains_iff_mem.mpr (oo.mp a)),lT r]
theorem JB(x:XI lm X G E N sc){p1 p2 b p4:Pos}(c:glob sc "sorted")(f:glob sc "set")(hL:bS as)(g:Good X G E as [e]):aw X G E (.bf .sset as) (.Call (.Name "sorted" p1) [.Call (.Name "set" p2) [e] [] b] [] p4):=by
 let(k1,k2,k3):=bu c;let(j1,j2,j3):=bu f;let(ha,hs):=g.args hL;rw[U7,Á] at hs;refine aG (PE.imp (iV (zc (xh x.calm x.room.units) (xk x.calm x.room.units)) (x.glb _ k1) (x.blt _ (-0)) vf (bA (lK (zc (DR x.calm) (vm x.calm x.room.units)) (x.glb _ j1) (x.blt _ (-0)) Gy ha j3 j2 (bF hs.1 [] X.env) (gI X.env b hs.2)) cM) k3 k2) λσ H Q q=>?_) rfl
 let(j,ρ,z,rr,rel,st,ee,o):=q;refine oi rel st ee (bV o) λl z1 e1 vs r x1 aO rvs=>?_;let(ds,hd,e2):=M.ai e1;let(s,u,e3):=M.ai e2;cases e3;have hds:=jT rvs hd
 match ds,u with
 |[d],u =>
  let(l,A,u):=Ê.mp u;let(ms,B,rfl):=Ë.mp u;let(v,rfl,hv):=hds.one;unfold BV at B;cases C:mQ l with
  |some ns =>
   rw[C] at B;cases B;let(rfl,h8):=sI C;obtain⟨a,F,rfl,hq,hd'⟩:∃ a F,v=↥a/\(gU X.K r a F∨dY X.K r a F)/\aN X.K (hz j r) (ns.map λ(n:Nat)=>D.int n) F:=by
    cases d with
    |tup m =>
     cases A;let(a,xs,rfl,I,J):=hv.fW;exact#[a,xs,rfl,.inr ((ak j r).j6 I),J]
    |lst m =>
     cases A;let(a,xs,rfl,I,J):=hv.jZ;exact#[a,xs,rfl,.inl (I.same (ak j r)).sq,J]
    |_=>cases A
   refine .inl #[a,ns,F,rfl,hq,B5 hd',h8,λp hp=>.inl #[p,_,rfl,SS.AK (B7 h8) _,ao,λl A=>?_]];have P:ae r (upd r p (.ext (Gx X.w p (SS.met (λi=>ns.getD i 0) ns.length)))):=ae.new _ hp;rw[Jx];exact bP o x1 aO _ _ (ae.trans P (ae.new _ A)) ((cQ (aO.same P) (B6 _) A).from (Ext.of P))
  |none =>
   rw[C] at B;cases d with
   |lst m =>
    cases A;let(U,hk,B):=Ê.mp (show wO _=↑ms from B);obtain⟨⟨c6,cb,co⟩,B⟩:=bC B;cases B;obtain rfl:=AW hk;let(a,F,rfl,I,J):=hv.jZ;refine .inr #[a,U,F,_,rfl,(I.same (ak j r)).sq,xm (ak j r) J,c6,cb,λp L t hp k hP=>?_];have P:ae r (upd r p (.ext (vh p L t))):=ae.new _ hp;have pm:(L.map (·.1)).Perm (yQ U):=(Vm k.nodup (lT U)).mpr λy=>by rw[k.mem,oo]
    have Y:(L.map λe=>ST.tD e.1).Perm ((yQ U).map ST.tD):=by
     have:=pm.map ST.tD;rw[æ] at this;exact this
    have ok:bI (L.map λe=>ST.tD e.1)=true:=by
     unfold bI at co ⊢;refine Ó.mpr λd hd=>?_;have:=Ó.mp co d (Y.mem_iff.mp hd);simp only[Á] at this ⊢;exact#[this.1,this.2.1,Ó.mpr λy hy=>Ó.mp this.2.2 y (Y.mem_iff.mp hy)]
    refine .inr #[p,U,L,t,rfl,ao,k.same P,ok,λl L3 A b e3=>?_];have inj:∀ y∈(yQ U).map ST.tD,∀ y'∈(yQ U).map ST.tD,fb y=fb y'->y=y':=λy hy y' hy' e=>by
     have c:=Ó.mp co y hy;simp only[Á] at c;have f:=Ó.mp c.2.2 y' hy';unfold bH at f;simp only[Á,Vd,ç] at f;rcases f.2.2 with h | h
     .exact wY _ _ h
     .rw[e] at h;simp at h
    have ek:dh ((yQ U).map ST.tD)=L3.map λe=>ST.tD e.1:=by
     rw[e3];exact yY ((dk _).trans Y) (kF _) inj
    rw[ek] at o;refine bP o x1 aO _ _ (ae.trans P (ae.new _ A)) ((cQ (aO.same P) (B8 λe he=>?_) A).from (Ext.of P));exact(d9 P).j6 (hP e (b.mem_iff.mp he))
   |_=>cases B
theorem DT:bN X (.builtin "len") (λa H Q=>∃ (p:È) (b:⇑Zi) (L:⇑(Zi × È)) (t:UL),a=[↥p]/\H p=↑(.ext (vh p L t))/\DS X.K X.w H b L t/\Q (~~~L.length) H):=by
 intro c s d H a e Q I r h;let(p,b,L,t,rfl,f,k,q):=h;let(u,rfl,i):=vals1 r;cases i;obtain⟨⟨o,j,l,m,hd⟩,_⟩:=I.aM p _ f;have:=k.few;refine call_len_set l m hd k.g.fits (by rw[ST.aH];omega) #[~~~L.length,H,I.tok _,?_,q]
 rw[ST.aH];exact#[_,rfl]
theorem MU(x:XI lm X G E N sc){b p2 c d:Pos}(f:glob sc "len")(h:glob sc "set")(i:bS as)(g:Good X G E as [e]):aw X G E (.oZ as) (.Call (.Name "len" b) [.Call (.Name "set" p2) [e] [] c] [] d):=by
 let(j,m,n):=bu f;let(o,r,u):=bu h;let(ha,hs):=g.args i;rw[U7,Á] at hs;refine aG (PE.imp (iV DT (x.glb _ j) (x.blt _ (-0)) Gv (bA (lK (vm x.calm x.room.units) (x.glb _ o) (x.blt _ (-0)) Gy ha u r (bF hs.1 [] X.env) (gI X.env c hs.2)) cM) n m) λσ H Q q=>?_) rfl
 let(A,ρ,z,rr,B,st,ee,C):=q;refine oi B st ee (bV C) λl z1 e1 vs F x1 aO I=>?_;let(ds,hd,e2):=M.ai e1;let(s,J,e3):=M.ai e2;cases e3;have K:=jT I hd
 match ds,J with
 |[.lst l],J =>
  let(ms,P,rfl):=Ë.mp (show(wO l).map _=some s from J);let(v,rfl,hv):=K.one;let(U,hk,P):=Ê.mp (show wO _=some ms from P);obtain⟨⟨c6,cb,co⟩,P⟩:=bC P;cases P;obtain rfl:=AW hk;let(a,us,rfl,m1,m2):=hv.jZ;refine#[a,U,us,_,rfl,(m1.same (ak A F)).sq,xm (ak A F) m2,c6,cb,λp L t hp k hP=>?_];have Y:ae F (upd F p (.ext (vh p L t))):=ae.new _ hp;have pm:(L.map (·.1)).Perm (yQ U):=(Vm k.nodup (lT U)).mpr λy=>by rw[k.mem,oo]
  have el:(dh ((yQ U).map ST.tD)).length=L.length:=by rw[(dk _).length_eq,Æ,<-pm.length_eq,Æ]
  rw[el] at C;refine#[p,U,L,t,rfl,ao,k.same Y,?_];exact bP C x1 aO _ _ Y (sr Hd.int)
def Te(K:Ã)(G:Gs)(E:XK)(x:Ex):TO:=λa H Q=>∃ b d z r,eS K b H d a/\aF b z H/\ev G.F x d z=↑r/\(match r with
 |.ok l e=>∃ o,yR l=↑o/\∀ f,Ext b H f->aF b e f->Q o f
 |.er c e=>EPost G b E c e H)
theorem KU(f:bS x)(g:Good X G E x e.toList):PO X e (Te X.K G E x):=by
 cases e with
 |none =>
  cases x with
  |nil =>
   refine λj s k H Q I q=>Bz j s k H Q I ?_;let(m,n,z,r,p,u,e,A):=q;cases e;let(o,B,A):=A;cases B;exact A H Ext.refl u
  |cons a r=>let(e,C,h,_):=g;cases h
  |_=>cases f
 |some e =>
  cases x with
  |nil=>cases (show [e]=[] from g)
  |cons a r =>
   let(B,C,h,ns,F,J,L):=g;cases h;refine λj s k H Q I q=>BC F.pe j s k H Q I ?_;let(m,n,z,rr,p,u,e,A):=q;have rn:r=.nil:=by
    cases r with
    |nil=>rfl|cons b q=>let(e,C,h,_):=L;cases h
    |_=>cases J
   subst rn;refine bU p u e (λc U e=>by simp_all) λl U e1=>?_;let(s,hs,e2):=M.ai e1;cases e2;let(o,B,A):=A;refine#[s,kG hs,λv Y x1 aO rv=>?_];cases s with
   |d y =>
    cases y with
    |int i =>
     cases B;exact#[i,Hd.bK (show Hd X.K (hz m Y) _ v from rv),A Y x1 aO]
    |_=>cases B
   |_=>cases B
  |_=>cases f
theorem So{a b d:Ex}{v:Ö}{l h:Zt}{p pos:Pos}(f:aw X G E a v)(g:bS b)(hh:bS d)(gl:Good X G E b l.toList)(gh:Good X G E d h.toList):aw X G E (.sl a b d) (.Subscript v (.Slice l h none p) pos):=by
 refine aG (PE.imp (EM R9 f.pe (KU g gl) (KU hh gh)) λσ H Q q=>?_) rfl;let(i,j,z,rr,k,st,e,n):=q;refine bU k st e (bV n) λm r e1=>?_;let(dx,p1,e2):=M.ai e1;let(s1,rfl,q1):=bJ p1;refine#[s1,rfl,λw H1 x y rv=>?_];rcases M.bind_some e2 with ⟨u,A,B,C⟩ | ⟨c,A,B,C⟩
 .let(o,ho,e5):=M.ai C;refine#[i,j,r,_,k.mono x,y,B,o,ho,λH2 F I=>?_];rcases M.bind_some e5 with ⟨u',J,K,L⟩ | ⟨c,J,K,L⟩
  .let(o',P,e8):=M.ai L;refine#[i,j,A,_,(k.mono x).mono F,I,K,o',P,λH3 U Y=>?_];let(s,hs,e9):=M.ai e8;cases e9;exact#[i,J,dx,s,Y,((rv.pl.mono (F.trans U)).d_ q1),hs,bP n ((x.trans F).trans U) Y]
  .exact#[i,j,A,_,(k.mono x).mono F,I,K,((bV n) c J L).mono (x.trans F)]
 .exact#[i,j,r,_,k.mono x,y,B,((bV n) c A C).mono x]
theorem PY{b p2 c pos:Pos}(f:aw X G E a v):aw X G E (.rev a) (.Subscript v (.Slice none none ↑(.UnaryOp .USub (.Constant (~~~1) k b) p2) c) pos):=by
 refine aG (PE.imp (LX f.pe (KA EE qY)) λg H Q q=>?_) rfl;let(h,i,z,j,n,o,e,r):=q;refine bU n o e (bV r) λm u x=>?_;let(s,b,y):=M.ai x;let(d,p2,c):=Ê.mp b;let(s1,rfl,A):=bJ p2;cases y;refine#[s1,rfl,λw B C F I=>#[1,rfl,rfl,?_]];have hd:=I.pl.d_ A;cases d with
 |tup l =>
  cases c;let(a,J,rfl,K,L):=hd.fW;exact .inl #[a,J,rfl,(ak h B).j6 K,tupQ F L.reverse (bP r C F)]
 |lst l =>
  cases c;let(a,J,rfl,K,L):=hd.jZ;exact .inr #[a,J,rfl,(K.same (ak h B)).sq,λp P=>bP r C F _ _ (ae.new _ P) (cQ F L.reverse P)]
 |_=>cases c
theorem MV:∀ {x:Ex}{b:Zm}{z d:Z}{l:⇑S},bS x->Good X G E x b->ev G.F x f z=↑(.ok l d)->l.length=b.length:=by
 intro x
 induction x with
 |nil =>
  intro b z d l _ h e;subst h;cases e;rfl
 |cons a r _ i =>
  intro b z d l _ h e;let(j,k,rfl,n,g,o,p):=h;rcases M.bind_some e with ⟨m,q,u,v⟩ | ⟨c,q,u,v⟩
  .let(s,hs,y):=M.ai v;rcases M.bind_some y with ⟨A,B,C,H⟩ | ⟨c,B,C,H⟩
   .cases H;rw[Þ,Þ,i o p C]
   .cases H
  .cases v
 |_=>intro b z d l h;cases h
theorem s_call(x:XI lm X G E N sc){p pos:Pos}(a:G.fns[f]?=↑(n,b))(d:b.length=l.length + 1)(hg:glob sc n)(h:bS as)(g:Good X G E as (e::l)) :
  aw X G E (.call f as) (.Call (.Name n p) (e::l) [] pos):=by
 let(k1,k2,k3):=bu hg;let(fa,fd,m1,m2,m3,F):=x.gok f n b a;let(ha,hs):=g.args h;rw[U7,Á] at hs;refine aG (PE.imp (Iv F x.room (x.glb n k1) m1 m2 m3 .nil x.pas ha k2 (bF hs.1 l X.env) (gI X.env pos hs.2)) λσ H Q q=>?_) rfl;let(i,j,z,rr,k,o,e,r):=q;rcases M.bind_some e with ⟨m,u,y,A⟩ | ⟨c,u,y,A⟩
 .refine#[i,j,z,_,k,o,y,λvs H1 B C I=>?_];show Im X.K G f b.length _ H1 Q E;rw[Wa];refine#[by rw[<-I.length,MV h g y,d];rfl,i,u,m.map n5,?_];have J :=u6.n5 (UJ.Aj I λ_ _ q=>q.pl);rcases M.bind_some A with ⟨s,L,P,U⟩ | ⟨c,L,P,U⟩
  .cases U;refine#[_,J,C,P,λv H2 x2 Y rv=>?_];let(s',e',r):=r;cases e';exact r v H2 (B.trans x2) Y (rv.from B)
  .exact#[_,J,C,P,((bV r) c L U).mono B]
 .exact#[i,j,z,_,k,o,y,(bV r) c u A]
def JC:iD->Nat
 |.nil=>0|.cons _ r=>JC r + 1|_=>0
mutual
noncomputable def gP(K:Ã):iD->TG
 |.v i=>gp i|.tup a=>Oj K (JC a) (gL K a)|.nil=>λ_ _ _ _=>False|.cons _ _=>λ_ _ _ _=>False
noncomputable def gL(K:Ã):iD->Kw
 |.nil=>Oi|.cons p r=>Kx (gP K p) (gL K r)|.v _=>λ_ _ _ _=>False|.tup _=>λ_ _ _ _=>False
end
end
end Q
namespace Q
open PySem L2 PySem.Spec PyProof.Rows
variable [TB:Tb]
theorem AX(h:noStar e)(a:Zm)(b:VV):VX (e::a) b=(false,assign e b)::VX a b:=by
 cases e <;> first | rfl | cases h
structure B9(X:Cx)(N:⇑Str)(loc:Str->Bool):Prop where
 hN:X.N=N
 nd:N.Nodup
 lc:∀ x,loc x=true->Loc X.env.scope x
 fn:∀ x,loc x=true->(X.fn x=true∨X.env.scope.names.lookup x=↑.local)
 calm:X.calm=true
theorem mS:∀ {a:Zm} (b:VV),a.all noStar->(VX a b).length=a.length/\(VX a b).findIdx? (·.1)=none
 |[],_,_=>#[rfl,rfl]
 |e::a,b,h=>by
  rw[U7,Á] at h;let(c,d):=mS b h.2;rw[AX h.1];refine#[by simp_all,?_]
  rw[List.findIdx?_cons,d];rfl
theorem ze:∀ {r:iD}{a:Zm},AR N loc r a->a.length=JC r/\a.all noStar
 |.nil,a,h=>by
  have:=YM.mp h;subst this;exact#[rfl,rfl]
 |.cons p r,a,h=>by
  cases a with
  |nil=>cases h
  |cons e a =>
   have h:(noStar e&&fi N loc p e&&AR N loc r a)=true:=h;rw[Á,Á] at h;let(b,c):=ze  h.2;exact#[by rw[Þ,b];rfl,by rw[U7,h.1.1,c];rfl]
 |.v _,_,h=>by cases h
 |.tup _,_,h=>by cases h
mutual
theorem sO(L:B9 X N loc):∀ {p:iD}{e:Ö},fi N loc p e=true->PG X e (gP X.K p)
 |.v i,e,h=>by
  cases e with
  |Name x pos =>
   have h:(N[i]? == ↑x&&loc x)=true:=h;rw[Á,Zy] at h;unfold gP;exact jn (by rw[L.hN];exact L.nd) (by rw[L.hN];exact h.1) (L.lc x h.2) (L.fn x h.2)
  |_=>cases h
 |.tup ps,e,h=>by
  cases e with
  |Tuple es k pos =>
   let(h1,h2):=ze h;let(h3,h4):=mS X.env h2;unfold gP;exact Ln L.calm (GF L h) (by rw[h3,h1]) h4
  |_=>cases h
 |.nil,e,h=>by cases h
 |.cons _ _,e,h=>by cases h
theorem GF(L:B9 X N loc):∀ {r:iD}{es:Zm},AR N loc r es=true->Og X es (gL X.K r)
 |.nil,es,h=>by
  have:es=[]:=YM.mp h;subst this;unfold gL;exact Iq
 |.cons p r,es,h=>by
  cases es with
  |nil=>cases h
  |cons e es =>
   have h:(noStar e&&fi N loc p e&&AR N loc r es)=true:=h;rw[Á,Á] at h;unfold gL;exact Ey (sO L h.1.2) (GF L h.2) (by rw[AX h.1.1];rfl)
 |.v _,_,h=>by cases h
 |.tup _,_,h=>by cases h
end
section
variable {K:Ã}{zA:Zl}{H:Hp}
theorem eS.set{a:Env}{b:L2.St}{i:Nat}{s:S}{v:V}(h:eS K zA H a b)(c:a.length=b.length)(r:wU K zA H s v):eS K zA H (a.set i (some s)) (b.set i (some v)):=by
 intro j t e;by_cases d:j=i
 .have f :=by
   have:=(Ý.mp e).1;simpa using this
  simp_all
 .rw[Ï (ñ d)] at e;let(w,g,k):=h j t e;exact#[w,by rw[Ï (ñ d)];exact g,k]
theorem pI:∀ {r:iD}{l:⇑D}{a b:Env},bindL r l a=↑b->l.length=JC r
 |.nil,l,a,b,e=>by
  cases l with
  |nil=>rfl|cons x l=>cases e
 |.cons p r,l,a,b,e=>by
  cases l with
  |nil=>cases e
  |cons x l =>
   let(c,d,f):=Ê.mp e;rw[Þ,pI f];rfl
 |.v _,_,_,_,e=>by cases e
 |.tup _,_,_,_,e=>by unfold bindL at e;cases e
mutual
theorem Ca:∀ {p:iD}{d:D}{b c:Env},cz p d b=↑c->∀ {f:L2.St}{v:V}{R:L2.St->Hp->Prop},eS K zA H b f->b.length=f.length->Hd K (hz zA H) d v ->
  (∀ g,eS K zA H c g->c.length=g.length->R g H)->gP K p v f H R
 |.v i,d,b,c,e,f,v,R,h,j,hd,k=>by
  unfold cz at e;cases e;unfold gP;exact k _ (h.set j (show wU K zA H (.d d) v from hd)) (by rw[ô,ô,j])
 |.tup m,d,b,c,e,f,v,R,h,j,hd,k=>by
  unfold cz at e;cases d with
  |tup l =>
   let(a,n,rfl,o,q):=hd.fW;unfold gP;exact#[a,n,rfl,(ak zA H).j6 o,by rw[q.length];exact pI e,zf e h j q k]
  |_=>cases e
 |.nil,_,_,_,e,_,_,_,_,_,_,_=>by unfold cz at e;cases e
 |.cons _ _,_,_,_,e,_,_,_,_,_,_,_=>by unfold cz at e;cases e
theorem zf:∀ {r:iD}{l:⇑D}{b c:Env},bindL r l b=↑c->∀ {f:L2.St}{s:⇑V}{R:L2.St->Hp->Prop},eS K zA H b f->b.length=f.length->aN K (hz zA H) l s ->
  (∀ g,eS K zA H c g->c.length=g.length->R g H)->gL K r s f H R
 |.nil,l,b,c,e,f,s,R,h,j,hd,k=>by
  unfold bindL at e;cases l with
  |nil =>
   cases e;unfold gL;exact#[hd.bR,k f h j]
  |cons x l=>cases e
 |.cons p r,l,b,c,e,f,s,R,h,j,hd,k=>by
  unfold bindL at e;cases l with
  |nil=>cases e
  |cons x l =>
   let(u,y,z):=Ê.mp e;let(v,A,rfl,o,q):=hd.aU;unfold gL;exact#[v,A,rfl,Ca y h j o λg B C=>zf z B C q k]
 |.v _,_,_,_,e,_,_,_,_,_,_,_=>by unfold bindL at e;cases e
 |.tup _,_,_,_,e,_,_,_,_,_,_,_=>by unfold bindL at e;cases e
end
end
end Q
namespace Q
open PySem L2 PySem.Spec PyProof.Rows
variable [TB:Tb]
structure MW(K:PySem.W.Frag)(zA:Option Addr)(J:L2.It)(xs:⇑D)(H1:Hp):Prop where
 go:∀ i H,Ext zA H1 H->i < xs.length->J.go i H
 yld:∀ i H x H' z d,Ext zA H1 H->aF zA z H->J.yld i H x H'->xs[i]?=↑d->ae H H'/\Hd K (hz zA H') d x
 stop:∀ H,Ext zA H1 H->J.stop xs.length H
structure JD(K:PySem.W.Frag)(J:L2.It)(xs:⇑D)(B:Hp):Prop where
 go:∀ i H,ae B H->i < xs.length->J.go i H
 yld:∀ i H x H' zA z d,ae B (hz zA H)->aF zA z H->J.yld i H x H'->xs[i]?=↑d->ae H H'/\∀ C,ae B C->(∀ a ys,dY K (hz zA H') a ys->dY K C a ys)->Hd K C d x
 stop:∀ H,ae B H->J.stop xs.length H
section
variable {K:Ã}{B:Hp}
theorem JD.ok(h:JD K J xs (hz zA H1)):MW K zA J xs H1 :=
 #[λi H x=>h.go i H (ae.trans x (ak zA H)),λi H x a z d e b y k=>let #[s,f]:=h.yld i H x a zA z d e b y k;#[s,f _ (ae.trans e (d9 s)) λ_ _ q=>q],λH x=>h.stop H (ae.trans x (ak zA H))]
theorem zg(h:cO K B a ys)(r:aN K B xs ys):JD K (Lu K a) xs B where
 go:=λi H x hi=>#[ys,ys[i]'(by rw[r.length];exact hi),(h.same x).sq,⋯]
 yld:=λi H v H' zA z d x st y e=>by
  let(rfl,y):=y;have y1:=y ys ((h.same x).same (ak zA _)).sq;let(w,e1,e2):=r.get e;rw[y1] at e1;cases e1;exact#[ae.refl _,λC c _=>e2.same c]
 stop:=λH x=>#[ys,(h.same x).sq,by rw[r.length];exact Î _]
theorem Cb(h:dY K B a ys)(r:aN K B xs ys):JD K (QT K a) xs B where
 go:=λi H x hi=>#[ys,ys[i]'(by rw[r.length];exact hi),ae.j6 x h,by simp]
 yld:=λi H v H' zA z d x st y e=>by
  let(rfl,y):=y;have y1:=y ys ((ak zA _).j6 (ae.j6 x h));let(w,e1,e2):=r.get e;rw[y1] at e1;cases e1;exact#[ae.refl _,λC c _=>e2.same c]
 stop:=λH x=>#[ys,ae.j6 x h,by rw[r.length];exact Î _]
theorem Cc(lo:Int)(n:Nat):JD K (NW lo n) ((ë n).map λ(k:Nat)=>D.int (lo + k)) B where
 go:=λi H x hi=>by show i < n;simpa using hi
 yld:=λi H v H' zA z d x st y e=>by
  let(rfl,rfl):=y;rw[Ú] at e;let(k,e1,rfl):=Ë.mp e;let(h1,h2):=Ý.mp e1;rw[List.getElem_range] at h2;subst h2;exact#[ae.refl _,λ_ _ _=>Hd.int]
 stop:=λH x=>by show n<=_;simp
end
section
variable {K:Ã}{zA:Zl}{H1:Hp}
theorem zip_get:∀ {a b:⇑D}{i:Nat}{d:D},(fV a b)[i]?=↑d->∃ x y,a[i]?=↑x/\b[i]?=↑y/\d=.tup [x,y]
 |[],_,_,_,e=>by simp[fV] at e|_::_,[],_,_,e=>by simp[fV] at e|x::r,y::q,0,d,e=>by simp[fV] at e;exact#[x,y,rfl,rfl,e.symm]
 |x::r,y::q,i + 1,d,e=>by
  let(u,v,c,f,g):=zip_get    (by simpa [fV] using e)
  exact#[u,v,c,f,g]
theorem qO:∀ (a b:⇑D),(fV a b).length=min a.length b.length
 |[],_=>rfl|_::_,[]=>rfl|x::r,y::q=>by simp only[fV,Þ,qO r q];omega
theorem Cd(h:∀ H,ae B H->yg bb K H a us)(r:aN K B xs us)(h':∀ H,ae B H->yg bb K H b ws)(r':aN K B ys ws):JD K (RD bb K a b) (fV xs ys) B where
 go:=λi H x hi=>by
  rw[qO] at hi;exact#[us,ws,us[i]'(by rw[r.length];exact Ò hi (Nat.min_le_left _ _)),ws[i]'(by rw[r'.length];exact Ò hi (_y _ _)),h H x,h' H x,by simp,by simp]
 yld:=λi H v H' zA z d x st y e=>by
  let(T,rfl,hT,y):=y;let(d1,d2,e1,e2,rfl):=zip_get e;let(w1,f1,g1):=r.get e1;let(w2,f2,g2):=r'.get e2;have y1:=y us ws w1 w2 (h H (ae.trans x (ak zA H))) (h' H (ae.trans x (ak zA H))) f1 f2;subst y1;have sm:ae H (upd H T (.tup [w1,w2])):=ae.new _ hT;exact#[sm,λC c t=>Hd.tup (t _ _ ((st.same sm).yX (dY.of ao))) (.cons (g1.same c) (.cons (g2.same c) .nil))]
 stop:=λH x=>#[us,ws,h H x,h' H x,by rw[qO,r.length,r'.length];omega]
end
def PX(P:D->Prop):D->Prop
 |.tup l=>∀ y∈l,P y|.lst l=>∀ y∈l,P y|_=>True
def PZ(K:Ã)(b:Zl)(H c:Hp)(l:⇑S)(J:L2.It)(e:⇑D):Prop :=
 ∀ (P:D->Prop) (B:Hp),ae B (hz b c)->(∀ a f,dY K (hz b c) a f->dY K B a f)->(∀ d v,P d->Hd K (hz b c) d v->Hd K B d v)->(∀ ds,iC l=↑ds->∀ d∈ds,PX P d) ->
  (∀ a f,cO K (hz b c) a f->((H a=none/\c a=↑(.lst f))∨pB l=true)->cO K B a f)->JD K J e B
theorem aN.move{K:Ã}{H B:Hp}{P:D->Prop}(a:∀ d v,P d->Hd K H d v->Hd K B d v):∀ {ds:⇑D}{b:⇑V},(∀ y∈ds,P y)->aN K H ds b->aN K B ds b
 |[],_,_,h=>by rw[h.bR];exact .nil
 |d::ds,_,p,h=>by
  let(x,r,rfl,c,e):=h.aU;exact .cons (a d x (p d Í) c) (aN.move a (λy f=>p y (É _ f)) e)
theorem PZ.ok{K:Ã}{zA:Zl}{H a:Hp}{l:⇑S}{J:L2.It}{b:⇑D}(h:PZ K zA H a l J b):MW K zA J b a:=by
 refine(h (λ_=>True) _ (ae.refl _) (λ_ _ q=>q) (λ_ _ _ q=>q) (λds _ d _=>?_) λ_ _ q _=>q).ok;cases d <;> first | trivial | exact λ_ _=>trivial
inductive GG (K:PySem.W.Frag) (G:Gs) (E:XK) (it:It) (src:Ex) (σ:L2.St) (H:Hp) (R:L2.It->Hp->Prop):Prop where
 |mk (zA ρ z r) (h0_:eS K zA H ρ σ) (h1_:aF zA z H) (h2_:ev G.F src ρ z=↑r) (h3_:(match (generalizing:=false) r with   | .ok l z'=>∃ xs,(iC l).bind (uy it)=↑xs/\∀ J H',Ext zA H H'->aF zA z' H'->PZ K zA H H' l J xs->R J H'   | .er c z'=>EPost G zA E c z' H)):GG K G E it src σ H R
section
variable {lm:Bool}{X:Cx}{G:Gs}{E:XK}{N:Zj}{sc:ò}
theorem MX{a:Zl}{H:Hp}{it:It}{P:L2.It->Hp->Prop}{r:R ⇑S}(b:(match r with | .ok l d=>∃ f,(iC l).bind (uy it)=↑f/\∀ J g,Ext a H g->aF a d g->PZ X.K a H g l J f->P J g | .er c d=>EPost G a E c d H)):∀ c h,r=.er c h->EPost G a E c h H:=λc h e=>by simp_all
theorem Ce{s:S}{ds:⇑D}(h:iC [s]=↑ds):∃ d,ds=[d]/\FK s=↑d:=by
 cases s with
 |d x=>cases h;exact#[x,rfl,rfl]
 |fr a=>cases h;exact#[_,rfl,rfl]
 |_=>cases h
theorem GH(g:aw X G E a e):PI X tg e (GG X.K G E .seq (.cons a .nil)):=by
 intro f s h H R I q;let(i,j,z,rr,k,n,ee,o):=q;rcases M.bind_some ee with ⟨m,z1,p,r⟩ | ⟨c,z1,p,r⟩
 .let(t,ht,e3):=M.ai r;cases e3;have hm:=kG ht;subst hm;let(u,hx,o):=o;let(ds,h1,h2):=Ê.mp hx;let(d,rfl,A):=Ce h1;cases d with
  |tup l =>
   cases h2;refine EC g.pe f s h H R I #[i,j,z,_,k,n,p,t,rfl,λv C x1 aO F=>?_];let(b,J,rfl,L,U):=(F.pl.d_ A).fW;exact#[b,rfl,#[J,(ak i C).j6 L],o _ C x1 aO λP B sub tup mv pa sf=>Cb (tup _ _ L) (aN.move mv (show ∀ y∈u,P y from pa _ h1 _ Í) U)]
  |lst l =>
   cases h2;refine nB g.pe f s h H R I #[i,j,z,_,k,n,p,t,rfl,λv C x1 aO F=>?_];have Y:∀ {b:È}{J:⇑V},cO X.K _ b J->aN X.K _ u J->((H b=none/\C b=↑_)∨pB [t]=true)->∃ a,V.ref b=↥a/\(∃ u,gU X.K C a u)/\R _ C:=λ{b J} L U k5=>by
    exact#[b,rfl,#[J,(L.same (ak i C)).sq],o _ C x1 aO λP B sub tup mv pa sf=>zg (sf _ _ L k5) (aN.move mv (show ∀ y∈u,P y from pa _ h1 _ Í) U)]
   cases t with
   |d x =>
    cases A;let(b,J,rfl,L,U):=Hd.jZ (show Hd X.K _ _ v from F);exact Y L U (.inr rfl)
   |fr x =>
    cases A;let(b,J,rfl,k0,L,U,k3):=F;exact Y (cO.of (aV U L)) (k3.same (cm b _)) (.inl #[k0,U])
   |_=>cases A
  |_=>cases h2
 .exact nB g.pe f s h H R I #[i,j,z,_,k,n,p,(MX o) c z1 r]
theorem qP{l:⇑S}{it:It}{a:⇑D}(h:(iC l).bind (uy it)=↑a):∃ ds,iC l=↑ds/\uy it ds=↑a:=Ê.mp h
theorem qQ(x:XI lm X G E N sc){b a:Ö}{as:Ex}{n:Str}{p pos:Pos}(d:n="range")(e:glob sc n)(f:bS as)(g:Good X G E as [a]):PI X b (.Call (.Name n p) [a] [] pos) (GG X.K G E .rng1 as):=by
 subst d;let(h,k2,k3):=bu e;let(i,hs):=g.args f;rw[U7,Á] at hs;intro k s m H R I q;apply uJ (x.glb _ h) (x.blt _ (-0)) i (bF hs.1 [] X.env) k s m H R I
 let(o,r,z,u,y,A,C,F):=q;refine#[o,r,z,u,y,A,C,?_];cases u with
 |er c J=>exact F
 |ok l J =>
  let(xs,hx,F):=F;intro vs H1 x1 aO L;let(ds,h1,U):=qP hx;have hd:=jT L h1
  match ds,U with
  |[~~~j],U =>
   let(Y,U):=bC U;have Y:=jQ.mp Y;cases U;let(v,rfl,h3):=hd.one;cases h3.bK;refine#[j,rfl,by omega,by omega,F _ H1 x1 aO λP B sub tup mv pa sf=>?_]
   simpa using (Cc   0 j.toNat)
theorem Cf(x:XI lm X G E N sc){d a b:Ö}{as:Ex}{n:Str}{p pos:Pos}(e:n="range")(f:glob sc n)(h:bS as)(g:Good X G E as [a,b]):PI X d (.Call (.Name n p) [a,b] [] pos) (GG X.K G E .rng2 as):=by
 subst e;let(k,k2,k3):=bu f;let(m,hs):=g.args h;rw[U7,U7,Á,Á] at hs;intro o s r H R I q;refine C7 (x.glb _ k) (x.blt _ (-0)) m (by rw[bF hs.1,bF hs.2.1];rfl) (bF hs.2.1 [] X.env) o s r H R I ?_
 let(u,y,z,A,C,F,ee,J):=q;refine#[u,y,z,A,C,F,ee,?_];cases A with
 |er c z1=>exact J
 |ok l z1 =>
  let(xs,hx,J):=J;intro vs H1 x1 aO L;let(ds,h1,U):=qP hx;have hd:=jT L h1
  match ds,U with
  |[.int i,.int j],U =>
   let(Y,U):=bC U;have hi:=jQ.mp Y.1;have Y:=jQ.mp Y.2;cases U;let(v,w,rfl,h3,h4):=hd.two;cases h3.bK;cases h4.bK;exact#[i,j,rfl,by omega,J _ H1 x1 aO λP B sub tup mv pa sf=>Cc i _]
theorem AY{s:S}{r:⇑S}{ds:⇑D}(h:iC (s::r)=↑ds):∃ x q,ds=x::q/\FK s=↑x/\iC r=↑q:=by
 cases s with
 |d y =>
  let(q,e,rfl):=Ë.mp h;exact#[y,q,rfl,rfl,e]
 |fr y =>
  let(q,e,rfl):=Ë.mp h;exact#[_,q,rfl,rfl,e]
 |_=>cases h
theorem JE(h:iC l=↑[x,y]):∃ s t,l=[s,t]/\FK s=↑x/\FK t=↑y:=by
 cases l with
 |nil=>cases h
 |cons s r =>
  let(_,_,e,a,b):=AY h;cases e;cases r with
  |nil=>cases b
  |cons t r =>
   let(_,_,e,c,d):=AY b;cases e;cases r with
   |nil=>exact#[s,t,rfl,a,c]
   |cons u r =>
    let(_,_,e,_):=AY d;cases e
theorem GJ{s t:S}(h:pB [s]):pB [s,t]:=by
 match s,h with
 |.d (.lst _),_=>rfl
theorem GK{s t:S}(h:pB [t]):pB [s,t]:=by
 match s with
 |.d (.lst _)=>rfl|.d .cD | .d (.bl _) | .d (~~~_) | .d (.str _) | .d (.tup _) | .d .dct | .fr _ | .z=>exact h
theorem Cg{K:Ã}{c:Zl}{H e:Hp}{t:S}{v:V}{a:⇑D}(f:my K c H e t v)(h:FK t=↑(.lst a)):∃ b g,v=↥b/\cO K (hz c e) b g/\aN K (hz c e) a g/\((H b=none/\e b=↑(.lst g))∨pB [t]):=by
 cases t with
 |d x =>
  cases h;let(b,g,rfl,i,j):=Hd.jZ (show Hd K _ _ _ from f);exact#[b,g,rfl,i,j,.inr rfl]
 |fr x =>
  cases h;let(b,g,rfl,k,i,j,l):=f;exact#[b,g,rfl,cO.of (aV j i),l.same (cm b _),.inl #[k,j]]
 |_=>cases h
theorem Cj(x:XI lm X G E N sc){tg a b:Ö}{as:Ex}{n:Str}{p pos:Pos}(ht:fB tg=true)(hn:n="zip")(hg:glob sc n=true)(hL:bS as=true)(g:Good X G E as [a,b]):PI X tg (.Call (.Name n p) [a,b] [] pos) (GG X.K G E .zip as):=by
 subst hn;let(k1,k2,k3):=bu hg;let(ha,hs):=g.args hL;rw[U7,U7,Á,Á] at hs;cases tg with
 |Tuple es ek ep =>
  intro aa s σ H R I q;apply LL (x.glb _ k1) (x.blt _ (-0)) ha (by rw[bF hs.1,bF hs.2.1];rfl) (bF hs.2.1 [] X.env) aa s σ H R I
  let(zA,ρ,z,rr,rel,st,ee,po):=q;refine#[zA,ρ,z,rr,rel,st,ee,?_];cases rr with
  |er c z1=>exact po
  |ok l z1 =>
   let(xs,hx,po):=po;intro vs H1 x1 aO rvs;let(ds,h1,h2):=qP hx;have hd:=jT rvs h1
   match ds,h2 with
   |[.tup a,.tup b],h2 =>
    cases h2;let(v,w,rfl,h3,h4):=hd.two;let(p1,us,rfl,m1,m2):=h3.fW;let(p2,ws,rfl,m3,m4):=h4.fW;exact#[false,p1,p2,rfl,#[us,(ak zA H1).j6 m1],#[ws,(ak zA H1).j6 m3],po _ H1 x1 aO λP B sub tup mv pa sf=>Cd (λ_ x=>ae.j6 x (tup _ _ m1)) (aN.move mv (show ∀ y∈a,P y from pa _ h1 _ Í) m2) (λ_ x=>ae.j6 x (tup _ _ m3)) (aN.move mv (show ∀ y∈b,P y from pa _ h1 _ (É _ Í)) m4)]
   |[.lst a,.lst b],h2 =>
    cases h2;let(t1,t2,rfl,e1,e2):=JE h1;cases rvs with
    |cons rv1 rn =>
     cases rn with
     |cons rv2 rn =>
      cases rn;let(p1,us,rfl,m1,m2,m3):=Cg rv1 e1;let(p2,ws,rfl,m4,m5,m6):=Cg rv2 e2;refine#[true,p1,p2,rfl,#[us,(m1.same (ak zA H1)).sq],#[ws,(m4.same (ak zA H1)).sq],po _ H1 x1 aO λP B sub tup mv pa sf=>Cd (λ_ x=>((sf _ _ m1 (m3.imp id λq=>?_)).same x).sq) (aN.move mv (show ∀ y∈a,P y from pa _ h1 _ Í) m2) (λ_ x=>((sf _ _ m4 (m6.imp id λq=>?_)).same x).sq) (aN.move mv (show ∀ y∈b,P y from pa _ h1 _ (É _ Í)) m5)]
      .exact GJ q
      .exact GK q
 |_=>cases ht
theorem sP:∀ {a:List D}{i n:Nat}{d:D},(fh a n)[i]?=some d->∃ x,a[i]?=some x/\d=.tup [.int ((n + i:Nat):Int),x]
 |[],_,_,_,e=>by simp[fh] at e|x::r,0,n,d,e=>by simp[fh] at e;exact#[x,rfl,e.symm]
 |x::r,i + 1,n,d,e=>by
  let(u,b,c):=sP    (by simpa [fh] using e)
  exact#[u,b,by grind]
theorem kH:∀ (a:⇑D) (n:Nat),(fh a n).length=a.length
 |[],_=>rfl|x::r,n=>by simp[fh,Þ,kH r]
theorem zh(h:∀ H,ae B H->yg b X.K H a us)(r:aN X.K B xs us):JD X.K (QX b X.K a) (fh xs 0) B where
 go:=λi H x hi=>by
  rw[kH] at hi;exact#[us,us[i]'(by rw[r.length];exact hi),h H x,⋯]
 yld:=λi H v H' zA z d x st y e=>by
  let(T,rfl,hT,y):=y;let(d1,e1,rfl):=sP e;let(w1,f1,g1):=r.get e1;have y1:=y us w1 (h H (ae.trans x (ak zA H))) f1;subst y1;have sm:ae H (upd H T (.tup [~~~i,w1])):=ae.new _ hT;exact#[sm,λC c t=>Hd.tup (t _ _ ((st.same sm).yX (dY.of ao))) (.cons (by rw[X3];exact Hd.int) (.cons (g1.same c) .nil))]
 stop:=λH x=>#[us,h H x,by rw[kH,r.length]]
theorem JF(h:iC l=↑[d]):∃ s,l=[s]:=by
 cases l with
 |nil=>cases h
 |cons s r =>
  cases r with
  |nil=>exact#[s,rfl]|cons t q=>exfalso;cases s <;> cases t <;> first | (subst h) | (simp only[iC,Option.map_map,XX] at h;simp_all)
theorem sQ(x:XI lm X G E N sc){tg a:Ö}{as:Ex}{n:Str}{p pos:Pos}(ht:fB tg=true)(hn:n="enumerate")(hg:glob sc n=true)(hL:bS as=true)(g:Good X G E as [a]):PI X tg (.Call (.Name n p) [a] [] pos) (GG X.K G E .enum as):=by
 subst hn;let(k1,k2,k3):=bu hg;let(ha,hs):=g.args hL;rw[U7,Á] at hs;cases tg with
 |Tuple es ek ep =>
  intro aa s σ H R I q;apply IM (x.glb _ k1) (x.blt _ (-0)) ha (bF hs.1 [] X.env) aa s σ H R I
  let(zA,ρ,z,rr,rel,st,ee,po):=q;refine#[zA,ρ,z,rr,rel,st,ee,?_];cases rr with
  |er c z1=>exact po
  |ok l z1 =>
   let(xs,hx,po):=po;intro vs H1 x1 aO rvs;let(ds,h1,h2):=qP hx;have hd:=jT rvs h1
   match ds,h2 with
   |[.tup a],h2 =>
    cases h2;let(v,rfl,h3):=hd.one;let(p1,us,rfl,m1,m2):=h3.fW;exact#[false,p1,rfl,#[us,(ak zA H1).j6 m1],po _ H1 x1 aO λP B sub tup mv pa sf=>zh (λ_ x=>ae.j6 x (tup _ _ m1)) (aN.move mv (show ∀ y∈a,P y from pa _ h1 _ Í) m2)]
   |[.lst a],h2 =>
    cases h2;have fin:∀ (b:È) (ys:⇑V),cO X.K _ b ys->aN X.K _ a ys->((H b=none/\H1 b=↑_)∨pB l=true)->∃ bb p,[V.ref b]=[↥p]/\(∃ xs,yg bb X.K H1 p xs)/\R (QX bb X.K p) H1:=λb ys k1 k2 k5 =>
     #[true,b,rfl,#[ys,(k1.same (ak zA H1)).sq],po _ H1 x1 aO λP B sub tup mv pa sf=>zh (λ_ x=>((sf _ _ k1 k5).same x).sq) (aN.move mv (show ∀ y∈a,P y from pa _ h1 _ Í) k2)]
    let(t,rfl):=JF h1;cases rvs with
    |cons rv rn =>
     cases rn;cases t with
     |d x =>
      cases h1;let(b,ys,rfl,k1,k2):=Hd.jZ (show Hd X.K _ _ _ from rv);exact fin _ _ k1 k2 (.inr rfl)
     |fr x =>
      cases h1;let(b,ys,rfl,k0,k1,k2,k3):=rv;exact fin _ _ (cO.of (aV k2 k1)) (k3.same (cm b _)) (.inl #[k0,k2])
     |_=>cases h1
 |_=>cases ht
abbrev EF:XK:=λ_ _ _=>False
def Sq(K:Ã)(G:Gs):Ex->TT
 |.nil=>nJ|.cons c _=>tT K G EF c|_=>λ_ _ _=>False
theorem AZ(h:turns f (x::r) z=some (.ok a b)):∃ o d l,f x z=some (.ok o d)/\turns f r d=some (.ok l b)/\a=(match o with | some y=>y::l | none=>l):=by
 rcases M.bind_some (show Zd _ _ z=_ from h) with ⟨o,d,e,g⟩ | ⟨c,d,e,g⟩
 .rcases M.bind_some g with ⟨l,i,j,k⟩ | ⟨c,i,j,k⟩
  .cases k;exact#[o,d,l,e,j,rfl]
  .cases k
 .cases g
theorem JG{a:Zl}{J:L2.It}{f g:⇑D}{j:Hp}{z1 z2:Z}{p:iD}{k el:Ex}{n:Env}{r:L2.St}{Q:VK}(IT:MW X.K a J f j)(hm:f.length<=most)(rel0:eS X.K a j n r)(len:n.length=r.length)(aO:aF a z1 j)
  (hc:k=.nil∨∃ c,k=.cons c .nil) (e:turns (jR (ev G.F k) (ev G.F el) p n) f z1=↑(.ok g z2))
  (fin:∀ H2 u l,Ext a j H2->aF a z2 H2->aN X.K (hz a H2) g u->H2 l=none->Q ↥l (upd H2 l (.lst u))):rl J r j (gP X.K p) (Sq X.K G k) (tI X.K G EF el) Q:=by
 refine#[λi m u H=>m=f.length - i/\i<=f.length/\u.length<=i/\∃ A z B,Ext a j H/\aF a z H/\aN X.K (hz a H) A u/\turns _ (f.drop i) z=↑(.ok B z2)/\g=A++B,
  #[f.length,rfl,Vl _,Vl _,[],z1,g,Ext.refl,aO,.nil,e,rfl],?_]
 rintro i m u H ⟨rfl,hi,hv,A,z,B,x,st,hd,et,ey⟩;by_cases C:i < f.length
 .refine .inr #[IT.go i H x C,V7 hv (Ò C (dG hm)),
   λws I=>ws.length<=i + 1/\∃ A z B,Ext a j I/\aF a z I/\aN X.K _ A ws/\turns _ _ z=↑_/\g=A++B,
   λws I q=>#[_,_r C (Vs _),rfl,C,q.1,q.2],λv I y=>?_]
  let(sm,hx):=IT.yld i H v I z f[i] x st y ⋯
  rw[UO C] at et;let(o,z3,l,f1,f2,f3):=AZ et;let(ρ',b1,f4):=M.ai (show Zd _ _ z=_ from f1);have x' :=x.trans (Ext.of sm);have st':=st.same sm;refine Ca b1 (rel0.mono x') len hx λσ' L len'=>?_;have yes:∀ {za:Z}{Ha:Hp},Ext a I Ha->aF a za Ha->Zd _ (λy=>Zd (Zf (pl y)) λy=>Ze ↑y) za=↑(.ok o z3)->tI X.K G EF el σ' Ha (λy H4=>(u++[y]).length<=i + 1/\∃ A z B,Ext a j H4/\aF a z H4/\aN X.K (hz a H4) A (u++[y])/\turns _ _ z=↑(.ok B z2)/\g=A++B):=λ{za Ha} P U ea=>by
   refine bU (L.mono P) U ea (λc z1 h=>by cases h) λm z4 e4=>?_
   let(d,p1,e5):=M.ai e4;let(s1,rfl,q1):=bJ p1;cases e5;refine#[s1,rfl,λw H4 x4 st4 rv=>#[by simp;exact hv,A++[d],z3,l,(x'.trans P).trans x4,st4,?_,f2,by rw[ey,f3,Vt];rfl]]
   exact(hd.same (ae.trans (d9 sm) (ae.trans P.same x4.same))).append (.cons (rv.pl.d_ q1) .nil)
  rcases hc with rfl | ⟨c,rfl⟩
  .have ty:Sq X.K G .nil=nJ:=rfl;rw[ty];exact yes Ext.refl st' f4
  .rcases M.bind_some (show Zd _ _ z=_ from f4) with ⟨m,za,e1,Y⟩ | ⟨q,za,e1,Y⟩
   .rcases M.bind_some (show Zd _ _ z=_ from e1) with ⟨m',zb,e3,e4⟩ | ⟨q,zb,e3,e4⟩
    .let(s,hs,e5):=M.ai e4;cases e5;have hm':=kG hs;subst hm';show tT X.K G EF c σ' I _;have tb:∃ b,s=.d (.bl b):=by
      cases s with
      |d y=>cases y with
       |bl b=>exact#[b,rfl]|_=>cases Y
      |_=>cases Y
     let(b,rfl):=tb;refine#[a,ρ',z,_,L,st',e3,b,rfl,λHa P U=>?_];cases b with
     |true =>
      rw[Zv rfl];exact yes P U Y
     |false =>
      rw[Zw ê];cases Y;exact#[â hv (le_succ _),A,z3,l,x'.trans P,U,hd.same (ae.trans (d9 sm) P),f2,by rw[ey,f3]]
    .cases e4
   .cases Y
 .have hi':i=f.length:=_i hi (_g C)
  subst hi';rw[YD] at et;cases et;refine .inl #[IT.stop H x,λl hl=>fin H u l x st (by rw[ey,Wa];exact hd) hl]
end
section
variable {K:Ã}{zA:Zl}{z:Z}{H H2:Hp}{P:È}{q:Str}
theorem sS(a:g7 P H H2)(t:Tab H P q)(c:Tab H2 P q):Ext zA H H2:=by
 refine#[λb o h=>?_,λb d h=>?_]
 .let(f,g):=bZ h;have i:=ck h;let(d,j,_):=t;exact aV (a.same b o (λz=>by grind) f) g i
 .by_cases k:b=P
  .subst k;let(l,e,_):=c;exact#[l,e]
  .exact#[d,a.same b _ k h]
theorem xn(d:g7 P H H2)(t:Tab H P q)(f:Tab H2 P q)(g:∀ p∈TB.tb,p.1=P->p.2=q)(i:aF zA z H):aF zA z H2:=by
 let(j,m,_):=t;have ne:∀ {b:È}{o:HO},H b=↑o->(∀ l,o≠.cK l)->b≠P:=λ{b o} n r z=>by grind
 refine#[?_,λp s=>?_]
 .have h:=i.zat;cases zA with
  |none=>cases z with
   |none=>trivial|some _=>exact h.elim
  |some a=>cases z with
   |none=>exact h.elim
   |some pr =>
    have u :=h;exact d.same _ _ (ne u λ_ z=>nomatch z) u
 .by_cases v:p.1=P
  .rw[g p s v,v];exact f
  .let(x,e,y,k):=i.tab p s;refine#[x,d.same _ _ v e,y,λpos c A=>?_];let(B,n,r):=k pos c A;exact#[B,n,d.same _ _ (ne r λ_ z=>nomatch z) r]
theorem xo:∀ l:Zh,(ay N l).length<=l.length
 |[]=>Î _
 |j::q=>by
  have a:=xo (N:=N) q;unfold ay;split
  .simp_all
  grind
theorem i9(rel:eS K zA H ρ σ):∀ {aj:Zh}{ss:⇑S},qv ρ aj=↑ss->(ay N aj).length=aj.length ->
  ∃ vs,u6 K zA H ss vs/\vs.length=(ay N aj).length/\∀ (i:Nat) (x:Str) (v:V),((ay N aj).map (·.1))[i]?=↑x->vs[i]?=↑v->∃ j:Nat,N[j]?=↑x/\σ[j]?=↑↑v
 |[],ss,h,_=>by
  cases h;exact#[[],.nil,rfl,λi x v h=>by simp[ay] at h]
 |i::aj,ss,h,hl=>by
  have h:(match ρ[i]? with | ↑↑s=>(qv ρ aj).map _ | _=>none)=↑ss:=h
  have le:=xo (N:=N) aj;obtain⟨s,r,e2,h3,rfl⟩:∃ s r,ρ[i]?=↑_/\qv ρ aj=↑r/\ss=s::r:=by
   split at h
   .rename_i s e;let(r,h3,h4):=Ë.mp h;exact#[s,r,e,h3,h4.symm]
   .cases h
  let(v,k1,k2):=rel i s e2;cases hN:N[i]? with
  |none =>
   unfold ay at hl;rw[hN] at hl;simp[Þ] at hl;omega
  |some y =>
   unfold ay at hl ⊢;rw[hN] at hl ⊢;let(vs,a1,a2,a3):=i9 rel   h3 (_M hl)
   refine#[_,.cons k2 a1,by simp[a2],λj x u b1 b2=>?_]
   cases j with
   |zero =>
    simp only[Ux,WW,V1] at b1 b2;subst b1;subst b2;exact#[i,hN,k1]
   |succ j=>exact a3 j x u (b1) (b2)
theorem kI:∀ {ss:⇑S}{vs:⇑V},u6 K zA H ss vs->eS K zA H (ss.map some) (vs.map some)
 |[],_,h,i,s,e=>by simp at e
 |a::ss,_,h,i,s,e=>by
  cases h with
  |cons h1 h2 =>
   cases i with
   |zero =>
    simp only[Ux,WW,V1] at e;subst e;exact#[_,rfl,h1]
   |succ i =>
    let(v,k1,k2):=kI h2 i s (e);exact#[v,k1,k2]
end
section
variable {lm:Bool}{X:Cx}{G:Gs}{E:XK}{N:Zj}{sc:ò}
set_option tactic.hygienic true in
theorem MY(x:XI lm X G E N sc)(hlm:lm){b:Zh}{a:Ex}{d:Ö}{g:ò}{p j pos:Pos}(hg:glob sc "_law_refused")(hc:(ay N b).length=b.length)(hs:i8 g sc (ay N b))(hL:bS a=false)
  (ih:∀ (k:Nat) {X:Cx}{E:XK},XI false X (lowG G k) E ((ay N b).map (·.1)) g->Good X (lowG G k) E a [d]):aw X G E (.refd b a) (.Call (.Name "_law_refused" p) [.Lambda #[[],[],none,[],[],none,[]] d g j] [] pos):=by
 let(c,P,q,k,fR,fdR,L):=x.lam hlm;let(k1,k2,k3):=bu hg;refine BB.b7 hs λs1 s2 s3 s4 s5 s6 s7=>?_;simp only[ç,Zy,Uq,Zx] at s1 s2 s3 s4 s5 s6 s7;refine aG (λaa s σ H Q I qq=>?_) rfl;let(n,ρ,z,rr,rel,st,e,po):=qq;have o:AM _ _ z=↑rr:=e;unfold AM at o;split at o
 .cases o
 .rename_i ss hss;split at o
  .rename_i cc z1 he;split at o
   .rename_i r;cases o;let(vs,ra,hvl,hvs):=i9 rel hss hc;have u:=st.tab _ L.tb;have B:∀ y∈(ay N b).map (·.1),g.names.lookup y=↑_:=λy C=>by
     let(pr,h1,rfl):=Ð.mp C;exact s6 pr h1
    refine pY (RR:=λH2 F=>Ext n H2 F/\aF n z1 F) (cls:=↥(G.cls cc))  (k:=k)   L.fn (L.rm x.room) (x.glb _ k1) L.m L.kp L.bd L.code L.hd L.qual L.bm (λy C hf=>?_) (λy C=>by simpa using s4 y C) B s1 s2 s3 rfl (λ_ _ _ _=>rfl) k2 rfl aa s σ H Q I ?_
    .have:=s5 y C;rw[hf] at this;unfold Env.kindOf;rw[L.sco];simpa using this
    .refine#[u,vs,by simp_all,λi y v h1 h2=>by rw[x.hN];exact hvs i y v h1 h2,λH2 KB TB2=>?_]
     have x2:Ext n H H2:=sS KB u TB2;have st2 :=xn KB u TB2 L.uq st;refine#[λf c' cl A J s3 H3 hr U=>?_,λs2 f th=>?_]
     .have XL:XI false (iY X.prog X.w X.K X.mg X.base _ q g f _ cl A J s3 H3 λc _ F=>c=↥(G.cls cc)/\Ext n H2 F/\aF n z1 F) (lowG G k) _ _ g :=
       { gok:=L.low,num:=x.num,blt:=x.blt,hN:=rfl,nd:=s7,vis:=λy C=>.inr (.inr (B y C)),glb:=λy h=>h,cel:=λy h=>h,calm:=rfl,room:=hr,pas:=qH,lam:=λh=>nomatch h }
      refine#[_,(aB hL (ih k XL)).pe,?_];refine#[n,_,z,_,kI (u6.mono ra (x2.trans (Ext.of U))),st2.same U,he,λea F xx Y hn=>?_];exact#[rfl,(Ext.of U).trans xx,Y]
     .refine#[f,_,cc,_,rfl,th,L.cls cc r,λl H1 F hRR U hl=>?_];let(x1,aO):=hRR;let(s',e',po):=po;cases e';have xx :=(x2.trans x1).trans (Ext.of U);have Y:=aO.same U;exact po _ _ (xx.trans (Ext.of (ae.new _ hl))) (Y.same (ae.new _ hl)) ((cQ Y (aN.cons Hd.int aN.nil) hl).from xx)
   .cases o
  .cases o
end
theorem fD{env:VV}{a:Wn}(b:a≠.free):∀ {c:⇑(Str × Wn)}{x:Str},c.lookup x=↑a ->
  (c.map λ(n,k)=>if (k == ü&&env.scope.kind == .function&&env.kindOf n == ↑.cell) then(n,U5) else(n,k)).lookup x=↑a
 |[],_,h=>by simp at h
 |(n,k)::r,x,h=>by
  have d:=@fD env a b r x;show V3 x ((if (k == ü&&env.scope.kind == .function&&env.kindOf n == ↑_)=true then(n,U5) else(n,k))::_)=_;cases e:x == n with
  |true =>
   simp_all
  |false =>
   simp[UE,e] at h;by_cases f:(k == ü&&env.scope.kind == .function&&env.kindOf n == ↑.cell)=true
   .rw[Zv f];simp only[UE,e];exact d h
   .rw[Zw f];simp only[UE,e];exact d h
section
variable {lm:Bool}{X:Cx}{G:Gs}{E:XK}{N:Zj}{sc bD:ò}{on:Zj}{cs:⇑(Str × Nat)}
structure pJ(bD sc:Scope)(N on:⇑Str)(cs:⇑(Str × Nat)):Prop where
 kind:bD.kind=.function
 nocell:∀ y∈bD.names,y.2≠.cell
 locs:∀ y∈bD.names,y.2=.local->bD.names.lookup y.1=↑.local
 frees:∀ y∈bD.names,y.2=.free->(sc.names.lookup y.1=↑.cell∨sc.names.lookup y.1=↑.free)
 captd:∀ p∈cs,N[p.2]?=↑p.1/\bD.names.lookup p.1=↑.free
 own:∀ x∈on,bD.names.lookup x=↑.local
 nd:(on++cs.map (·.1)).Nodup
theorem vn(h:jB bD sc N on cs):pJ bD sc N on cs:=by
 refine BB.b7 h λa b c d e f g=>?_;rw[Uq] at b c d e f;refine#[by simpa using a,λy i=>by simpa using b y i,λy i j=>?_,λy i k=>?_,λp l=>by simpa using e p l,λx m=>by simpa using f x m,ZC g]
 .have:=c y i;simp_all
 .have:=d y i
  simp_all
theorem lU(x:XI lm X G E N sc)(c:pJ bD sc N on cs):fq X bD on cs:=#[c.kind,c.nocell,c.locs,λy a b=>x.cel _ (c.frees y a b),λp d=>by rw[x.hN];exact c.captd p d]
theorem hU(x:XI lm X G E N sc)(c:pJ bD sc N on cs)(cl:List (Str × È))(C:È)(s:Ç)(H:Hp)(fp:Zo):XI false (aX X (aT on cs) bD cl C s H fp) G EF (on++cs.map (·.1)) bD where
 gok:=x.gok
 num:=x.num
 blt:=x.blt
 hN:=rfl
 nd:=c.nd
 vis:=λy hy=>by
  rcases ù.mp hy with h | h
  .exact .inl (fD (-0) (c.own y h))
  .let(p,hp,rfl):=Ð.mp h;rcases gC (env:=X.env) (c.captd p hp).2 with h | h
   .exact .inr (.inl h)
   .exact .inr (.inr h)
 glb:=λy hy=>fD (-0) hy
 cel:=λy hy=>by
  rcases hy with h | h
  .exact .inl (fD (-0) h)
  .exact gC (env:=X.env) h
 calm:=x.calm
 room:=x.room
 pas:=L6
 lam:=λh=>nomatch h
theorem dv(x:XI lm X G E N sc)(c:pJ bD sc N on cs)(cl:⇑(Str × È))(C:È)(s:Ç)(H:Hp)(fp:Zo):B9 (aX X (aT on cs) bD cl C s H fp) (on++cs.map (·.1)) (λy=>on.contains y) where
 hN:=rfl
 nd:=c.nd
 lc:=λy hy=>.inl (fD (-0) (c.own y (by simpa using hy)))
 fn:=λy hy=>.inr (fD (-0) (c.own y (by simpa using hy)))
 calm:=x.calm
theorem sT:∀ {a:Zh},(ay N a).length=a.length->(ay N a).map (·.2)=a
 |[],_=>rfl
 |i::r,h=>by
  have le:∀ l ,(ay N l).length<=l.length:=by
   intro l
   induction l with
   |nil=>exact Î _
   |cons j q b =>
    unfold ay;split
    .grind
    grind
  unfold ay at h ⊢;split at h
  .rw[Ux,sT (_M h)]
  grind
theorem GL(a:eS X.K b H c σ)(h:cs.map (·.2)=d):eS X.K b H (ì on.length none++d.map λi=>(c[i]?).getD none) (ff on cs σ) /\
  (ì on.length (none:Option S)++d.map λi=>(c[i]?).getD none).length=(ff on cs σ).length:=by
 subst h;constructor
 .intro j s e
  delta ff
  by_cases f:j < on.length
  .rw[VI (by simp_all)] at e
   simp_all
  .rw[Uz (by simp_all),Vp,Ú,Ú] at e
   rw[Uz (by simp_all),Æ,Ú]
   cases g:cs[j - on.length]? with
   |none=>rw[g] at e;simp at e
   |some p =>
    rw[g] at e;simp[map_some,V1] at e;let(v,m,n):=a p.2 s (by
     cases l:c[p.2]? with
     |none=>rw[l] at e;cases e
     |some o=>simp_all);exact#[v,by simp[m],n]
 .delta ff
  simp
theorem Ck(h:gu e=true)(env:VV)(x:Ä):VU e env x=pure x:=by
 cases e with
 |Set _ _ _=>cases h
 |_=>rfl
def mT(X:Cx)(G:Gs)(E:XK)(x:Ex)(elt tg iter:Ö)(ifs:Zm)(bD:ò):Prop:=∃ (own:Zj) (a:⇑(Str × Nat)) (b:TI) (g:TG) (c:TT) (d:TE),fq X bD own a/\PI X tg iter b /\
 (∀ e C s H f,PG (aX X (aT own a) bD e C s H f) tg g)/\(∀ e C s H f,KD (aX X (aT own a) bD e C s H f) ifs c)/\(∀ e C s H f,PE (aX X (aT own a) bD e C s H f) elt d) /\
 (∀ x,VU iter X.env x=pure x)/\∀ h H Q,tI X.K G E x h H Q->BG own a b g c d h H Q
theorem P0(x:XI lm X G E N sc){p:iD}{it:It}{a b d:Ex}{g:Zh}{i j n:Ö}{o:Zm}(c:pJ bD sc N on cs)(r:cs.map (·.2)=g)(hp:fi (on++cs.map (·.1)) (λy=>on.contains y) p j)
  (hi:PI X j n (GG X.K G E it a)) (u:gu n) (hc:(b=.nil/\o=[])∨∃ q f,b=.cons q .nil/\o=[f]/\∀ v C s H A,PT (aX X (aT on cs) bD v C s H A) f (tT X.K G EF q))
  (he:∀ v C s H A,PE (aX X (aT on cs) bD v C s H A) i (tI X.K G EF d)):mT X G E (.comp on.length g p it a b d) i j n o bD:=by
 refine#[on,cs,_,gP X.K p,_,_,lU x c,hi,λv C s H A=>sO (dv x c v C s H A) hp,(by
  rcases hc with ⟨rfl,rfl⟩ | ⟨q,f,rfl,rfl,h⟩
  .exact λv C s H A=>nK
  .exact λv C s H A=>BF (h v C s H A):∀ v C s H A,KD _ o (Sq X.K G b)),he,Ck u X.env,λσ H Q q=>?_];let(zA,ρ,z,rr,B,st,e,po):=q;rcases M.bind_some e with ⟨m,z1,F,I⟩ | ⟨k,z1,F,I⟩
 .let(xs,hx,L):=M.ai I;refine#[zA,ρ,z,_,B,st,F,xs,hx,λJ H1 x1 aO P=>?_];split at L
  .rename_i hm;rcases M.bind_some L with ⟨ys,z2,U,e5⟩ | ⟨k,z2,U,e5⟩
   .cases e5;let(r1,r2):=GL  (B.mono x1) r;refine JG (P.ok) hm r1 r2 aO (by rcases hc with ⟨h,_⟩ | ⟨q,_,h,_⟩;exact .inl h;exact .inr #[q,h]) (by
     delta M.calm at U
     split at U
     .rename_i h;cases U;exact h
     .cases U) λH2 vs l x2 Y hd hl=>?_
    exact bP po (x1.trans x2) Y _ _ (ae.new _ hl) (cQ Y hd hl)
   .delta M.calm at U
    split at U <;> cases U
  .cases L
 .exact#[zA,ρ,z,_,B,st,F,(bV po) k z1 I]
theorem mT.good{pos:Pos}(a:X.calm)(h:mT X G E x elt tg iter ifs bD):aw X G E x (.ListComp elt [#[tg,iter,ifs,0]] bD pos):=by
 let(own,b,c,g,d,e,f,i,j,k,l,m,n):=h;exact aG (PE.imp (qF a f i j k l m) n) rfl
theorem aK(h:(!bS x)):bS x=false:=by simpa using h
theorem Cn(c:bS x)(g:Good X G E x [e]):∃ a,x=.cons a .nil/\aw X G E a e:=by
 cases x with
 |nil=>cases (show [e]=[] from g)
 |cons a r =>
  let(d,f,h,i,j,k,l):=g;cases h;cases r with
  |nil=>exact#[a,rfl,j]|cons b q=>let(e,f,h,_):=l;cases h
  |_=>cases k
 |_=>cases c
theorem vo{lm:Bool}{G:Gs}{own:Nat}{d:Zh}{p:iD}{it:It}{e g i:Ex}(j:(∀ {X:Cx}{E:XK}{N:Zj}{sc:ò},XI lm X G E N sc->∀ {k:Zm},mt lm G.fns G.nums e sc N k->Good X G E e k))(l:(∀ {X:Cx}{E:XK}{N:Zj}{sc:ò},XI false X G E N sc->∀ {k:Zm},mt false G.fns G.nums g sc N k->Good X G E g k))(m:(∀ {X:Cx}{E:XK}{N:Zj}{sc:ò},XI false X G E N sc->∀ {k:Zm},mt false G.fns G.nums i sc N k->Good X G E i k))
  {X:Cx}{E:XK}{N:Zj}{sc:ò} (x:XI lm X G E N sc) {o u v:Ö}{y:Zm}{bD:ò} (h:(cH u).length == own&&(ay N d).length == d.length&&jB bD sc N (cH u) (ay N d)&&fi (cH u++(ay N d).map (·.1)) (λx=>(cH u).contains x) p u&&bS e&&!bS i&&bS g&&y.length<=1&&noStar o&&gu v&&y.all (λc=>!Jv c) &&
    (match it with
    |.seq=>mt lm G.fns G.nums e sc N [v]|.rng1=>opt (DN v) λr=>r.1.1 == ("range":Str)&&glob sc r.1.1&&mt lm G.fns G.nums e sc N [r.1.2.2.1]|.rng2=>opt (DO v) λr=>r.1.1 == ("range":Str)&&glob sc r.1.1&&mt lm G.fns G.nums e sc N [r.1.2.2.1,r.1.2.2.2.1]|.zip=>opt (DO v) λr=>r.1.1 == ("zip":Str)&&glob sc r.1.1&&fB u&&mt lm G.fns G.nums e sc N [r.1.2.2.1,r.1.2.2.2.1]|.enum=>opt (DN v) λr=>r.1.1 == ("enumerate":Str)&&glob sc r.1.1&&fB u&&mt lm G.fns G.nums e sc N [r.1.2.2.1]
    )&&mt false G.fns G.nums g bD (cH u++(ay N d).map (·.1)) y&&mt false G.fns G.nums i bD (cH u++(ay N d).map (·.1)) [o]):mT X G E (.comp own d p it e g i) o u v y bD:=by
 simp only[Á,Zy,Zx] at h;obtain⟨⟨⟨⟨⟨⟨⟨⟨⟨⟨⟨⟨⟨h1,h2⟩,h3⟩,h4⟩,z⟩,h6⟩,h7⟩,h8⟩,h9⟩,A⟩,B⟩,F⟩,I⟩,J⟩:=h;subst h1;have c:=vn h3;refine P0 x c (sT h2) h4 (by
  cases it with
  |seq =>
   let(a,rfl,L):=Cn z (j x F);exact GH L
  |rng1 =>
   obtain⟨⟨⟨n,_,a,_⟩,rfl⟩,-,F⟩:=aA F;simp[Á,Zy] at F;exact qQ x F.1.1 F.1.2 z (j x F.2)
  |rng2 =>
   obtain⟨⟨⟨n,_,a,b,_⟩,rfl⟩,-,F⟩:=aA F;simp[Á,Zy] at F;exact Cf x F.1.1 F.1.2 z (j x F.2)
  |zip =>
   obtain⟨⟨⟨n,_,a,b,_⟩,rfl⟩,-,F⟩:=aA F;simp[Á,Zy] at F;exact Cj x F.1.2 F.1.1.1 F.1.1.2 z (j x F.2)
  |enum =>
   obtain⟨⟨⟨n,_,a,_⟩,rfl⟩,-,F⟩:=aA F;simp[Á,Zy] at F;exact sQ x F.1.2 F.1.1.1 F.1.1.2 z (j x F.2)) A (by
  match y,h8,B,I with
  |[],_,_,I =>
   cases g with
   |nil=>exact .inl #[rfl,rfl]|cons a r=>cases I
   |_=>cases h7
  |[f],_,B,I =>
   cases g with
   |nil=>cases I
   |cons a r =>
    have Y:(noStar f&&!bS a&&bS r&&mt false G.fns G.nums a bD _ [f]&&mt false G.fns G.nums r bD _ [])=true:=I;simp only[Á] at Y;have rn:r=.nil:=by
     cases r with
     |nil=>rfl|cons b q=>cases Y.2
     |_=>cases Y.1.1.2
    subst rn;simp only[U7,all_nil,Xy] at B;refine .inr #[a,f,rfl,rfl,λP C s H U=>?_];let(e',k,he,ns,L,lr,gr):=l (hU x c P C s H U) I;cases he;exact L.pt (AS B)
   |_=>cases h7) λP C s H U=>?_;exact(aB (aK h6) (m (hU x c P C s H U) J)).pe
theorem MZ:∀ (t:Ex) {lm:Bool}{G:Gs}{X:Cx}{E:XK}{N:Zj}{sc:ò},XI lm X G E N sc->∀ {u:Zm},mt lm G.fns G.nums t sc N u->Good X G E t u:=by
 intro t
 induction t with
 |nil =>
  intro lm G X E N sc x u h;exact YM.mp h
 |cons a r y z =>
  intro lm G X E N sc x u h;cases u with
  |nil=>cases h
  |cons e u =>
   have h:(noStar e&&!bS a&&bS r&&mt lm G.fns G.nums a sc N [e]&&mt lm G.fns G.nums r sc N u)=true:=h;simp only[Á] at h;obtain⟨⟨⟨⟨A,B⟩,C⟩,F⟩,H⟩:=h;exact#[e,u,rfl,A,aB (aK B) (y x F),C,z x H]
 |var i =>
  intro lm G X E N sc x u h;refine oe h ?_;clear h;rintro ⟨q,rfl⟩ h;simp[Á,Zy] at h;exact aY rfl (Px x h.1 h.2)
 |con d =>
  intro lm G X E N sc x u h;rcases (Vd _ _).mp h with h | h
  .refine oe h ?_;clear h;rintro ⟨q,rfl⟩ h;exact aY rfl (Py h)
  .refine oe h ?_;clear h;rintro ⟨p,rfl⟩ h;cases d with
   |dct=>exact aY rfl Pz|_=>cases h
 |gint g i =>
  intro lm G X E N sc x u h;refine oe h ?_;clear h;rintro ⟨⟨n,p⟩,rfl⟩ h;simp only[Á,Zy,V0] at h;obtain⟨⟨rfl,B⟩,C⟩:=h;exact aY rfl (ME x B C)
 |tup as I =>
  intro lm G X E N sc x u h;refine oe h ?_;clear h;rintro ⟨q,rfl⟩ h;simp[Á] at h;exact aY rfl (PB h.1 (I x h.2))
 |lst as I =>
  intro lm G X E N sc x u h;refine oe h ?_;clear h;rintro ⟨q,rfl⟩ h;simp[Á] at h;exact aY rfl (PC h.1 (I x h.2))
 |bin o a b y J =>
  intro lm G X E N sc x u h;refine oe h ?_;clear h;rintro ⟨⟨l,op,r,p⟩,rfl⟩ h;simp only[Á,Zy] at h;obtain⟨⟨⟨⟨rfl,B⟩,C⟩,F⟩,H⟩:=h;exact aY rfl (PD (aB (aK B) (y x F)) (aB (aK C) (J x H)))
 |cmp o a b y J =>
  intro lm G X E N sc x u h;refine oe h ?_;clear h;rintro ⟨⟨l,op,r,p⟩,rfl⟩ h;simp only[Á,Zy] at h;obtain⟨⟨⟨⟨⟨rfl,A⟩,B⟩,C⟩,F⟩,H⟩:=h;exact aY rfl (PF x A (aB (aK B) (y x F)) (aB (aK C) (J x H)))
 |neg a I =>
  intro lm G X E N sc x u h;refine oe h ?_;clear h;rintro ⟨q,rfl⟩ h;simp only[Á] at h;exact aY rfl (PH (aB (aK h.1) (I x h.2)))
 |not a I =>
  intro lm G X E N sc x u h;refine oe h ?_;clear h;rintro ⟨q,rfl⟩ h;simp only[Á] at h;obtain⟨⟨A,B⟩,C⟩:=h;exact aY rfl (PJ (aB (aK A) (I x C)) (AS B))
 |and a b y J =>
  intro lm G X E N sc x u h;refine oe h ?_;clear h;rintro ⟨⟨l,r,K,p⟩,rfl⟩ h;simp only[Á] at h;obtain⟨⟨⟨⟨A,B⟩,C⟩,F⟩,H⟩:=h;refine aY rfl (PK (aB (aK A) (y x F)) (AS C) ?_);cases K with
  |nil =>
   rw[Zv (show([]:Zm).isEmpty=true from rfl),Á] at H;exact KR (aB (aK B) (J x H.2)) (AS H.1)
  |cons v K =>
   rw[Zw (by exact ê)] at H
   exact aB (aK B) (J x H)
 |or a b y J =>
  intro lm G X E N sc x u h;refine oe h ?_;clear h;rintro ⟨⟨l,r,K,p⟩,rfl⟩ h;simp only[Á] at h;obtain⟨⟨⟨⟨A,B⟩,C⟩,F⟩,H⟩:=h;refine aY rfl (Sj (aB (aK A) (y x F)) (AS C) ?_);cases K with
  |nil =>
   rw[Zv (show([]:Zm).isEmpty=true from rfl),Á] at H;exact KR (aB (aK B) (J x H.2)) (AS H.1)
  |cons v K =>
   rw[Zw (by exact ê)] at H
   exact aB (aK B) (J x H)
 |orT a b y J =>
  intro lm G X E N sc x u h;refine oe h ?_;clear h;rintro ⟨⟨l,r,K,p⟩,rfl⟩ h;simp only[Á] at h;obtain⟨⟨⟨⟨A,B⟩,C⟩,F⟩,H⟩:=h;cases K with
  |nil=>exact aY rfl (PL (aB (aK A) (y x F)) (aB (aK B) (J x H)))|cons v K=>cases C
 |ite c a b L y J =>
  intro lm G X E N sc x u h;refine oe h ?_;clear h;rintro ⟨q,rfl⟩ h;simp only[Á] at h;obtain⟨⟨⟨⟨⟨⟨A,B⟩,C⟩,F⟩,H⟩,P⟩,U⟩:=h;exact aY rfl (PM (aB (aK A) (L x H)) (AS F) (aB (aK B) (y x P)) (aB (aK C) (J x U)))
 |ch o o' a b c y J L =>
  intro lm G X E N sc x u h;refine oe h ?_;clear h;rintro ⟨⟨l,op,op',r,s,p⟩,rfl⟩ h;simp only[Á,Zy] at h;obtain⟨⟨⟨⟨⟨⟨⟨⟨rfl,rfl⟩,A⟩,B⟩,C⟩,F⟩,H⟩,P⟩,U⟩:=h;exact aY rfl (Sk x A (aB (aK B) (y x H)) (aB (aK C) (J x P)) (aB (aK F) (L x U)))
 |bf f as I =>
  intro lm G X E N sc x u h;rcases (Vd _ _).mp h with h | h
  rotate_left
  .rw[Á] at h;let(hf,h):=h;refine oe h ?_;clear h;rintro ⟨⟨n,p1,m,p2,e,p3,p4⟩,rfl⟩ h;simp only[Á,Zy] at h;obtain⟨⟨⟨⟨⟨A,B⟩,C⟩,F⟩,H⟩,P⟩:=h;have A:n="sorted":=A;have B:m="set":=B;subst A;subst B;cases f with
   |sset=>exact aY rfl (JB x C F H (I x P))|_=>cases hf
  refine oe h ?_;clear h;rintro ⟨q,rfl⟩ h;simp only[Á,Zy] at h;obtain⟨⟨⟨⟨A,B⟩,C⟩,F⟩,H⟩:=h;exact aY rfl (Sl x A B C F (I x H))
 |isi t a I =>
  intro lm G X E N sc x u h;refine oe h ?_;clear h;rintro ⟨⟨n,q,e,ty,p⟩,rfl⟩ h;simp only[Á,Zy] at h;obtain⟨⟨⟨⟨⟨A,B⟩,C⟩,F⟩,H⟩,P⟩:=h;have g:=aB (aK F) (I x H);refine aY rfl ?_;have one:∀ t:Ty,t≠.seq->(opt (Tc ty) λq=>q.1.1 == VP (Ge t)&&glob sc (VP (Ge t)))=true->aw X G E (.isi t a) (.Call (.Name n q) [e,ty] [] p):=λt hs P=>by
   refine oe P ?_;clear P;rintro ⟨⟨a,_⟩,rfl⟩ P;simp only[Á,Zy] at P;let(rfl,k1):=P;exact ML x hs k1 A B C g
  cases t with
  |seq =>
   refine oe P ?_;clear P;rintro ⟨⟨a,_,b,_,_,_⟩,rfl⟩ P;simp only[Á,Zy] at P;obtain⟨⟨⟨rfl,rfl⟩,k1⟩,k2⟩:=P;exact MM x k1 k2 A B C g
  |_=>exact one _ (λh=>by cases h) P
 |idx a i y ihi =>
  intro lm G X E N sc x u h;refine oe h ?_;clear h;rintro ⟨q,rfl⟩ h;simp only[Á] at h;obtain⟨⟨⟨⟨A,B⟩,C⟩,F⟩,H⟩:=h;exact aY rfl (PQ A (aB (aK B) (y x F)) (aB (aK C) (ihi x H)))
 |sl a lo hi y ihl ihh =>
  intro lm G X E N sc x u h;refine oe h ?_;clear h;rintro ⟨q,rfl⟩ h;simp only[Á] at h;obtain⟨⟨⟨⟨⟨A,B⟩,C⟩,F⟩,H⟩,P⟩:=h;exact aY rfl (So (aB (aK A) (y x F)) B C (ihl x H) (ihh x P))
 |rev a I =>
  intro lm G X E N sc x u h;refine oe h ?_;clear h;rintro ⟨q,rfl⟩ h;simp only[Á] at h;exact aY rfl (PY (aB (aK h.1) (I x h.2)))
 |call f as I =>
  intro lm G X E N sc x u h;refine oe h ?_;clear h;rintro ⟨⟨n,q,e,l,p⟩,rfl⟩ h;simp only[Á] at h;obtain⟨⟨⟨A,B⟩,C⟩,F⟩:=h;let(pr,hf,Y):=aA A;simp only[Á,Zy] at Y;let(rfl,U):=Y;exact aY rfl (s_call x hf U B C (I x F))
 |comp own aj p it src cond el ihs L ihe =>
  intro lm G X E N sc x u h;refine oe h ?_;clear h;rintro ⟨q,rfl⟩ h;exact aY rfl ((vo ihs L ihe x h).good x.calm)
 |lrng b as I =>
  intro lm G X E N sc x u h;refine oe h ?_;clear h;rintro ⟨⟨n,p,m,q,a,r,t⟩,rfl⟩ h;simp only[Á,Zy] at h;obtain⟨⟨⟨⟨⟨⟨A,B⟩,C⟩,F⟩,H⟩,U⟩,P⟩:=h;subst A;subst B;cases a with
  |nil=>simp at U|cons a l=>exact aY rfl (MP x C F H (I x P))
 |oZ as I =>
  intro lm G X E N sc x u h;refine oe h ?_;clear h;rintro ⟨⟨n,p1,m,p2,e,p3,p4⟩,rfl⟩ h;simp only[Á,Zy] at h;obtain⟨⟨⟨⟨⟨A,B⟩,C⟩,F⟩,H⟩,P⟩:=h;have A:n="len":=A;have B:m="set":=B;subst A;subst B;exact aY rfl (MU x C F H (I x P))
 |zget i k =>
  intro lm G X E N sc x u h;refine oe h ?_;clear h;rintro ⟨⟨n,p,j,c,q,r⟩,rfl⟩ h;simp only[Á,Zy] at h;obtain⟨⟨A,B⟩,C⟩:=h;have C:j=(k:Int):=C;subst C;exact aY rfl (MN x A B)
 |refd aj a I =>
  intro lm G X E N sc x u h;refine oe h ?_;clear h;rintro ⟨⟨n,p,body,bj,lpos,pos⟩,rfl⟩ h;simp only[Á,Zy] at h;obtain⟨⟨⟨⟨⟨⟨A,B⟩,C⟩,F⟩,H⟩,P⟩,U⟩:=h;have B:n="_law_refused":=B;subst B;exact aY rfl (MY x A C F H (aK P) λk X E xl=>I xl U)
theorem sound(G:Gs)(t:Ex)(x:XI lm X G E N sc)(h:mt lm G.fns G.nums t sc N a):Good X G E t a:=MZ t x h
end
section
variable {lm:Bool}{X:Cx}{G:Gs}{E:XK}{N:Zj}{sc:ò}
structure GN(G:Gs)(N:⇑Str)(sc:Scope)(aj:⇑Nat)(a:Ex)(bj:Scope)(body:Expr):Prop where
 hc:(ay N aj).length=aj.length
 hs:i8 bj sc (ay N aj)=true
 hL:bS a=false
 ih:∀ (k:Nat) {X:Cx}{E:XK},XI false X (lowG G k) E ((ay N aj).map (·.1)) bj->Good X (lowG G k) E a [body]
def vt(X:Cx)(G:Gs)(N:Zj)(sc:ò)(q:Str)(H:Hp)(t:LT)(p:Zh × Ex):Prop:=qt X q H t/\t.N=(ay N p.1).map (·.1)/\GN G N sc p.1 p.2 t.bj t.body
set_option tactic.hygienic true in
theorem vx(h:eF F b ((d,a)::r) z=↑(cs,e)):∃ f c g i,qv b d=↑f/\ev (cT F) a (f.map some) z=↑(.er c g)/\c < 12/\eF F b r g=↑(i,e)/\cs=c::i:=by
 unfold eF at h;split at h
 .cases h
 .rename_i f j;split at h
  .rename_i c g k;split at h
   .rename_i l;obtain⟨⟨i,m⟩,n,o⟩:=Ë.mp h;cases o;exact#[f,c,g,i,j,k,l,n,rfl]
   .cases h
  .cases h
theorem KW{b:Type}{l:⇑b}{a:b}:(l++[a]).length=l.length + 1:=⋯
theorem UJ.get{α β:Type}{R:α->β->Prop}:∀ {xs:⇑α}{ys:⇑β},UJ R xs ys->∀ {i:Nat}{x:α}{y:β},xs[i]?=↑x->ys[i]?=↑y->R x y:=by
 intro xs ys h
 induction h with
 |nil=>intro i x y h;simp at h
 |cons r _ k =>
  intro i x y h1 h2;cases i with
  |zero=>simp_all|succ i=>exact k (by simpa using h1) (by simpa using h2)
inductive Q4 (X:Cx) (G:Gs) (N:List Str) (sc:Scope) (q:Str) (i:Nat) (ls:List (List Nat × Ex)) (σ:L2.St) (H:Hp) (Q:VK):Prop where
 |mk (zA ρ z cs z1 L ts) (h0_:eS X.K zA H ρ σ) (h1_:aF zA z H) (h2_:eF G.F ρ ls z=some (cs,z1)) (h3_:σ[i]?=some (some (.ref L))) (h4_:H L=some (.lst (ts.map λt=>.ref t.f))) (h5_:zA≠some L) (h6_:Paired (vt X G N sc q H) ts ls) (h7_:∀ v H',Ext zA H H'->aF zA z1 H'->my X.K zA H H' (.fr (cs.map qw)) v->Q v H'):Q4 X G N sc q i ls σ H Q
theorem xp(x:XI lm X G E N sc)(L:fX X G sc c P q k fR fdR){p p2 p3 p4 pos ps:Pos}(hi:N[i]?=↑y)(ny:az y)(nn:az n)(cc:pJ bD sc N [n] [])(hg:glob bD "_law_refused")(hls:ls.length<=1000) :
  PE X (.ListComp (.Call (.Name "_law_refused" p) [.Name n p2] [] pos) [#[.Name n p3,.Name y p4,[],0]] bD ps) (Q4 X G N sc q i ls):=by
 unfold az at ny nn;simp only[Á,ç] at ny nn;let(k1,k2,k3):=bu hg;refine PE.imp (rP  (qual:=q) (k:=k) x.calm (lU x cc) (nB (cg  (by rw[x.hN];exact hi) (x.vis y (Û hi)) ny.1 ny.2)) L.fn (L.rm x.room) (λcl C s H fp=>(hU x cc cl C s H fp).glb _ k1) L.m L.kp L.bd (λcl C s H fp=>jn  (by simp[aT]) rfl ((dv x cc cl C s H fp).lc n ⋯) ((dv x cc cl C s H fp).fn n ⋯)) (λcl C s H fp=>(hU x cc cl C s H fp).vis n ⋯) nn.1 nn.2 k2 (λ_=>rfl)) λσ H Q qq=>?_
 let(b,ρ,z,cs,z1,Ld,ts,rel,st,run,eL,hL,zL,pr,po):=qq;refine#[_,eL,Ld,rfl,#[_,.of hL],trivial,?_];have nz:∀ {a:È}{p:ö->Prop},H a=↑(.ext p)->b≠↑a:=λ{a p} h e=>by
  subst e;have:=st.zat;cases z with
  |none=>exact this.elim
  |some pr =>
   have h':H a=↑_:=this;rw[h] at h';cases h'
 have len:=pr.length;refine#[λj m ys d=>∃ g ds o,m=(ls.drop j).length/\Ext b H d/\aF b g d/\eF G.F ρ (ls.drop j) g=↑(o,z1)/\cs=ds++o/\aN X.K (hz b d) (ds.map qw) ys/\ds.length=j,#[_,z,[],cs,rfl,.refl,st,run,rfl,.nil,rfl],?_];rintro j m ys d ⟨g,ds,o,rfl,u,stj,rj,rfl,hd,rfl⟩;have hL':=u.at hL zL;cases B:ls.drop ds.length with
 |nil =>
  rw[B] at rj;cases rj;refine .inl #[#[_,.of hL',by simp_all],λp hp=>?_]
  rw[Wa] at po;exact po _ _ (u.trans (Ext.of (ae.new _ hp))) (stj.same (ae.new _ hp)) ((cQ stj hd hp).from u)
 |cons pa r =>
  let(aj,a):=pa;rw[B] at rj;let(ss,I,zm,cs2,hss,he,hc12,rj2,rfl):=vx rj;have hlt:ds.length < ls.length:=by
   rcases Nat.lt_or_ge ds.length ls.length with h | h
   .exact h
   .rw[W6 h] at B;cases B
  have hls' :=by
   have:=WU (xs:=ls) (i:=ds.length) (j:=0);rw[B] at this;exact this.symm
  have J:ls.drop (ds.length + 1)=r:=by
   have:=UO hlt;rw[B] at this;exact(List.cons.inj this).2.symm
  have U:ds.length < ts.length:=by rw[len];exact hlt
  let(lt,tN,lf):=UJ.get pr (Õ U) hls';generalize et:ts[ds.length]=t at lt tN lf;have ht:(ts.map λt=>V.ref t.f)[ds.length]?=↑↥t.f:=by rw[Ú,Õ U,et];rfl
  refine .inr #[#[_,_,.of hL',ht],?_,λzs Y=>∃ m',m' < ((aj,a)::r).length/\∃ g ds2 o,m'=(ls.drop (ds.length + 1)).length/\Ext b H Y/\aF b g Y/\eF G.F ρ (ls.drop (ds.length + 1)) g=↑(o,z1)/\ds++I::cs2=ds2++o/\aN X.K (hz b Y) (ds2.map qw) zs/\ds2.length=ds.length + 1,λ_ _ h=>h,λy Y hy=>?_]
  .have:=hd.length;rw[Æ] at this;exact Ò (show ys.length < 1000 by exact Ò (V7 (Y5 this) hlt) hls) (-0)
  let(rfl,hy):=hy;cases (í ((hy _ (.of hL')).symm.trans ht));let(vs,ra,hvl,hvs):=i9 rel hss lf.hc;have la:Fu Y q t:=#[u.at lt.fn (nz lt.fn),u.at lt.rc (nz lt.rc)];have hsc:=lf.hs;unfold i8 at hsc;refine BB.b7 hsc λs1 s2 s3 s4 s5 s6 s7=>?_;simp only[ç,Zy,Uq,Zx] at s1 s2 s3 s4 s5 s6 s7;have hfree:∀ y∈(ay N aj).map (·.1),t.bj.names.lookup y=↑.free:=λy hy=>by
   let(pr,h1,rfl):=Ð.mp hy;exact s6 pr h1
  show R3 X q k _ σ H [↑↥t.f] Y _;refine#[t,vs,↥(G.cls I),λH3=>Ext b Y H3/\aF b zm H3,lt,#[by rw[tN,Æ];exact hvl,λi y v h1 h2=>by rw[tN] at h1;rw[x.hN];exact hvs i y v h1 h2],rfl,la,λA outer s H3 hr sm=>?_,λs2 th=>?_]
  .have XL:XI false (iY X.prog X.w X.K X.mg X.base t.N q t.bj t.f ↥t.c' t.cl A outer s H3 λc _ d=>c=↥(G.cls I)/\Ext b Y d/\aF b zm d) (lowG G k) (λc _ d=>c=↥(G.cls I)/\Ext b Y d/\aF b zm d) ((ay N aj).map (·.1)) t.bj :=
    { gok:=L.low,num:=x.num,blt:=x.blt,hN:=tN,nd:=s7,vis:=λy hy=>.inr (.inr (hfree y hy)),glb:=λy h=>h,cel:=λy h=>h,calm:=rfl,room:=hr,pas:=qH,lam:=λh=>nomatch h }
   refine#[_,(aB lf.hL (lf.ih k XL)).pe,?_];exact#[b,ss.map some,g,_,kI (u6.mono ra (u.trans (Ext.of sm))),stj.same sm,he,λea d x3 stt hn=>#[rfl,(Ext.of sm).trans x3,stt]]
  .refine#[t.f,G.cls I,I,_,rfl,th,L.cls I hc12,λl H3 H4 hRR sm hl=>?_];let(x3,st3):=hRR;have x4:Ext b Y (upd H4 l (.lst [~~~I])):=(x3.trans (Ext.of sm)).trans (Ext.of (ae.new _ hl));have st4:=st3.same sm;refine#[r.length,Vs _,zm,ds++[I],cs2,by rw[J],u.trans x4,st4.same (ae.new _ hl),by rw[J];exact rj2,by rw[Vt];rfl,?_,KW]
   rw[Um];exact(hd.same x4.same).append (.cons (cQ st4 (aN.cons Hd.int aN.nil) hl).pl .nil)
end
open Classical in
def hw(ow:Nat->Zl)(H:Hp):Hp:=λb=>if ∃ i,ow i=↑b then none else H b
section
variable {K:Ã}{ow:Nat->Zl}{H H':Hp}
theorem ef:ae (hw ow H) H:=λb o e=>by
 delta hw at e
 simp_all
theorem cB(h:H b=some o)(n:∀ i,ow i≠some b):hw ow H b=some o:=by
 delta hw
 simp_all
theorem fY(h:hw ow H b=↑o):H b=↑o/\∀ i,ow i≠↑b:=by
 refine#[ef b o h,λi e=>?_]
 delta hw at h
 simp_all
theorem aZ(e:ae H H'):ae (hw ow H) (hw ow H'):=λb o h=>by
 let(a,c):=fY h;exact cB (e b o a) c
theorem eT:hw (λ_=>none) H=H:=by
 delta hw
 grind
theorem A0(h:dY K H a xs)(c:∀ i b,ow i=↑b->∃ d,H b=↑(.lst d)):dY K (hw ow H) a xs:=by
 rcases h with (h | ⟨o,h⟩) | h
 .refine .inl (.inl (cB h λi e=>?_));let(d,q):=c i a e;rw[h] at q;cases q
 .refine .inl (.inr #[o,cB h λi e=>?_]);let(d,q):=c i a e;rw[h] at q;cases q
 .exact .inr h
mutual
theorem oq(c:∀ i b,ow i=↑b->∃ e,H b=↑(.lst e)):∀ {d:D}{v:V},bare d=true->Hd K H d v->Hd K (hw ow H) d v
 |.cD,_,_,h=>by rw[h.O2];exact Hd.cD|.bl _,_,_,h=>by rw[h.yV];exact Hd.bl|~~~_,_,_,h=>by rw[h.bK];exact Hd.int|.str _,_,_,h=>by rw[h.O3];exact Hd.str
 |.tup l,_,b,h=>by
  let(a,f,rfl,g,j):=h.fW;exact Hd.tup (A0 g c) (kJ c (by simpa [bare] using b) j)
 |.lst _,_,b,_=>by cases b
 |.dct,_,b,_=>by cases b
theorem kJ(c:∀ i b,ow i=↑b->∃ e,H b=↑(.lst e)):∀ {ds:⇑D}{k:⇑V},dQ ds=true->aN K H ds k->aN K (hw ow H) ds k
 |[],_,_,h=>by rw[h.bR];exact .nil
 |d::ds,_,b,h=>by
  let(x,r,rfl,g,j):=h.aU;simp only[dQ,Á] at b;exact .cons (oq c b.1 g) (kJ c b.2 j)
end
end
def GO(K:Ã)(b:Zl)(c:Nat->Zl)(H:Hp)(i:Nat):S->V->Prop
 |.d x,v=>c i=none/\Hd K (hw c (hz b H)) x v|.fr xs,v=>∃ a e,c i=some a/\v=.ref a/\H a=some (.lst e)/\aN K (hw c (hz b H)) xs e|.z,v=>c i=none/\∃ a,b=some a/\v=.ref a
structure RW(K:PySem.W.Frag)(H0:Hp)(zE zA:Option Addr)(ow:Nat->Option Addr)(H:Hp)(ρ:Env)(σ:L2.St):Prop where
 len:ρ.length=σ.length
 inj:∀ i j a,ow i=↑a->ow j=↑a->i=j
 zne:∀ i a,ow i=↑a->zA≠↑a
 own:∀ i a,ow i=↑a->∃ xs,ρ[i]?=↑↑(.fr xs)
 wor:∀ i s,ρ[i]?=↑↑s->∃ v,σ[i]?=↑↑v/\GO K zA ow H i s v
 ext:Ext zE H0 H
 zok:zA=zE∨(zE=none/\∀ a,zA=↑a->H0 a=none)
 new:∀ i a,ow i=↑a->H0 a=none
section
variable {K:Ã}{H0 H H':Hp}{zE zA:Zl}{ow:Nat->Zl}{ρ:Env}{σ:L2.St}
theorem RW.lst(r:RW K H0 zE zA ow H ρ σ):∀ i a,ow i=↑a->∃ b,H a=↑(.lst b):=λi a e=>by
 let(c,h):=r.own i a e;let(v,d,f,b,g,j,k,l):=r.wor i _ h;rw[e] at g;cases g;exact#[b,k]
theorem RW.xq(r:RW K H0 zE zA ow H ρ σ):∀ i a,ow i=↑a->∃ b,hz zA H a=↑(.lst b):=λi a e=>by
 let(b,h):=r.lst i a e;exact#[b,aV h (r.zne i a e)]
theorem GO.pl{i:Nat}{s:S}{v:V}(h:GO K zA ow H i s v)(b:∀ a,ow i=↑a->zA≠↑a):wU K zA H s v:=by
 cases s with
 |d x=>exact h.2.same ef|z=>exact h.2
 |fr c =>
  let(a,e,f,rfl,g,j):=h;exact Hd.lst (aV g (b a f)) (j.same ef)
theorem RW.dH(r:RW K H0 zE zA ow H ρ σ):eS K zA H ρ σ:=λi s e=>by
 let(v,b,c):=r.wor i s e;exact#[v,b,c.pl λa q=>r.zne i a q]
theorem GO.mono{i:Nat}{s:S}{v:V}(h:GO K zA ow H i s v)(b:∀ a,ow i=↑a->zA≠↑a)(x:Ext zA H H'):GO K zA ow H' i s v:=by
 cases s with
 |d y=>exact#[h.1,h.2.same (aZ x)]|z=>exact h
 |fr c =>
  let(a,e,f,rfl,g,j):=h;exact#[a,e,f,rfl,x.at g (b a f),j.same (aZ x)]
theorem GP(zA:Zl)(H:Hp):ae (hz zA H) (hz none H):=λ_ _ h=>aV (bZ h).1 (λq=>nomatch q) (ck h)
theorem sU(e:Ext zE H0 H)(c:zA=zE∨(zE=none/\∀ a,zA=↑a->H0 a=none))(x:Ext zA H H'):Ext zE H0 H':=by
 rcases c with rfl | ⟨rfl,d⟩
 .exact e.trans x
 .refine#[λb o h=>?_,λb f h=>let #[g,q]:=e.cK b f h;x.cK b g q];have i:=e.same b o h;refine aV (x.at (bZ i).1 (λq=>?_) (ck i)) (λq=>nomatch q) (ck i);have j:=(bZ h).1
  simp_all
theorem RW.mono(r:RW K H0 zE zA ow H ρ σ)(x:Ext zA H H'):RW K H0 zE zA ow H' ρ σ :=
 #[r.len,r.inj,r.zne,r.own,λi s e=>let #[v,b,c]:=r.wor i s e;#[v,b,c.mono (λa q=>r.zne i a q) x],sU r.ext r.zok x,r.zok,r.new]
theorem RW.young(r:RW K H0 zE zA ow H ρ σ)(h:H a=none)(n:zA≠↑a):H0 a=none/\zE≠↑a:=by
 have b:zE≠↑a:=λq=>by
  rcases r.zok with rfl | ⟨rfl,_⟩
  .exact n q
  .cases q
 exact#[r.ext.free h b,b]
theorem RW.out(r:RW K H0 zE zA ow H ρ σ){s:S}{v:V}(hs:s≠.z)(x:Ext zA H H')(h:my K zA H H' s v):my K zE H0 H' s v:=by
 have c:ae (hz zA H') (hz zE H'):=by
  rcases r.zok with rfl | ⟨rfl,_⟩
  .exact ae.refl _
  .exact GP _ _
 cases s with
 |d y=>exact Hd.same c h|z=>exact absurd rfl hs
 |fr e =>
  let(a,f,rfl,g,i,j,k):=h;let(l,m):=r.young g i;exact#[a,f,rfl,l,m,j,k.same (ph λb o _ q=>c b o q)]
theorem RW.Sr(r:RW K H0 zE zA ow H ρ σ){i:Nat}{s:S}(hs:s≠.z)(e:ρ[i]?=some (some s)):∃ v,σ[i]?=some (some v)/\my K zE H0 H s v:=by
 let(v,c,f):=r.wor i s e;have g:ae (hz zA H) (hz zE H):=by
  rcases r.zok with rfl | ⟨rfl,_⟩
  .exact ae.refl _
  .exact GP _ _
 refine#[v,c,?_];cases s with
 |d y=>exact Hd.same (ae.trans ef g) f.2|z=>exact absurd rfl hs
 |fr h =>
  let(a,j,k,rfl,l,m):=f;have n:=r.zne i a k;have p:zE≠some a:=λq=>by
   rcases r.zok with rfl | ⟨rfl,_⟩
   .exact n q
   .cases q
  refine#[a,j,rfl,r.new i a k,p,l,m.same λb o q=>?_];let(u,x):=fY q;exact fU (g b o u) λz=>x i (by rw[z];exact k)
theorem RW.dO(r:RW K H0 zE zA ow H ρ σ):RW K H0 zE zA (λ_=>none) H (dO ρ) σ:=by
 refine#[by unfold Q.dO;rw[Æ];exact r.len,λi j a h=>(by cases h),λi a h=>(by cases h),λi a h=>(by cases h),λi s e=>?_,r.ext,r.zok,λi a h=>(by cases h)]
 unfold Q.dO at e;rw[Ú] at e;let(o,b,c):=Ë.mp e;cases o with
 |none=>cases c
 |some s0 =>
  cases c;let(v,f,g):=r.dH i s0 b;refine#[v,f,?_];cases s0 with
  |d y=>exact#[rfl,by rw[eT];exact g]|fr k=>exact#[rfl,by rw[eT];exact g]|z=>exact#[rfl,g]
def iQ(ow:Nat->Zl)(i:Nat):Nat->Option Addr:=λj=>if j=i then none else ow j
def xt(ow:Nat->Zl)(i:Nat)(a:È):Nat->Option Addr:=λj=>if j=i then ↑a else ow j
theorem GO.move{b:Nat->Zl}{j:Nat}{s:S}{v:V}(h:GO K zA ow H j s v)(e:b j=ow j)(c:ae (hw ow (hz zA H)) (hw b (hz zA H')))(f:∀ a,ow j=↑a->H' a=H a):GO K zA b H' j s v:=by
 cases s with
 |d y=>exact#[by rw[e];exact h.1,h.2.same c]|z=>exact#[by rw[e];exact h.1,h.2]
 |fr g =>
  let(a,i,k,rfl,l,m):=h;exact#[a,i,by rw[e];exact k,rfl,by rw[f a k];exact l,m.same c]
theorem getElem?_set'{a:Type}{l:⇑a}{i j:Nat}{x y:a}(h:(l.set i x)[j]?=↑y):(j=i/\y=x/\i < l.length)∨(j≠i/\l[j]?=↑y):=by
 by_cases b:j=i
 .subst b;have c :=by
   simpa using ((Ý.mp h).1)
  simp_all
 .rw[Ï (ñ b)] at h;exact .inr #[b,h]
theorem RW.GQ(r:RW K H0 zE zA ow H ρ σ){i:Nat}(h:Hd K (hw ow (hz zA H)) x v):RW K H0 zE zA (iQ ow i) H (ρ.set i ↑(.d x)) (σ.set i ↑v):=by
 have sub:∀ j a,iQ ow i j=↑a->j≠i/\ow j=↑a:=λj a e=>by
  delta iQ at e
  simp_all
 have c:ae _ (hw _ (hz zA H)):=λb o e=>by
  let(f,g):=fY e;exact cB f λj q=>g j (sub j b q).2
 refine#[by rw[ô,ô];exact r.len,λj k a l m=>r.inj j k a (sub j a l).2 (sub k a m).2,λj a l=>r.zne j a (sub j a l).2,λj a l=>?_,λj s e=>?_,r.ext,r.zok,λj a l=>r.new j a (sub j a l).2]
 .let(n,m):=sub j a l;let(p,u):=r.own j a m;exact#[p,by rw[Ï (ñ n)];exact u]
 .rcases getElem?_set' e with ⟨rfl,f,y⟩ | ⟨n,f⟩
  .cases f;exact#[v,Ø (by rw[<-r.len];exact y),by exact Zv rfl,h.same c]
  .let(w,l,m):=r.wor j s f;exact#[w,by rw[Ï (ñ n)];exact l,m.move (by exact Zw n) c λ_ _=>rfl]
theorem RW.Ss(r:RW K H0 zE zA ow H ρ σ){i:Nat}{t:S}{v:V}(h:GO K zA (iQ ow i) H i t v):RW K H0 zE zA (iQ ow i) H (ρ.set i (some t)) (σ.set i (some v)):=by
 have sub:∀ j a,iQ ow i j=some a->j≠i/\ow j=some a:=λj a e=>by
  delta iQ at e
  simp_all
 have c:ae _ (hw _ (hz zA H)):=λb o e=>by
  let(d,f):=fY e;exact cB d λj q=>f j (sub j b q).2
 refine#[by rw[ô,ô];exact r.len,λj k a g l=>r.inj j k a (sub j a g).2 (sub k a l).2,λj a g=>r.zne j a (sub j a g).2,λj a g=>?_,λj s e=>?_,r.ext,r.zok,λj a g=>r.new j a (sub j a g).2]
 .let(n,l):=sub j a g;let(m,p):=r.own j a l;exact#[m,by rw[Ï (ñ n)];exact p]
 .rcases getElem?_set' e with ⟨rfl,d,u⟩ | ⟨n,d⟩
  .cases d;exact#[v,Ø (by rw[<-r.len];exact u),h]
  .let(w,g,l):=r.wor j s d;exact#[w,by rw[Ï (ñ n)];exact g,l.move (by exact Zw n) c λ_ _=>rfl]
theorem RW.Su(r:RW K H0 zE zA ow H ρ σ){i:Nat}(x:Ext zA H H')(c:H a=none)(d:zA≠↑a)(f:H' a=↑(.lst g))(h:aN K (hw (xt ow i a) (hz zA H')) xs g)(l:i < ρ.length) :
  RW K H0 zE zA (xt ow i a) H' (ρ.set i ↑(.fr xs)) (σ.set i ↑↥a):=by
 have m:=r.mono x;have p:∀ j b,ow j=↑b->b≠a:=λj b e q=>by
  let(u,v):=r.lst j b e
  simp_all
 have sub:∀ j b,xt ow i a j=↑b->(j=i/\b=a)∨(j≠i/\ow j=↑b):=λj b e=>by
  delta xt at e
  split at e
  .simp_all
  .rename_i n;exact .inr #[n,e]
 refine#[by rw[ô,ô];exact r.len,λj k b v E=>?_,λj b v=>?_,λj b v=>?_,λj s e=>?_,m.ext,r.zok,λj b v=>?_]
 .rcases sub j b v with ⟨F,G⟩ | ⟨F,G⟩
  .rcases sub k b E with ⟨I,p2⟩ | ⟨I,p2⟩
   .rw[F,I]
   .exact absurd G (p k b p2)
  .rcases sub k b E with ⟨I,p2⟩ | ⟨I,p2⟩
   .exact absurd p2 (p j b G)
   .exact r.inj j k b G p2
 .rcases sub j b v with ⟨_,G⟩ | ⟨_,G⟩
  .rw[G];exact d
  .exact r.zne j b G
 .rcases sub j b v with ⟨F,G⟩ | ⟨F,G⟩
  .rw[F];exact#[xs,Ø l]
  .let(u,J):=r.own j b G;exact#[u,by rw[Ï (ñ F)];exact J]
 .rcases getElem?_set' e with ⟨rfl,z,L⟩ | ⟨n,z⟩
  .cases z;exact#[_,Ø (by rw[<-r.len];exact L),a,g,by exact Zv rfl,rfl,f,h]
  .let(w,v,E):=r.wor j s z;refine#[w,by rw[Ï (ñ n)];exact v,E.move (by delta xt;exact Zw n) (λb o e=>by
  let(z,A):=fY e;have B:=(bZ z).1;have C:b≠a:=λq=>by simp_all
  refine cB (x b o z) λj q=>?_;rcases sub j b q with ⟨_,q⟩ | ⟨_,q⟩
  .exact C q
  .exact A j q) λb q=>?_]
   let(u,k):=r.lst j b q;rw[k];exact x.at k (r.zne j b q)
 .rcases sub j b v with ⟨_,G⟩ | ⟨_,G⟩
  .rw[G];exact(r.young c d).1
  .exact r.new j b G
theorem RW.upd(r:RW K H0 zE zA ow H ρ σ){i:Nat}(e:ow i=↑a)(h:aN K (hw ow (hz zA H)) xs c):RW K H0 zE zA ow (upd H a (.lst c)) (ρ.set i ↑(.fr xs)) σ:=by
 have d:ae (hw ow _) (hw ow (hz zA (L2.upd H a (.lst c)))):=λb o q=>by
  let(f,g):=fY q;let(k,l):=bZ f;exact cB (aV (by rw[ag (λz=>g i (by rw[z];exact e))];exact k) l (ck f)) g
 let(p,u):=r.own i a e;let(v0,s0,x,y,A,B,C,E):=r.wor i _ u;rw[e] at A;cases A;refine#[by rw[ô];exact r.len,r.inj,r.zne,λj b F=>?_,λj s q=>?_,#[λb o q=>?_,λb G q=>?_],r.zok,r.new]
 .by_cases I:j=i
  .subst I;exact#[xs,Ø ((Ý.mp u).1)]
  .let(J,L):=r.own j b F;exact#[J,by rw[Ï (ñ I)];exact L]
 .rcases getElem?_set' q with ⟨rfl,f,N⟩ | ⟨n,f⟩
  .cases f;exact#[v0,s0,a,c,e,B,ao,h.same d]
  .let(w,F,P):=r.wor j s f;refine#[w,F,P.move rfl d λb q=>?_];exact ag (λz=>n (r.inj j i b q (by rw[z];exact e)))
 .let(f,g):=bZ (r.ext b o q);exact aV (by rw[ag (λz=>by
   have:=(bZ q).1;rw[z,r.new i a e] at this;cases this)];exact f) g (ck q)
 .let(U,f):=r.ext.cK b G q;have m:b≠a:=λz=>by simp_all
  exact#[U,by rw[ag m];exact f]
end
end Q
namespace Q
open PySem L2 PySem.Spec PyProof.Rows
variable [TB:Tb]
def P1:⇑Bool->Prop->Prop
 |[],P=>P|b::r,P=>b=true->P1 r P
theorem xu{P:Prop}:∀ {l:⇑Bool},l.all id->P1 l P->P
 |[],_,k=>k
 |b::r,h,k=>by
  rw[U7,Á] at h;exact xu h.2 (k h.1)
def JH:Zl->Z->Z
 |none,_=>none|↑_,z=>z
def fj(K:Ã)(G:Gs)(E:XK)(a:Hp)(b:Zl)(B:Hp)(D:Ends):R O->Prop
 |.ok (.nx d) z=>∀ f g h H,RW K a b f g H d h->aF f z H->ae B (hw g (hz f H))->D.nx h H|.ok (.rt s) z=>∀ v H,s≠.z->Ext b a H->aF b (JH b z) H->my K b a H s v->D.rt v H|.er c z=>∀ e H,Ext b a H->aF b (JH b z) H->H e=none->E ↥(G.cls c) ↑e H
inductive tX (K:PySem.W.Frag) (G:Gs) (E:XK) (H0:Hp) (zE:Option Addr) (x:Sm) (D:Ends) (σ:L2.St) (H:Hp):Prop where
 |mk (zA ow ρ z r) (h0_:RW K H0 zE zA ow H ρ σ) (h1_:aF zA z H) (h2_:ex G.F zE.isNone x ρ z=↑r) (h3_:fj K G E H0 zE (hw ow (hz zA H)) D r):tX K G E H0 zE x D σ H
section
variable {K:Ã}{G:Gs}{E:XK}{H0 H H':Hp}{zE zA:Zl}{ow:Nat->Zl}{ρ:Env}{σ:L2.St}{Dn:Ends}{z:Z}
theorem zi(b:zA=zE∨(zE=none/\∀ a,zA=↑a->H0 a=none))(c:aF zA z H):aF zE (JH zE z) H:=by
 cases zE with
 |none=>exact#[trivial,c.tab]
 |some a =>
  rcases b with rfl | ⟨h,_⟩
  .exact c
  .cases h
theorem fj.KY(a:fj K G E H0 zE B Dn (.er c z))(r:RW K H0 zE zA ow H ρ σ):EPost G zA E c z H:=λe H' x b n=>a e H' (sU r.ext r.zok x) (zi r.zok b) n
theorem fj.yj(a:fj K G E H0 zE B Dn b)(r:RW K H0 zE zA ow H ρ σ):∀ c d,b=.er c d->EPost G zA E c d H:=λc d e=>by subst e;exact a.KY r
theorem fj.mono(a:fj K G E H0 zE B Dn b)(h:ae B c):fj K G E H0 zE c Dn b:=by
 match b,a with
 |.ok (.nx _) _,a=>exact λzA ow σ H r d e=>a zA ow σ H r d (ae.trans h e)|.ok (.rt _) _,a=>exact a|.er _ _,a=>exact a
theorem eU(ow:Nat->Zl)(i:Nat):ae (hw ow H) (hw (iQ ow i) H):=λb o e=>by
 let(a,c):=fY e;refine cB a λj q=>?_;unfold iQ at q
 simp_all
theorem pK(ow:Nat->Zl):ae (hw ow H) (hw (λ_=>none) H):=λb o e=>cB (fY e).1 λj q=>nomatch q
theorem GR(x:Ext zA H H')(c:H a=none)(i:Nat):ae (hw ow (hz zA H)) (hw (xt ow i a) (hz zA H')):=λb o e=>by
 let(d,f):=fY e;have g:=(bZ d).1;refine cB (x b o d) λj q=>?_;unfold xt at q
 grind
theorem xv(e:ow i=↑a):ae (hw ow (hz zA H)) (hw ow (hz zA (upd H a o))):=λb u q=>by
 let(c,d):=fY q;let(f,g):=bZ c;exact cB (aV (by rw[ag (λw=>d i (by rw[w];exact e))];exact f) g (ck c)) d
mutual
theorem Co:∀ {p:iD}{d:D}{ρ b:Env},cz p d ρ=↑b->∀ {ow:Nat->Zl}{σ:L2.St}{v:V}{R:L2.St->Hp->Prop},RW K H0 zE zA ow H ρ σ->Hd K (hw ow (hz zA H)) d v ->
  (∀ c f,RW K H0 zE zA c H b f->ae (hw ow (hz zA H)) (hw c (hz zA H))->R f H)->gP K p v σ H R
 |.v i,d,ρ,b,e,ow,σ,v,R,r,hd,k=>by
  unfold cz at e;cases e;unfold gP;exact k _ _ (r.GQ hd) (eU ow i)
 |.tup g,d,ρ,b,e,ow,σ,v,R,r,hd,k=>by
  unfold cz at e;cases d with
  |tup l =>
   let(a,h,rfl,j,m):=hd.fW;unfold gP;exact#[a,h,rfl,(ak zA H).j6 (ae.j6 ef j),by rw[m.length];exact pI e,xw e r m k]
  |_=>cases e
 |.nil,_,_,_,e,_,_,_,_,_,_,_=>by unfold cz at e;cases e
 |.cons _ _,_,_,_,e,_,_,_,_,_,_,_=>by unfold cz at e;cases e
theorem xw:∀ {r:iD}{l:⇑D}{ρ b:Env},bindL r l ρ=↑b->∀ {ow:Nat->Zl}{σ:L2.St}{n:⇑V}{R:L2.St->Hp->Prop},RW K H0 zE zA ow H ρ σ->aN K (hw ow (hz zA H)) l n ->
  (∀ c f,RW K H0 zE zA c H b f->ae (hw ow (hz zA H)) (hw c (hz zA H))->R f H)->gL K r n σ H R
 |.nil,l,ρ,b,e,ow,σ,n,R,r,hd,k=>by
  unfold bindL at e;cases l with
  |nil =>
   cases e;unfold gL;exact#[hd.bR,k ow σ r (ae.refl _)]
  |cons x l=>cases e
 |.cons p q,l,ρ,b,e,ow,σ,n,R,r,hd,k=>by
  unfold bindL at e;cases l with
  |nil=>cases e
  |cons x l =>
   let(o,s,u):=Ê.mp e;let(v,y,rfl,j,m):=hd.aU;unfold gL;exact#[v,y,rfl,Co s r j λc f A B=>xw u A (m.same B) λC F I J=>k C F I (ae.trans B J)]
 |.v _,_,_,_,e,_,_,_,_,_,_,_=>by unfold bindL at e;cases e
 |.tup _,_,_,_,e,_,_,_,_,_,_,_=>by unfold bindL at e;cases e
end
theorem xy(r:RW K H0 zE zA ow H ρ σ)(s:S):∃ a,RW K H0 zE zA a H (dP s ρ) σ/\ae (hw ow (hz zA H)) (hw a (hz zA H))/\(kC s=true∨∀ i,a i=none):=by
 unfold dP;rw[rZ];cases b:kC s with
 |true=>exact#[ow,r,ae.refl _,.inl rfl]|false=>exact#[_,r.dO,pK ow,.inr λ_=>rfl]
theorem zk{p:iD}{s:S}{v:V}{c:Env}{R:L2.St->Hp->Prop}(r:RW K H0 zE zA ow H ρ σ)(x:Ext zA H H')(f:my K zA H H' s v)(e:jS p s (dP s ρ)=↑c)
  (k:∀ g h,RW K H0 zE zA g H' c h->ae (hw ow (hz zA H)) (hw g (hz zA H'))->R h H'):gP K p v σ H' R:=by
 let(l,m,s1,n):=xy r s;have u:=m.mono x;have A:ae _ (hw l (hz zA H')):=ae.trans s1 (aZ x);cases s with
 |d y =>
  refine Co (by cases p <;> exact e) u ?_ λg h C F=>k g h C (ae.trans A F);rcases n with n | n
  .exact oq u.xq n f
  .have:=funext n;subst this;rw[eT];exact f
 |z =>
  cases p with
  |v i =>
   simp only[jS] at e;split at e
   .cases e;exact k _ _ (u.Ss  #[Zv rfl,f]) (ae.trans A (eU l i))
   .cases e
  |_=>cases e
 |fr I =>
  cases p with
  |v i =>
   simp only[jS] at e;split at e
   .rename_i J;cases e;let(a,L,rfl,N,P,U,X):=f;refine k _ _ (m.Su x N P U ?_ J) (ae.trans s1 (GR x N i));rcases n with n | n
    .refine kJ (λj b q=>?_) n (X.same (cm a _));unfold xt at q;split at q
     .cases q;exact#[L,aV U P]
     .exact u.xq j b q
    .refine X.same λb o q=>?_;have Y:b≠a:=λw=>by subst w;unfold hide at q;rw[Zv rfl] at q;cases q
     refine cB (cm a _ b o q) λj w=>?_;unfold xt at w;grind
   .cases e
  |_=>cases e
end
end Q
namespace Q
open PySem L2 PySem.Spec PyProof.Rows
variable [TB:Tb]
theorem JI(h:fB v=false):Vf [a] v env=pure none:=by
 cases a <;> first | rfl | (cases v <;> first | (cases h;done) | rfl)
theorem P2{c:Prop}[Decidable c]{f:Type}{a b d:f}(h:a=d)(k:¬c->b=d):(if c then a else b)=d:=by simp_all
theorem JJ(h:a.all (Y1 8)):Vf [.Tuple b k p] (.Tuple a c d) env=pure none:=by
 exact P2 rfl λ_=>P2 rfl λ_=>P2 rfl λ_=>(Zv h).trans rfl
def A1(a:Str->Option Wn):Ö->Bool
 |.Name b _=>a b != ↑.local|_=>true
theorem JK(h:ts.any (A1 env.kindOf)=true):Vf [.Tuple ts k p] (.Tuple vs k' p') env=pure none:=by
 have hl:∀ (l:Nat) (ts:Zm),ts.any (A1 env.kindOf)=true->(ts.filterMap fun
   |.Name id pos=>if env.kindOf id == some .local&&pos.line == l then some id else none
   |_=>none).length < ts.length:=by
  intro l ts
  induction ts with
  |nil=>intro h;cases h
  |cons e r ih =>
   intro h;have le:=List.length_filterMap_le (fun
    |.Name id pos=>if env.kindOf id == some .local&&pos.line == l then some id else none
    |_=>none:Ö->Option Str) r
   rw[List.any_cons,Vd] at h;rw[Ud];split
   .rw[Þ];exact _a le
   .rename_i b hb;rcases h with h | h
    .exfalso;cases e with
     |Name id pos =>
      have h':(env.kindOf id != some .local)=true:=h;simp only[bne_iff_ne,ne_eq] at h';simp[h'] at hb
     |_=>cases hb
    .have:=ih h;rw[Þ,Þ];exact _a this
 have:=hl ((ts.head?.map (·.pos.line)).getD 0) ts h;exact P2 rfl λ_=>P2 rfl λ_=>(Zv (by simp only[Vd,bne_iff_ne,ne_eq];exact .inl (Ù this))).trans rfl
theorem fm2{α β:Type}{f:α->Option β}{p q:α}{x y:β}(a:f p=some x)(b:f q=some y):List.filterMap f [p,q]=[x,y]:=by rw[List.filterMap_cons_some a,List.filterMap_cons_some b];rfl
theorem any2{α:Type}{f:α->Bool}{p q:α}(a:f p=false)(b:f q=false):¬[p,q].any f=true:=by rw[List.any_cons,List.any_cons,a,b];exact Bool.false_ne_true
theorem noSt{e:Ö}(h:noStar e=true):(match (generalizing:=false) e with |.Starred ..=>true|_=>false)=false:=by
 cases e <;> first | rfl | cases h
theorem M0{x y:Str}{a b:Ö}{c d pt e:Pos}{k f:Nat}{g:VV}(i:g.blockKind=.function)(j:g.kindOf x=↑.local)(l:g.kindOf y=↑.local)(m:(x == y)=false)(n:(d.line == c.line))
  (o:noStar a) (p:noStar b) (q:[a,b].all (Y1 8)=false) (r:[a,b].all (constantsAlone 8)=false) :
  Vf [.Tuple [.Name x c,.Name y d] k pt] (.Tuple [a,b] f e) g=pure ↑[x,y]:=by
 have s:(g.blockKind != .function)=false:=by rw[i];rfl
 have u:(y == x)=false:=by grind
 have v:([x,y]:List Str).eraseDups.length=2:=by simp[List.eraseDups,List.eraseDupsBy,List.eraseDupsBy.loop,u]
 refine(Zw (by rw[s];exact Bool.false_ne_true)).trans ((Zw (any2 (p:=a) (q:=b) ?_ ?_)).trans ?_)
 .exact noSt o
 .exact noSt p
 .refine(Zw ?_).trans ((Zw (by rw[q];exact Bool.false_ne_true)).trans ((Zw (by rw[r];exact Bool.false_ne_true)).trans (congrArg (λnm=>pure (some nm)) (fm2 ?_ ?_))))
  .rw[fm2 (x:=x) (y:=y),v]
   .exact Bool.false_ne_true
   .show(if (g.kindOf x == some .local&&c.line == c.line)=true then some x else none)=some x;rw[j,beq_self_eq_true,beq_self_eq_true];rfl
   .show(if (g.kindOf y == some .local&&d.line == c.line)=true then some y else none)=some y;rw[l,n,beq_self_eq_true];rfl
  .show(if (g.kindOf x == some .local&&c.line == c.line)=true then some x else none)=some x;rw[j,beq_self_eq_true,beq_self_eq_true];rfl
  .show(if (g.kindOf y == some .local&&d.line == c.line)=true then some y else none)=some y;rw[l,n,beq_self_eq_true];rfl
def pL:Ö->Bool
 |.ListComp ..=>false|.SetComp ..=>false|.DictComp ..=>false|_=>true
theorem dR(h:pL v)(t:Zt):Xd v t n env=pure false:=by
 cases v <;> first | rfl | (cases h)
theorem vz(h:(match a with | .Name ..=>true | _=>false)=false):Xd v ↑a n env=pure false:=by
 cases v <;> first | rfl | (cases a <;> first | rfl | (cases h))
theorem zo{el:Ö}{gs:⇑Comprehension}{sc:ò}{p px:Pos}{t:Str}{n:Nat}{env:VV}:∃ b,Xd (.ListComp el gs sc p) ↑(.Name t px) n env=pure b:=#[_,rfl]
structure XS(lm:Bool)(X:Cx)(G:Gs)(E:XK)(N:⇑Str)(sc:Scope)(cn:⇑Str):Prop extends XI lm X G E N sc where
 sco:X.env.scope=sc
 fnk:sc.kind=.function
 own:PassesOwn (model X.prog X.w) X.A X.env X.xe
 can:rN X E
 fnx:∀ x,X.fn x=true
 cls:∀ c x,cn[c]?=↑x->X.mg x=↑↥(G.cls c)/\PySem.W.excIn X.K (G.cls c) [.type "ValueError",.type "Exception",.type "BaseException",.type "object"] "ValueError.__new__"=true
def cI(a:ò)(x:Str):Bool:=a.names.lookup x == some .local || a.names.lookup x == some .cell
section
variable {lm:Bool}{X:Cx}{G:Gs}{E:XK}{N:Zj}{sc:ò}{cn:Zj}{H0:Hp}{zE:Zl}
theorem XS.loc(x:XS lm X G E N sc cn):B9 X N (cI sc):=by
 refine#[x.hN,x.nd,λy h=>?_,λy _=>.inl (x.fnx y),x.calm];unfold cI at h;rw[Vd,Zy,Zy] at h;rw[x.sco];exact h
theorem XS.bk(x:XS lm X G E N sc cn):X.env.blockKind=.function:=by
 delta Env.blockKind
 rw[x.sco,x.fnk];rfl
theorem PS.imp{a:Uv}{t b:TS}(h:PS X a t)(i:∀ D c H,b D c H->t D c H):PS X a b:=λd s c H D I q=>h d s c H D I (i _ _ _ q)
theorem dM.imp{a:⇑Uv}{t b:TS}(h:dM X a t)(i:∀ D c H,b D c H->t D c H):dM X a b:=λd s c H D I q=>h d s c H D I (i _ _ _ q)
theorem P4:dM X [] (tX X.K G E H0 zE .nil):=dM.imp qB λD a H q=>by
 let(b,c,d,z,r,rw,f,e,g):=q;cases e;exact g b c a H rw f (ae.refl _)
theorem P5(a:PS X b (tX X.K G E H0 zE s))(d:dM X rest (tX X.K G E H0 zE r)):dM X (b::rest) (tX X.K G E H0 zE (.seq s r)):=dM.imp (bz a d) λD f H q=>by
 let(g,h,i,z,j,rw,b,e,k):=q;rcases M.bind_some e with ⟨o,m,n,p⟩ | ⟨c,m,n,p⟩
 .refine#[g,h,i,z,_,rw,b,n,?_];cases o with
  |nx u=>exact λv x y A B C F=>#[v,x,u,m,j,B,C,p,k.mono F]|rt s=>cases p;exact k
 .subst p;exact#[g,h,i,z,_,rw,b,n,k]
theorem GU{p:iD}{D:Ends}(q:tX X.K G E H0 zE (.set p e) D σ H):An (tI X.K G E e) (gP X.K p) D σ H:=by
 let(a,b,c,z,d,rw,f,g,h):=q;refine bU rw.dH f g (h.yj rw) λl i j=>?_;let(s,hs,k):=M.ai j;refine#[s,kG hs,λv m n o r=>?_];let(u,x,y):=M.ai k;cases y;exact zk rw n r x λA B C F=>h a A B m C o F
theorem P6{K:Ã}{i:Nat}:gP K (.v i)=gp i:=rfl
def M1(X:Cx)(G:Gs)(E:XK)(e:Ex)(v:Ö):Prop:=∀ (i:Nat) (y:Str) (a pos:Pos),X.N.Nodup->X.N[i]?=↑y->L2.Loc X.env.scope y->Xd v ↑(.Name y a) pos.line X.env=pure true->(X.fn y=true∨X.env.scope.names.lookup y=↑.local)->PS X (.Assign [.Name y a] v pos) (An (tI X.K G E e) (gp i))
theorem mT.set{elt tg iter:Ö}{ifs:Zm}{bD:ò}{q:Pos}(a:X.calm)(h:mT X G E e elt tg iter ifs bD):M1 X G E e (.ListComp elt [#[tg,iter,ifs,0]] bD q):=λi y b pos c d f g j=>by
 let(own,k,l,m,n,o,p,r,s,u,v,x,z):=h;exact PS.imp (BH c d f g a p r s u v x j) λD A H q=>z _ _ _ q
theorem P7(x:XS lm X G E N sc cn){h pos:Pos}(j:N[i]?=↑y)(k:cI sc y)(g:aw X G E e v)
  (l:∀ m o r q,v=.ListComp m o r q->M1 X G E e v) (s:∀ a b c d,v≠.SetComp a b c d)
  (u:∀ a b c d f,v≠.DictComp a b c d f) :
  PS X (.Assign [.Name y h] v pos) (tX X.K G E H0 zE (.set (.v i) e)):=by
 have L:=x.loc;refine PS.imp (t:=An _ (gp i)) ?_ λD z H q=>by exact GU q
 have A:X.N.Nodup:=by rw[x.hN];exact x.nd
 have B:X.N[i]?=↑y:=by rw[x.hN];exact j
 by_cases C:∃ m o r q,v=.ListComp m o r q
 .let(m,o,r,q,rfl):=C;let(b,F):=zo        ;cases b with
  |false=>exact eO A B (L.lc y k) g.pe F (L.fn y k)|true=>exact l m o r q rfl _ _ _ _ A B (L.lc y k) F (L.fn y k)
 .exact eO A B (L.lc y k) g.pe (dR (by cases v <;> first | rfl | exact absurd rfl (s _ _ _ _) | exact absurd rfl (u _ _ _ _ _) | exact absurd #[_,_,_,_,rfl] C) _) (L.fn y k)
theorem A2(x:XS lm X G E N sc cn){pos:Pos}(a:fi N (cI sc) p b)(g:aw X G E e v)(c:fB b)(d:Vf [b] v X.env=pure none) :
  PS X (.Assign [b] v pos) (tX X.K G E H0 zE (.set p e)):=by
 refine PS.imp (Ez g.pe (sO x.loc a) ?_ d ?_) λD f H q=>GU q
 .exact vz (by cases b <;> first | rfl | (cases c))
 .cases b <;> first | rfl | (cases c)
theorem P8(x:XS lm X G E N sc cn){i j:Nat}{ea eb:Ex}{a b:Ö}{y w:Str}{px py pt e pos:Pos}{k k2:Nat}(hi:N[i]?=↑y)(hj:N[j]?=↑w)(hyw:(y == w)=false)(hy:sc.names.lookup y=↑.local)(f:sc.names.lookup w=↑.local)
  (g:Good X G E (.cons ea (.cons eb .nil)) [a,b]) (hs:Vf [.Tuple [.Name y px,.Name w py] k pt] (.Tuple [a,b] k2 e) X.env=pure ↑[y,w]) :
  PS X (.Assign [.Tuple [.Name y px,.Name w py] k pt] (.Tuple [a,b] k2 e) pos) (tX X.K G E H0 zE (.set (.tup (.cons (.v i) (.cons (.v j) .nil))) (.tup (.cons ea (.cons eb .nil))))):=by
 refine PS.imp (EA x.calm (by rw[x.hN];exact x.nd) (by rw[x.hN];exact hi) (by rw[x.hN];exact hj) (λh=>by grind) (by rw[x.sco];exact hy) (by rw[x.sco];exact f) (g.args rfl).1 hs rfl) λD σ H q=>?_
 let(n,ow,ρ,z,rr,rw,st,ee,po):=q;rcases M.bind_some ee with ⟨l0,z0,o,p⟩ | ⟨c,z1,o,p⟩
 .rcases M.bind_some o with ⟨l,z1,r,A⟩ | ⟨c,z1,r,A⟩
  .let(ds,B,C):=M.ai A;split at C
   .cases C;let(s,F,e6):=M.ai p;cases F;let(ρ',hb,e7):=M.ai e6;cases e7;refine#[n,ρ,z,_,rw.dH,st,r,λvs H1 x1 aO I=>?_];have hd:=jT I B;let(J,r1,s1,L):=xy rw (.d (.tup ds));have r2:=r1.mono x1;have:=xw (by
     exact hb)  r2 (by
     rcases L with L | L
     .exact kJ r2.xq (by simpa [kC,bare] using L) hd
     .have :=funext L;subst this;rw[eT];exact hd) λY σ' r' sm=>po n Y σ' H1 r' aO (ae.trans s1 (ae.trans (aZ x1) sm));unfold gL at this;let(v,vr,rfl,this):=this;unfold gP gL at this;let(u,ur,rfl,this):=this
    delta gP gL at this
    let(rfl,this):=this;exact#[v,u,rfl,this]
   .cases C
  .cases A
 .subst p;rcases M.bind_some o with ⟨l,z2,r,A⟩ | ⟨c,z2,r,A⟩
  .let(ds,B,C):=M.ai A;split at C <;> cases C
  .cases A;exact#[n,ρ,z,_,rw.dH,st,r,po.KY rw]
theorem GV{s t:S}(h:KO s=↑t):s=t/\t≠.z:=by
 cases s with
 |z=>cases h
 |d _=>cases h;grind
 |fr _=>cases h;grind
theorem M3(x:XS lm X G E N sc cn){p pos:Pos}(a:N[i]?=↑n)(b:az n):PS X (.Return ↑(.Name n p) pos) (tX X.K G E H0 zE (.ret (.var i))):=by
 delta az at b
 simp only[Á,ç] at b;refine PS.imp (oU (cg  (by rw[x.hN];exact a) (x.vis n (Û a)) b.1 b.2)) λD c H q=>?_
 let(d,e,f,z,g,rw,h,j,k):=q;have l:(match f[i]? with | ↑↑s=>Zd _ _ | _=>Zg) z=↑g:=j
 cases hs:f[i]? with
 |none=>rw[hs] at l;cases l
 |some o =>
  cases o with
  |none=>rw[hs] at l;cases l
  |some s =>
   rw[hs] at l;let(t,m,r):=M.ai l;cases r;let(rfl,u):=GV m;let(v,y,A):=rw.Sr u hs;exact#[v,y,k v H u rw.ext (zi rw.zok h) A]
theorem P9{pos:Pos}(a:∀ i,e≠.var i)(g:aw X G E e v):PS X (.Return ↑v pos) (tX X.K G E H0 zE (.ret e)):=by
 refine PS.imp (oU g.pe) λD b H q=>?_;let(c,d,f,z,h,rw,j,k,m):=q;refine bU rw.dH j (by
  cases e <;> first | exact k | exact absurd rfl (a _):Zd _ (λl=>Zd (Zf ((one l).bind KO)) _) z=↑h) (m.yj rw) λl o p=>?_;let(t,r,u):=M.ai p;cases u;let(s,hs,x):=Ê.mp r;let(rfl,y):=GV x;exact#[s,kG hs,λv A B C I=>m v A y (sU rw.ext rw.zok B) (zi rw.zok C) (rw.out y B I)]
theorem Sv{t u:Sm}{pos:Pos}(g:aw X G E c ce)(d:∀ t a b p,ce≠.IfExp t a b p)(e:dM X a (tX X.K G E H0 zE t))(f:dM X b (tX X.K G E H0 zE u)) :
  PS X (.If ce a b pos) (tX X.K G E H0 zE (.iff c t u)):=by
 refine PS.imp (Bs (g.pt d) e f) λD h H q=>?_;let(i,j,k,z,l,rw,m,n,o):=q;refine oj rw.dH m n (o.yj rw) λb r s v x y=>?_;have A:=rw.mono x;have B:ae (hw j (hz i H)) (hw j (hz i v)):=aZ x;cases b with
 |true=>exact#[i,j,k,r,l,A,y,s,o.mono B]|false=>exact#[i,j,k,r,l,A,y,s,o.mono B]
theorem Qa{pos:Pos}(g:aw X G E e v)(h:pL v):PS X (.Expr v pos) (tX X.K G E H0 zE (.exp e)):=by
 refine PS.imp (lJ g.pe (dR h none)) λD a H q=>?_;let(b,c,d,z,f,rw,i,j,k):=q;refine bU rw.dH i j (k.yj rw) λl n o=>?_;let(s,hs,p):=M.ai o;cases p;exact#[s,kG hs,λv r u x y=>k b c a r (rw.mono u) x (aZ u)]
def JL:Bi->Xw->Bool
 |.mul,.Mult=>true|.add,.Add=>true|_,_=>false
theorem M4(h:JL o op):Oh X op λx y H Q=>∃ i j k,x= ~~~i/\y= ~~~j/\eR o (~~~i) (~~~j)=↑(.d (~~~k))/\Q (~~~k) H:=by
 intro a s b H x y v u Q I c f q;let(i,j,k,rfl,rfl,e,q):=q;let(t,rfl):=c;let(g,rfl):=f;cases o <;> cases op <;> first | (cases h;done) | skip
 .cases e;exact iadd_int #[~~~_,H,I.tok _,#[_,rfl],q]
 .let(l,e):=bC e;cases e;exact imul_int #[~~~_,H,I.tok _,#[_,rfl],q] (F3 l.1 l.2)
theorem JM{o:Bi}{a:Xw}(h:JL o a){i j:Int}{s:S}(e:eR o (~~~i) (~~~j)=↑s):∃ k,s=.d (~~~k):=by
 cases o <;> cases a <;> first | (cases h;done) | skip
 .cases e;exact#[_,rfl]
 .let(_,e):=bC e;cases e;exact#[_,rfl]
theorem zq(h:wL d=↑i):d= ~~~i:=by cases d <;> first | (cases h;rfl) | (cases h)
theorem Qb(x:XS lm X G E N sc cn){i:Nat}{a pos:Pos}(b:N[i]?=↑y)(c:cI sc y)(f:JL o op)(g:aw X G E e v):PS X (.AugAssign (.Name y a) op v pos) (tX X.K G E H0 zE (.aug o i e)):=by
 have L:=x.loc;refine PS.imp (Lp  (by rw[x.hN];exact x.nd) (by rw[x.hN];exact b) (L.lc y c) g.pe (M4 f) (L.fn y c)) λD σ H q=>?_
 let(j,ow,m,z,rr,rw,st,ee,n):=q;let(yd,p,e1):=M.ai ee;let(s0,r,p):=Ê.mp p;let(w,k1,k2):=rw.wor i s0 (by
  cases h:m[i]? with
  |none=>rw[h] at r;cases r
  |some w=>rw[h] at r;subst r;rfl);refine#[w,k1,?_];refine bU rw.dH st e1 (n.yj rw) λl z1 e2=>?_;let(s,hx,e3):=M.ai e2;let(dx,A,B):=Ê.mp hx;let(s1,rfl,C):=bJ A;cases zq B;refine#[s1,rfl,λu F x1 aO rv=>?_];let(s2,I,e4):=M.ai e3;let(J,P,I):=Ê.mp I;cases zq P;let(k,rfl):=JM f I;have hw:=by
  cases s0 with
  |d x=>cases p;exact(show Hd X.K (hw ow (hz j H)) (~~~J) w from k2.2).bK
  |_=>cases p
 refine#[J,s,k,hw,(show Hd X.K (hz j F) (~~~s) u from rv.pl.d_ C).bK,I,?_];let(ρ',hp,e5):=M.ai e4;cases e5;have:=zk (R:=λU H'=>D.nx U H') rw x1 eA hp λY U r' sm=>n j Y U F r' aO sm;rw[P6] at this;exact this
theorem x_raise(x:XS lm X G E N sc cn){a p2 b d:Pos}(f:cn[c]?=↑n)(g:glob sc n):PS X (.Raise ↑(.Call (.Name n a) [.Constant (.str y) k p2] [] b) none d) (tX X.K G E H0 zE (.rais c)):=by
 let(h,i,_):=bu g;let(j,l):=x.cls c n f;refine PS.imp (Fo x.can x.calm (x.glb n h) j l (bA Ep cM) i rfl rfl) λD m H q=>?_;let(o,p,r,z,s,rw,u,v,A):=q;cases v;exact#[by show 1<=sizeLine;decide,λe B=>A e H rw.ext (zi rw.zok u) B]
end
section
variable {K:Ã}{H0 H H':Hp}{zE zA:Zl}{ow:Nat->Zl}{ρ:Env}{σ:L2.St}
theorem eh(e:iQ ow i j=↑a):j≠i/\ow j=↑a:=by
 delta iQ at e
 simp_all
theorem ou:iQ ow i i=none:=Zv rfl
theorem A3(h:j≠i):iQ ow i j=ow j:=Zw h
theorem GW{ρ:Env}{j:Nat}{s:S}(h:(qa ρ)[j]?=↑↑s):ρ[j]?=↑↑s/\s≠.z:=by
 unfold qa at h;rw[Ú] at h;let(o,a,b):=Ë.mp h;cases o with
 |none=>cases b
 |some t =>
  cases t with
  |z=>cases b
  |d x=>cases b;exact#[a,λh=>nomatch h]
  |fr x=>cases b;exact#[a,λh=>nomatch h]
theorem JN{j:Nat}(h:ρ[j]?=↑↑(.fr xs)):(qa ρ)[j]?=↑↑(.fr xs):=by
 delta qa
 rw[Ú,h];rfl
theorem RW.Qc(r:RW K H0 none zA ow H ρ σ){i:Nat}(x:Ext zA H H')(c:H a=none)(f:zA≠some a)(g:H' a=some (.lst h)) :
  RW K H0 none (some a) (iQ ow i) H' ((qa ρ).set i (some .z)) (σ.set i (some (.ref a)))/\ae (hw ow (hz zA H)) (hw (iQ ow i) (hz (some a) H')):=by
 have l:=r.mono x;have m:∀ j b,ow j=some b->b≠a:=λj b e q=>by
  let(p,u):=r.lst j b e;rw[q,c] at u;cases u
 have v:ae (hw ow (hz zA H)) (hw (iQ ow i) (hz (some a) H')):=λb o e=>by
  let(A,B):=fY e;have C:b≠a:=λq=>by
   have E:H b=some o:=(bZ A).1;rw[q,c] at E;cases E
  exact cB (aV (bZ (x b o A)).1 (λq=>by cases q;exact C rfl) (ck A)) λj q=>B j (eh q).2
 have F:(qa ρ).length=ρ.length:=by unfold qa;rw[Æ]
 refine#[#[by rw[ô,ô,F];exact r.len,λj k b u G=>r.inj j k b (eh u).2 (eh G).2,λj b u q=>?_,λj b u=>?_,λj s e=>?_,l.ext,.inr #[rfl,λb q=>?_],λj b u=>r.new j b (eh u).2],v]
 .cases q;exact m j _ (eh u).2 rfl
 .let(n,G):=eh u;let(I,J):=r.own j b G;exact#[I,by rw[Ï (ñ n)];exact JN J]
 .rcases getElem?_set' e with ⟨rfl,A,L⟩ | ⟨n,A⟩
  .cases A;exact#[.ref a,Ø (by rw[<-r.len,<-F];exact L),ou,a,rfl,rfl]
  .let(A,N):=GW A;let(w,u,G):=r.wor j s A;refine#[w,by rw[Ï (ñ n)];exact u,?_]
   cases s with
   |d y=>exact#[by rw[A3 n];exact G.1,G.2.same v]|z=>exact absurd rfl N
   |fr I =>
    let(b,p,P,rfl,U,X):=G;exact#[b,p,by rw[A3 n];exact P,rfl,x.at U (r.zne j b P),X.same v]
 .cases q;exact(r.young c f).1
theorem RW.plain(r:RW K H0 zE zA ow H ρ σ)(i:Nat):RW K H0 zE zA (iQ ow i) H (ρ.set i ((ρ[i]?.getD none).map n5)) σ:=by
 have a:=eU (H:=hz zA H) ow i;refine#[by rw[ô];exact r.len,λj k b c f=>r.inj j k b (eh c).2 (eh f).2,λj b c=>r.zne j b (eh c).2,λj b c=>?_,λj s e=>?_,r.ext,r.zok,λj b c=>r.new j b (eh c).2]
 .let(n,f):=eh c;let(g,h):=r.own j b f;exact#[g,by rw[Ï (ñ n)];exact h]
 .rcases getElem?_set' e with ⟨rfl,l,m⟩ | ⟨n,l⟩
  .cases hs:ρ[j]? with
   |none=>rw[hs] at l;cases l
   |some o =>
    rw[hs] at l;cases o with
    |none=>cases l
    |some s0 =>
     cases l;let(w,c,f):=r.wor j s0 hs;refine#[w,c,?_];cases s0 with
     |d y=>exact#[ou,f.2.same a]|z=>exact#[ou,f.2]
     |fr g =>
      let(b,p,u,rfl,v,x):=f;refine#[ou,Hd.lst (cB (aV v (r.zne j b u)) λk q=>?_) (x.same a)];let(A,B):=eh q;exact A (r.inj k j b B u)
  .let(w,c,f):=r.wor j s l;exact#[w,c,f.move (A3 n) a λ_ _=>rfl]
end
theorem aN.eraseIdx{K:Ã}{H:Hp}:∀ {ds:⇑D}{a:⇑V} (n:Nat),aN K H ds a->aN K H (ds.eraseIdx n) (a.eraseIdx n)
 |[],_,n,h=>by rw[h.bR];exact .nil
 |d::ds,_,0,h=>by
  let(x,r,rfl,b,c):=h.aU;exact c
 |d::ds,_,n + 1,h=>by
  let(x,r,rfl,b,c):=h.aU;exact .cons b (aN.eraseIdx n c)
section
variable {lm:Bool}{X:Cx}{G:Gs}{E:XK}{N:Zj}{sc:ò}{cn:Zj}{H0:Hp}{zE:Zl}
theorem Cp{b c:Type}{R:b->c->Prop}{a:b}{d:⇑c}(h:UJ R [a] d):∃ v,d=[v]/\R a v:=by
 cases h with
 |cons e f=>cases f;exact#[_,rfl,e]
theorem aF.ag(c:aF d z H)(n:d≠some a)(h:H a=some (.lst xs)):aF d z (upd H a o):=by
 refine#[?_,λp e=>Tab.upd (c.tab p e) h];have c:=c.zat;cases d with
 |none=>cases z <;> exact c
 |some b =>
  cases z with
  |none=>exact c
  |some p =>
   have f:b≠a:=λq=>n (by rw[q])
   exact(L2.ag f).trans c
theorem A4(h:ownAt a i=↑xs):a[i]?=↑↑(.fr xs):=by
 delta ownAt at h
 split at h
 .simp_all
 .cases h
theorem qd{K:Ã}{a:Zl}{H0 H:Hp}{s:S}{v:V}{x:D}(h:my K a H0 H s v)(e:FK s=↑x):Hd K (hz a H) x v:=h.pl.d_ e
theorem Qd(x:XS lm X G E N sc cn){p d j pos:Pos}(h1:N[i]?=↑n)(k:az n)(ns:noStar v)(g:aw X G E e v)(hl:(d.endLine == j.line)) :
  PS X (.Expr (.Call (.Attribute (.Name n p) "append" d) [v] [] j) pos) (tX X.K G E H0 zE (.app i e)):=by
 delta az at k
 simp only[Á,ç] at k;have ga:Good X G E (.cons e .nil) [v]:=#[v,[],rfl,ns,g,rfl,rfl];have hs:=bF ns [] X.env;refine PS.imp (lJ (uO VS VM VL iW (cg  (by rw[x.hN];exact h1) (x.vis n (Û h1)) k.1 k.2) (ga.args rfl).1 rfl (by rw[hs];rfl) hl hs rfl) (dR rfl none)) λD σ H q=>?_
 let(o,ow,r,z,A,rw,st,ee,B):=q;let(C,hx,e1):=M.ai ee;let(w,k1,a,ys,I,rfl,k3,k4):=rw.wor i _ (A4 hx);refine#[_,k1,.inl #[rfl,ys,gU.of k3],?_];have e2:Zd (ev G.F (.cons e .nil) r) (λm=>Zd (Zf (pl m)) λx=>if bare x=true/\C.length < most then Ze (O.nx (r.set i ↑(.fr (C++[x])))) else Zg) z=↑A∨∃ c J,ev G.F e r z=↑(.er c J)/\A=.er c J:=by
  rcases M.bind_some e1 with ⟨l,J,L,e4⟩ | ⟨c,J,L,e4⟩
  .let(y,hy,P):=M.ai e4;let(s,rfl,hs):=bJ hy;refine .inl ?_;show Zd (Zd _ _) _ z=↑A;have b:∀ {α β:Type}{m:M α}{f:α->M β}{z:Z}{a:α}{J:Z},m z=↑(.ok a J)->Zd m f z=f a J:=λh=>by delta Zd;rw[h]
   rw[b   (by rw[b L];rfl)]
   simp_all
  .exact .inr #[c,J,L,e4]
 rcases e2 with e2 | ⟨c,J,L,rfl⟩
 .refine oi rw.dH st e2 (B.yj rw) λl J L vs H1 U aO rvs=>?_;let(y,hy,P):=M.ai L;let(s,rfl,hs):=bJ hy;split at P
  .rename_i hb;cases P;let(u,rfl,ru):=Cp rvs;have r1:=rw.mono U;have Y:=U.at k3 (rw.zne i a I);have k4':aN X.K (hw ow (hz o H1)) C ys:=k4.same (aZ U);have hd:=oq r1.xq hb.1 (qd ru hs);refine#[a,ys,u,rfl,rfl,Y,Ò (by rw[k4.length];exact hb.2) (dG (Î _)),?_]
   refine B o ow σ _ (r1.upd I (k4'.append (.cons hd .nil))) ?_ (ae.trans (aZ U) (xv I));exact aO.ag (rw.zne i a I) Y
  .cases P
 .refine#[o,r,z,.er c J,rw.dH,st,?_,B.KY rw];show Zd (ev G.F e r) _ z=_;simp only[Zd,L]
theorem GY:Lq X (EN X.K):=by
 intro a s b H x y v u Q I c d h;let(p,e,i,z,rfl,rfl,f,g,q):=h;subst c;let(t,rfl):=d;let(k,r,pl,hz):=I.list f;let(j,l,m,n,o,A):=nG g;let(w,B,C):=r.get m;have F:=r.length;have J:=ka;by_cases L:0<=i
 .have P :=by
   rw[Xf L A] at l;exact í l
  exact wpAny_getItem_list pl.isList L ∅ (by rw[P];simpa using B) #[z,H,I,C,q]
 .have P:(i + (k.toArray.size:Int)).toNat=j:=by
   rw[seqIndex_neg ∅ o] at l
   simp_all
  exact Xr pl.isList ∅ (by simp_all) ∅ (by rw[P];simpa using B) #[z,H,I,C,q]
theorem M5(x:XS lm X G E N sc cn){v w:Ö}{p tp pos:Pos}(h1:N[i]?=↑n)(c:az n)(g:aw X G E e v)(gi:aw X G E ix w)(d:hJ w) :
  PS X (.AugAssign (.Subscript (.Name n p) w tp) .Add v pos) (tX X.K G E H0 zE (.augi i ix e)):=by
 delta az at c
 simp only[Á,ç] at c;refine PS.imp (Ir (cg  (by rw[x.hN];exact h1) (x.vis n (Û h1)) c.1 c.2) gi.pe GY g.pe Lr set_list (by intros;cases w <;> first | rfl | (cases d))) λD σ H q=>?_
 let(f,h,ρ,z,rr,rw,st,ee,k):=q;let(xs,hx,e1):=M.ai ee;let(w',k1,a,o,r,rfl,k3,s):=rw.wor i _ (A4 hx);refine#[_,k1,?_];refine bU rw.dH st e1 (k.yj rw) λl z1 e2=>?_;let(j,hj,e3):=M.ai e2;let(dj,u,A):=Ê.mp hj;let(s1,rfl,B):=bJ u;refine#[s1,rfl,λu1 H1 C aO F=>?_];have I :=by
  have:=qd F B;cases zq A;exact this.bK
 let(y,hy,e4):=M.ai e3;have J:=rw.mono C;have L:=C.at k3 (rw.zne i a r);let(b,U,hb2):=at_of (s.same (aZ C):aN X.K (hw h (hz f H1)) xs o) hy;refine#[a,o,j,b,rfl,I,gU.of L,U,?_];refine bU J.dH aO e4 (k.yj J) λl2 z2 e5=>?_;let(dx,hx',e6):=M.ai e5;let(s2,rfl,hs2):=bJ hx';refine#[s2,rfl,λu2 H2 Y st2 rv2=>?_];let(nv,hv,e7):=M.ai e6;let(xi,hxi,hv):=Ê.mp hv;let(yi,hyi,rfl):=Ë.mp hv;cases zq hxi;cases zq hyi;refine#[yi,xi,hb2.bK,(qd rv2 hs2).bK,?_];let(xs2,hx2,e8):=M.ai e7;cases e8;let(m,hm1,rfl):=Ë.mp hx2;have r2:=J.mono Y;have k4':aN X.K (hw h (hz f H2)) xs o:=s.same (aZ (C.trans Y));refine#[a,o,j,m,rfl,I,Y.at L (rw.zne i a r),by rw[s.length];exact hm1,?_]
 exact k f h σ _ (r2.upd r (k4'.set m Hd.int)) (st2.ag (rw.zne i a r) (Y.at L (rw.zne i a r))) (ae.trans (aZ (C.trans Y)) (xv r))
theorem M6(x:XS lm X G E N sc cn){i f:Nat}{as:Ex}{y:Str}{v:Ö}{b pos:Pos}(c:N[i]?=↑y)(d:cI sc y)(g:aw X G E (.call f as) v)(e:pL v) :
  PS X (.Assign [.Name y b] v pos) (tX X.K G E H0 zE (.newz i f as)):=by
 have L:=x.loc;refine PS.imp (eO  (by rw[x.hN];exact x.nd) (by rw[x.hN];exact c) (L.lc y d) g.pe (dR e _) (L.fn y d)) λD σ H q=>?_
 let(zA,ow,ρ,z,rr,rw,h,j,k):=q;refine bU rw.dH h j (k.yj rw) λl z1 m=>?_;have n :=m;unfold u0 at n;split at n
 .split at n
  .cases n;have o:zE=none:=by simp_all
   subst o;refine#[_,rfl,λu p r s A=>?_];let(a,ys,rfl,B,C,F,I):=A;let(v1,v2,rfl,J,P):=I.two;cases J.bK;cases P.yV;let(U,Y):=rw.Qc  r B C F;exact k _ _ _ p U #[F,s.tab] Y
  .cases n
 .cases n
set_option tactic.hygienic true in
theorem M7(x:XS lm X G E N sc cn){i:Nat}{n:Str}{e:Ex}{v:Ö}{c:Nat}{p q d pos:Pos}(f:N[i]?=some n)(j:az n)(g:aw X G E e v) :
  PS X (.Assign [.Subscript (.Name n p) (.Constant (.int 0) c q) d] v pos) (tX X.K G E H0 zE (.zset i e)):=by
 delta az at j
 simp only[Á,ç] at j;refine PS.imp (Ez g.pe (Lo (cg  (by rw[x.hN];exact f) (x.vis n (Û f)) j.1 j.2) qY set_list (by intro u;rfl)) (show Xd v (some (.Subscript (.Name n p) (.Constant (.int 0) c q) d)) pos.line X.env=pure false from vz rfl) (rfl)) λD k H q=>?_
 let(zA,ow,ρ,z,rr,rw,st,ee,m):=q;refine bU rw.dH st ee (m.yj rw) λl z1 e1=>?_;let(y,hy,e2):=M.ai e1;let(dy,r,A):=Ê.mp hy;let(s,rfl,hs):=bJ r;refine#[s,rfl,λu B C F rv=>?_];have I :=e2;unfold BX at I;split at I
 .rename_i p' J;cases I;have L:=rw.mono C;let(w,k1,k2,a,rfl,rfl):=L.wor i .z J;have hu:u=.int y:=by
   have:=qd rv hs;cases dy <;> first | (cases A;exact this.bK) | (cases A)
  subst hu;have P :=F.zat;refine#[_,k1,a,_,0,0,rfl,rfl,P,rfl,?_];have U:Ext (some a) B (upd B a (.lst [.int y,.bl p'.2])):=by
   refine#[λb o h=>?_,λb ps h=>#[ps,by rw[ag (λz=>by rw[z,P] at h;cases h)];exact h]]
   let(h3,Y):=bZ h;exact aV (by rw[ag (λz=>Y (by rw[z]))];exact h3) Y (ck h)
  exact m (some a) ow k _ (L.mono U) #[ao,λp hp=>Tab.upd (F.tab p hp) P] (ae.trans (aZ C.same) (aZ U.same))
 .cases I
theorem Qe(x:XS lm X G E N sc cn){c:Ex}{b:Sm}{d:Ö}{e:⇑Uv}{pos:Pos}(g:aw X G E c d)(hn:∀ t a b p,d≠.IfExp t a b p)(hb:dM X e (tX X.K G E H0 zE b)):PS X (.While d e [] pos) (tX X.K G E H0 zE (.whl c b)):=by
 refine PS.imp (EB x.own (g.pt hn) hb) λD f H q=>?_;let(i,j,l,z,n,rw,u,v,y):=q;refine#[λm f H=>∃ i j l z r,RW X.K H0 zE i j H l f/\aF i z H/\DD _ _ m l z=↑r/\fj X.K G E H0 zE (hw j (hz i H)) D r,#[DE,i,j,l,z,n,rw,u,v,y],?_];rintro m f H ⟨i,j,l,z,n,rw,u,v,y⟩;cases m with
 |zero=>cases v
 |succ m =>
  refine oj rw.dH u v (y.yj rw) λk z1 e1 H1 x1 A=>?_;have B:=rw.mono x1;have sm:ae (hw j (hz i H)) (hw j (hz i H1)):=aZ x1;cases k with
  |false =>
   cases e1;exact y i j f H1 B A sm
  |true =>
   refine#[_,λC H' h=>#[m,Vs m,h],?_];rcases M.bind_some e1 with ⟨o,z2,F,I⟩ | ⟨k,z2,F,I⟩
   .refine#[i,j,l,z1,_,B,A,F,?_];cases o with
    |nx J=>exact λL P C H' U Y sm'=>#[L,P,J,z2,n,U,Y,I,y.mono (ae.trans sm sm')]|rt s=>cases I;exact y
   .subst I;exact#[i,j,l,z1,_,B,A,F,y]
end
section
variable {K:Ã}{H0 H H':Hp}{zE zA:Zl}{ow:Nat->Zl}{ρ:Env}{σ:L2.St}
theorem RW.Qf(r:RW K H0 zE zA ow H ρ σ):RW K H0 zE zA (iQ ow i) H (ρ.set i none) (σ.set i ↑v):=by
 have sub:∀ j a,iQ ow i j=↑a->j≠i/\ow j=↑a:=λj a e=>by
  delta iQ at e
  simp_all
 refine#[by rw[ô,ô];exact r.len,λj k a b c=>r.inj j k a (sub j a b).2 (sub k a c).2,λj a b=>r.zne j a (sub j a b).2,λj a b=>?_,λj s e=>?_,r.ext,r.zok,λj a b=>r.new j a (sub j a b).2]
 .let(n,c):=sub j a b;let(d,f):=r.own j a c;exact#[d,by rw[Ï (ñ n)];exact f]
 .rcases getElem?_set' e with ⟨rfl,g,h⟩ | ⟨n,g⟩
  .cases g
  .let(w,b,c):=r.wor j s g;exact#[w,by rw[Ï (ñ n)];exact b,c.move (by exact Zw n) (eU _ _) λ_ _=>rfl]
end
section
variable {lm:Bool}{X:Cx}{G:Gs}{E:XK}{N:Zj}{sc:ò}{cn:Zj}{H0:Hp}{zE:Zl}{c P:È}{q:Str}{k:Nat}{fR:È}{fdR:UA}
inductive LB (X:Cx) (G:Gs) (N:⇑Str) (sc:Scope) (H0:Hp) (zE:Option Addr) (q:Str) (i:Nat) (done:⇑(⇑Nat × Ex)) (Rn:Env->Z->Prop) (B:Hp) (σ:L2.St) (H:Hp):Prop where
 |mk (zA ow ρ z Ld ts Hb) (h0_:RW X.K H0 zE zA ow Hb ρ σ) (h1_:Hb Ld=none) (h2_:Ext zA Hb H) (h3_:ae B (hw ow (hz zA Hb))) (h4_:aF zA z H) (h5_:σ[i]?=↑↑↥Ld) (h6_:H Ld=↑(.lst (ts.map λt=>↥t.f))) (h7_:zA≠↑Ld) (h8_:Paired (vt X G N sc q H) ts done) (h9_:Rn ρ z):LB X G N sc H0 zE q i done Rn B σ H
inductive LC (X:Cx) (G:Gs) (N:⇑Str) (sc:Scope) (H0:Hp) (zE:Option Addr) (q:Str) (i:Nat) (all:⇑(⇑Nat × Ex)) (Rn:Env->Z->Prop) (B:Hp) (σ:L2.St) (H:Hp):Prop where
 |mk (zA ow ρ z Ld ts) (h0_:RW X.K H0 zE zA ow H ρ σ) (h1_:ae B (hw ow (hz zA H))) (h2_:aF zA z H) (h3_:σ[i]?=↑↑↥Ld) (h4_:H Ld=↑(.lst (ts.map λt=>↥t.f))) (h5_:zA≠↑Ld) (h6_:Paired (vt X G N sc q H) ts all) (h7_:Rn ρ z):LC X G N sc H0 zE q i all Rn B σ H
theorem LB.lc(h:LB X G N sc H0 zE q i all Rn B σ H):LC X G N sc H0 zE q i all Rn B σ H:=by
 let(a,b,d,z,e,f,g,rw,j,l,sb,m,n,o,p,pr,run):=h;exact#[a,b,d,z,e,f,rw.mono l,ae.trans sb (aZ l.same),m,n,o,p,pr,run]
theorem zr(h:qt X q H t)(a:H b=↑(.lst d)):qt X q (upd H b o) t :=
 #[h.form,by rw[ag (λz=>by have:=h.fn;simp_all)];exact h.fn,by rw[ag (λz=>by have:=h.rc;grind)];exact h.rc,h.cl1,h.cl2]
theorem JO(x:Ext a d H)(n:d f=none):Ext a d (upd H f o):=by
 refine#[λb u e=>?_,λb g e=>?_]
 .let(i,j):=bZ e;refine aV ?_ j (ck e);rw[ag (ax i n)];exact(bZ (x.same b u e)).1
 .let(l,h):=x.cK b g e;exact#[l,by rw[ag (ax e n)];exact h]
theorem M8(L:fX X G sc c P q k fR fdR)(hs:i8 a sc (ay N b)):QY X a ((ay N b).map (·.1)):=by
 unfold i8 at hs;refine BB.b7 hs λs1 d e f g h i=>?_;simp only[ç,Zy,Uq,Zx] at s1 d e f g h i;refine#[λy j l=>?_,λy j=>by simpa using f y j,λy j=>?_,s1,d,e]
 .have:=g y j;rw[l] at this;unfold Env.kindOf;rw[L.sco];simpa using this
 .let(pr,m,rfl):=Ð.mp j;exact h pr m
theorem Cq(h:qt X q H t)(x:Ext b H d)(e:∀ {a:È}{p:ö->Prop},H a=↑(.ext p)->b≠↑a):qt X q d t:=#[h.form,x.at h.fn (e h.fn),x.at h.rc (e h.rc),h.cl1,h.cl2]
theorem GZ(b:aF d z H)(h:H a=↑(.ext p)):d≠↑a:=λe=>by
 subst e;have:=b.zat;cases z with
 |none=>exact this.elim
 |some pr =>
  have f:H a=↑_:=this;rw[h] at f;cases f
theorem zu(L:fX X G sc c P q k fR fdR)(f:GN G N sc b a d body):PE X (.Lambda noArgs body d e) (λg H Q=>∃ h z,aF h z H/\∀ t i,t.bj=d->t.body=body->vt X G N sc q i t (b,a)->Ext h H i->aF h z i->H t.f=none->Q ↥t.f i):=by
 have j:=M8  L f.hs;refine PE.imp (L8  L.code L.hd L.qual rfl L.bm j.hfr) λg H Q l=>?_;let(h,z,m,n):=l;have o:=m.tab _ L.tb;refine#[o,λp r s u v i x y A B C F I=>?_];exact n #[r,s,p,u,v,d,body,_] i rfl rfl #[#[j,F,I,x,y],rfl,f] (sS B o A) (xn B o A L.uq m) C
theorem zw{a b:Type}{R:a->b->Prop}{x:a}{y:b}(r:R x y):∀ {d:⇑a}{e:⇑b},UJ R d e->UJ R (d++[x]) (e++[y])
 |_,_,.nil=>.cons r .nil|_,_,.cons h t=>.cons h (zw r t)
theorem A5(e:aF f z H)(x:Ext f H g)(h:UJ (vt X G N sc q H) i ls):UJ (vt X G N sc q g) i ls:=UJ.Aj h λ_ _ #[a,b,d]=>#[Cq a x λh=>GZ e h,b,d]
theorem M9(x:XS lm X G E N sc cn)(L:fX X G sc c P q k fR fdR){b d p pos:Pos}(e:N[i]?=↑y)(g:cI sc y)(f:GN G N sc j a l body){Rn:Env->Z->R O->Prop} :
  PS X (.Assign [.Name y p] (.List [.Lambda noArgs body l b] d) pos) (λD m H=>∃ n o r z s,RW X.K H0 zE n o H r m/\aF n z H/\i < r.length/\Rn (r.set i none) z s/\∀ u v,LB X G N sc H0 zE q i [(j,a)] (λr z=>Rn r z s) (hw o (hz n H)) u v->D.nx u v):=by
 have A:=x.loc;refine PS.imp (eO (by rw[x.hN];exact x.nd) (by rw[x.hN];exact e) (A.lc y g) (oW (bA (zu L f) cM)) rfl (A.fn y g)) λD m H B=>?_
 let(n,o,r,z,s,rw,C,F,run,po):=B;refine#[n,z,C,λt H2 _ _ lt I J nf=>#[by show 1<=sizeLine;decide,λp U=>?_]]
 exact po _ _ #[n,_,_,z,p,[t],H2,(rw.mono I).Qf ,U,Ext.of (ae.new _ U),ae.trans (aZ I) (eU _ _),J.same (ae.new _ U),Ø (by rw[<-rw.len];exact F),ao,J.mR U,.cons #[Cq lt.1 (Ext.of (ae.new _ U)) λh=>GZ J h,lt.2] .nil,run]
theorem G0(x:XS lm X G E N sc cn)(L:fX X G sc c P q k fR fdR){b p d e pos:Pos}(g:N[i]?=some y)(h:az y)(hl:(d.endLine == e.line))(f:GN G N sc aj a bj body){done:List (Zh × Ex)}{Rn:Env->Z->R O->Prop}(hd:done.length < 1000) :
  PS X (.Expr (.Call (.Attribute (.Name y p) "append" d) [.Lambda noArgs body bj b] [] e) pos) (λD j H=>∃ B l,LB X G N sc H0 zE q i done (λm z=>Rn m z l) B j H/\∀ n o,LB X G N sc H0 zE q i (done++[(aj,a)]) (λm z=>Rn m z l) B n o->D.nx n o):=by
 unfold az at h;simp only[Á,ç] at h;refine PS.imp (lJ (uO VS VM VL iW (cg  (by rw[x.hN];exact g) (x.vis y (Û g)) h.1 h.2) (bA (zu L f) cM) rfl rfl hl rfl rfl) (dR rfl none)) λD j H qq=>?_
 obtain⟨B,l,⟨r,ow,m,z,s,ts,Hb,rw,A,xb,sb,C,F,I,J,pr,run⟩,po⟩:=qq;refine#[_,F,.inl #[rfl,_,gU.of I],r,z,C,λt H2 _ _ lt K U nf=>?_];have Y:=K.at I J;refine#[s,_,_,rfl,rfl,Y,?_,?_]
 .rw[Æ,pr.length];exact Ò hd (-0)
 .refine po _ _ #[r,ow,m,z,s,_,Hb,rw,A,JO (xb.trans K) A,sb,U.ag J Y,F,?_,J,zw #[zr lt.1 Y,lt.2] (UJ.Aj (A5 C K pr) λ_ _ #[u,v]=>#[zr u Y,v]),run];rw[Um];exact ao
inductive JP (X:Cx) (G:Gs) (E:XK) (N:⇑Str) (sc:Scope) (H0:Hp) (zE:Option Addr) (q:Str) (i:Nat) (all:⇑(⇑Nat × Ex)) (Rn:Env->Z->R O->Prop) (D:Ends) (σ:L2.St) (H:Hp):Prop where
 |mk (B rr) (h0_:LC X G N sc H0 zE q i all (λρ z=>Rn ρ z rr) B σ H) (h1_:fj X.K G E H0 zE B D rr):JP X G E N sc H0 zE q i all Rn D σ H
abbrev G2(F:FT)(a:Bool)(all:⇑(Zh × Ex))(e:Ex)(t r:Sm)(b:Env)(z:Z)(d:R O):Prop:=mx F all e (ex F a t) (ex F a r) b z=↑d
set_option tactic.hygienic true in
theorem G3(L:fX X G sc c P q k fR fdR){i:Nat}{all:⇑(Zh × Ex)}{e:Ex}{t r:Sm}{f:L2.St}{H:Hp}{D:Ends}{B:Hp}{g:R O}{Q:Bool->Hp->Prop}(lb:LC X G N sc H0 zE q i all (λh z=>G2 G.F zE.isNone all e t r h z g) B f H)(j:fj X.K G E H0 zE B D g)
  (hQ:∀ b m n h z p,RW X.K H0 zE m n p h f->aF m z p->Zd (if b=true then ex G.F zE.isNone t h else Ze (.nx h)) (λo=>match o with
   |.nx h=>ex G.F zE.isNone r h
   |.rt s=>Ze (.rt s)) z=↑g->fj X.K G E H0 zE (hw n (hz m p)) D g->Q b p) :
  EG (NX (su X.K λa b=>(f9 .ne a b).map λc=>.d (.bl c)) (Q4 X G N sc q i all) (tI X.K G E e)) f H Q:=by
 let(m,n,h,z,Ld,ts,rw,sb,st,eL,hL,zL,pr,run):=lb
 delta G2 mx at run
 split at run
 .cases run
 .rename_i cs z1 u;refine#[m,h,z,cs,z1,Ld,ts,rw.dH,st,u,eL,hL,zL,pr,λv H1 x aO rv=>?_];have y:=rw.mono x;refine bU y.dH aO run ((j.mono (ae.trans sb (aZ x.same))).yj y) λl A e1=>?_;let(d,hd,e2):=M.ai e1;let(s,rfl,C):=bJ hd;refine#[s,rfl,λw H2 I J U=>?_];let(b,hb,e3):=M.ai e2;refine#[m,A,_,d,.d (.bl b),J,(show wU X.K m H1 _ v from rv.pl).mono I,qd U C,by rw[hb];rfl,λv' p sm Y=>#[b,Hd.yV (show Hd X.K (hz m p) _ v' from Y),?_]]
  have x3:=x.trans (I.trans (Ext.of sm));exact hQ b m n h A p (rw.mono x3) (J.same sm) e3 (j.mono (ae.trans sb (aZ x3.same)))
theorem Cr{D:Ends}{t r:Sm}(rw:RW X.K H0 zE a d H f σ)(g:aF a z H)(e:Zd (if b=true then ex G.F zE.isNone t f else Ze (.nx f)) (λo=>match o with
   |.nx f=>ex G.F zE.isNone r f
   |.rt s=>Ze (.rt s)) z=↑h) (i:fj X.K G E H0 zE (hw d (hz a H)) D h):if b=true then tX X.K G E H0 zE t { D with nx:=tX X.K G E H0 zE r D } σ H else tX X.K G E H0 zE r D σ H:=by
 cases b with
 |true =>
  rcases M.bind_some e with ⟨o,j,l,m⟩ | ⟨c,j,l,m⟩
  .refine#[a,d,f,z,_,rw,g,l,?_];cases o with
   |nx n=>exact λp u v x y A B=>#[p,u,n,j,h,y,A,m,i.mono B]|rt s=>cases m;exact i
  .subst m;exact#[a,d,f,z,_,rw,g,l,i]
 |false=>exact#[a,d,f,z,h,rw,g,e,i]
theorem Qg(x:XS lm X G E N sc cn)(L:fX X G sc c P q k fR fdR){p p2 a d pos f g ip:Pos}{all:⇑(Zh × Ex)}{t r:Sm}(h:N[i]?=↑y)(j:az y)(nn:az n)(l:pJ m sc N [n] [])(o:glob m "_law_refused")(s:all.length<=1000)(hs:gu rhs)(ge:aw X G E e rhs)(u:dM X body (tX X.K G E H0 zE t))(v:dM X rest (tX X.K G E H0 zE r)) :
  dM X (.If (.Compare (.ListComp (.Call (.Name "_law_refused" p) [.Name n p2] [] pos) [#[.Name n a,.Name y d,[],0]] m f) [.NotEq] [rhs] g) body [] ip::rest) (JP X G E N sc H0 zE q i all (G2 G.F zE.isNone all e t r)):=by
 refine dM.imp (bz (Bs (vY (wW x.room.units .ne) (xp x.toXI L h j nn l o s) ge.pe (pE hs _)) u qB) v) λD A H C=>?_;let(B,I,J,U):=C;exact G3 L J U λb zA ow ρ z H3 rw Y e U=>Cr rw Y e U
set_option tactic.hygienic true in
theorem Na(x:XS lm X G E N sc cn)(L:fX X G sc c P q k fR fdR){i:Nat}{n y:Str}{a:ò}{p p2 p3 p4 pos ps cp ip:Pos}{rhs:Ö}{all:⇑(Zh × Ex)}{e:Ex}(hi:N[i]?=↑y)(ny:az y)(nn:az n)(cc:pJ a sc N [n] [])(hg:glob a "_law_refused")(f:all.length<=1000)(hs:gu rhs)(ge:aw X G E e rhs) :
  dM X [.Return ↑(.Compare (.ListComp (.Call (.Name "_law_refused" p) [.Name n p2] [] pos) [#[.Name n p3,.Name y p4,[],0]] a ps) [.Eq] [rhs] cp) ip] (JP X G E N sc H0 zE q i all (G2 G.F zE.isNone all e (.seq (.ret (.con (.bl false))) .nil) (.seq (.ret (.con (.bl true))) .nil))):=by
 refine dM.imp (lI (oU (Bv (wW x.room.units .eq) (xp x.toXI L hi ny nn cc hg f) ge.pe (pE hs _)))) λD σ H qq=>?_;obtain⟨B,rr,⟨g,ow,ρ,z,Ld,ts,rw,sb,st,eL,hL,zL,pr,run⟩,po⟩:=qq;unfold G2 mx at run;split at run
 .cases run
 .rename_i j z1 m;refine#[g,ρ,z,j,z1,Ld,ts,rw.dH,st,m,eL,hL,zL,pr,λv H1 o aO rv=>?_];have r:=rw.mono o;refine bU r.dH aO run ((po.mono (ae.trans sb (aZ o.same))).yj r) λl z2 e1=>?_;let(d,hd,e2):=M.ai e1;let(s,rfl,u):=bJ hd;refine#[s,rfl,λw H2 x2 A C=>?_];let(b,hb,e3):=M.ai e2;have I:eqQ (.lst (j.map qw)) d=↑(!b):=by
   have:(eqQ _ d).map not=↑b:=hb;let(b',h1,h2):=Ë.mp this;rw[h1,<-h2,Bool.not_not]
  refine#[g,z2,.lst (j.map qw),d,.d (.bl (!b)),A,(show wU X.K g H1 (.fr (j.map qw)) v from rv.pl).mono x2,qd C u,by show WD _ (eqQ _ d)=_;rw[I];rfl,λv' H3 sm J=>?_]
  have U:=o.trans (x2.trans (Ext.of sm));have Y:=A.same sm;have rw3:=rw.mono U;have e4:↑(R.ok (O.rt (.d (.bl (!b)))) z2)=↑rr:=by cases b <;> exact e3
  cases e4;exact po v' H3 (λh=>nomatch h) (sU rw.ext rw.zok U) (zi rw3.zok Y) (rw.out (λh=>nomatch h) U J)
def Nb(F:FT)(a:Bool)(all:List (Zh × Ex))(j:Nat)(e:Ex)(t r:Sm)(f:Env)(z:Z)(g:R O):Prop:=∃ b,f[j]?=some (some (.d (.bl b)))/\(if b=true then mx F all e (ex F a t) (ex F a r) f else ex F a r f) z=some g
theorem Nc(x:XS lm X G E N sc cn)(L:fX X G sc c P q k fR fdR){n y w:Str}{p p2 a d pos f g ip h l:Pos}{all:⇑(Zh × Ex)}{t r:Sm}(m:N[i]?=↑y)(o:N[j]?=↑w)(s:az w)(ny:az y)(nn:az n)(cc:pJ u sc N [n] [])(hg:glob u "_law_refused")(A:all.length<=1000)(hs:gu rhs)(ge:aw X G E e rhs)(ht:dM X body (tX X.K G E H0 zE t))(hr:dM X rest (tX X.K G E H0 zE r)) :
  dM X (.If (.BoolOp .And [.Name w h,.Compare (.ListComp (.Call (.Name "_law_refused" p) [.Name n p2] [] pos) [#[.Name n a,.Name y d,[],0]] u f) [.NotEq] [rhs] g] l) body [] ip::rest) (JP X G E N sc H0 zE q i all (Nb G.F zE.isNone all j e t r)):=by
 delta az at s
 simp only[Á,ç] at s;refine dM.imp (bz (Bs (Er (vW (cg  (by rw[x.hN];exact o) (x.vis w (Û o)) s.1 s.2)) (Br (vY (wW x.room.units .ne) (xp x.toXI L m ny nn cc hg A) ge.pe (pE hs _)))).pt ht qB) hr) λD σ H qq=>?_
 obtain⟨B,rr,⟨C,I,J,z,Ld,ts,rw,sb,U,eL,hL,zL,pr,b,eb,run⟩,Y⟩:=qq;let(v,e1,e2):=rw.dH j _ eb;refine#[v,e1,b,Hd.yV (show Hd X.K (hz C H) _ v from e2),?_];cases b with
 |true =>
  exact G3 L #[C,I,J,z,Ld,ts,rw,sb,U,eL,hL,zL,pr,run] Y λb C I J z H3 rw U e Y=>Cr rw U e Y
 |false =>
  exact#[C,I,J,z,rr,rw,U,run,Y.mono sb]
theorem Nd(x:XS lm X G E N sc cn){w:Str}{f pos:Pos}{all:⇑(Zh × Ex)}{t r:Sm}(g:N[j]?=↑w)(h:i≠j)(m:cI sc w)(n:aw X G E a v)(p:∀ o,Xd v o pos.line X.env=pure false)(hr:dM X rest (JP X G E N sc H0 zE q i all (Nb G.F zE.isNone all j e t r))) :
  dM X (.Assign [.Name w f] v pos::rest) (JP X G E N sc H0 zE q i all λs z y=>uZ G.F all ↑(j,a) e (ex G.F zE.isNone t) (ex G.F zE.isNone r) s z=↑y):=by
 have A:=x.loc;refine dM.imp (bz (eO (by rw[x.hN];exact x.nd) (by rw[x.hN];exact g) (A.lc w m) n.pe (p _) (A.fn w m)) hr) λD σ H qq=>?_
 obtain⟨B,y,⟨zA,ow,s,z,Ld,ts,rw,sb,C,eL,hL,I,pr,run⟩,J⟩:=qq;have run:(if j < s.length then Zd _ _ else Zg) z=↑y:=run;by_cases K:j < s.length
 rotate_left
 .rw[Zw K] at run;cases run
 rw[Zv K] at run;refine bU rw.dH C run ((J.mono sb).yj rw) λl z1 e1=>?_;let(b,p1,e2):=M.ai e1;let(d,p2,L):=Ê.mp p1;let(s1,rfl,q1):=bJ p2;refine#[s1,rfl,λu H1 U aO rv=>?_];have hd:=rv.pl.d_ q1;cases d with
 |bl c' =>
  cases L;have hu:=hd.yV;subst hu;refine#[B,y,#[zA,_,_,z1,Ld,ts,(rw.mono U).GQ  (x:=.bl b)  (rfl),ae.trans sb (ae.trans (aZ U.same) (eU _ _)),aO,by rw[Ï (ñ h)];exact eL,U.at hL I,I,A5 C U pr,b,?_,?_],J]
  .exact Ø K
  .cases b <;> exact e2
 |_=>cases L
def Nf:(a:⇑Uv)->Option {u:Str × Pos × Ö × ò × Pos × Pos × Pos × ⇑Uv // a=.Assign [.Name u.1 u.2.1] (.List [.Lambda #[[],[],none,[],[],none,[]] u.2.2.1 u.2.2.2.1 u.2.2.2.2.1] u.2.2.2.2.2.1) u.2.2.2.2.2.2.1::u.2.2.2.2.2.2.2}
 |.Assign [.Name y p] (.List [.Lambda #[[],[],none,[],[],none,[]] b l d] q) pos::e=>↑#[(y,p,b,l,d,q,pos,e),rfl]|_=>none
def Ng:(a:⇑Uv)->Option {u:Str × Pos × Str × Pos × Ö × ò × Pos × Pos × Pos × ⇑Uv // a=.Expr (.Call (.Attribute (.Name u.1 u.2.1) u.2.2.1 u.2.2.2.1) [.Lambda #[[],[],none,[],[],none,[]] u.2.2.2.2.1 u.2.2.2.2.2.1 u.2.2.2.2.2.2.1] [] u.2.2.2.2.2.2.2.1) u.2.2.2.2.2.2.2.2.1::u.2.2.2.2.2.2.2.2.2}
 |.Expr (.Call (.Attribute (.Name y p) d e) [.Lambda #[[],[],none,[],[],none,[]] b l f] [] g) pos::h=>↑#[(y,p,d,e,b,l,f,g,pos,h),rfl]|_=>none
structure KZ where
 g:Str
 p:Pos
 n:Str
 p2:Pos
 pos:Pos
 n3:Str
 p3:Pos
 y:Str
 p4:Pos
 bD:Scope
 ps:Pos
 rhs:Expr
 cp:Pos
 body:⇑Stmt
 ip:Pos
 rest:⇑Stmt
def Qh:(a:⇑Uv)->Option {u:KZ // a=.If (.Compare (.ListComp (.Call (.Name u.g u.p) [.Name u.n u.p2] [] u.pos) [#[.Name u.n3 u.p3,.Name u.y u.p4,[],0]] u.bD u.ps) [.NotEq] [u.rhs] u.cp) u.body [] u.ip::u.rest}
 |.If (.Compare (.ListComp (.Call (.Name g p) [.Name n p2] [] pos) [#[.Name b d,.Name y e,[],0]] f h) [.NotEq] [rhs] i) j [] ip::l=>↑#[#[g,p,n,p2,pos,b,d,y,e,f,h,rhs,i,j,ip,l],rfl]|_=>none
def JQ(b:Bool):Sm->Bool
 |.seq (.ret (.con (.bl c))) .nil=>b == c|_=>false
theorem Cs{b:Bool}{t:Sm}(h:JQ b t):t=.seq (.ret (.con (.bl b))) .nil:=by
 unfold JQ at h;split at h
 .rw[ZD h]
 .cases h
def Nh:(a:⇑Uv)->Option {u:KZ // a=[.Return ↑(.Compare (.ListComp (.Call (.Name u.g u.p) [.Name u.n u.p2] [] u.pos) [#[.Name u.n3 u.p3,.Name u.y u.p4,[],0]] u.bD u.ps) [.Eq] [u.rhs] u.cp) u.ip]}
 |[.Return ↑(.Compare (.ListComp (.Call (.Name g p) [.Name n p2] [] pos) [#[.Name b d,.Name y e,[],0]] f h) [.Eq] [rhs] i) ip]=>↑#[#[g,p,n,p2,pos,b,d,y,e,f,h,rhs,i,[.Return ↑(.Constant (.bool false) 0 ip) ip],ip,[.Return ↑(.Constant (.bool true) 0 ip) ip]],rfl]|_=>none
def Ni:(a:⇑Uv)->Option {u:(Str × Pos × Pos) × KZ // a=.If (.BoolOp .And [.Name u.1.1 u.1.2.1,.Compare (.ListComp (.Call (.Name u.2.g u.2.p) [.Name u.2.n u.2.p2] [] u.2.pos) [#[.Name u.2.n3 u.2.p3,.Name u.2.y u.2.p4,[],0]] u.2.bD u.2.ps) [.NotEq] [u.2.rhs] u.2.cp] u.1.2.2) u.2.body [] u.2.ip::u.2.rest}
 |.If (.BoolOp .And [.Name w b,.Compare (.ListComp (.Call (.Name g p) [.Name n p2] [] pos) [#[.Name d e,.Name y f,[],0]] h i) [.NotEq] [rhs] j] l) m [] ip::o=>↑#[((w,b,l),#[g,p,n,p2,pos,d,e,y,f,h,i,rhs,j,m,ip,o]),rfl]|_=>none
def Nj:(a:⇑Uv)->Option {u:Str × Pos × Ö × Pos × ⇑Uv // a=.Assign [.Name u.1 u.2.1] u.2.2.1 u.2.2.2.1::u.2.2.2.2}
 |.Assign [.Name w p] v pos::b=>↑#[(w,p,v,pos,b),rfl]|_=>none
def JR(a:⇑(Str × Zj))(nums:⇑(Str × Int))(sc:ò)(N:Zj)(u:Zh × Ex)(b:ò)(d:Ö):Bool:=(ay N u.1).length == u.1.length&&i8 b sc (ay N u.1)&&!bS u.2&&mt false a nums u.2 b ((ay N u.1).map (·.1)) [d]
theorem xA(h:JR G.fns G.nums sc N u a body):GN G N sc u.1 u.2 a body:=by
 unfold JR at h;simp only[Á,Zy] at h;obtain⟨⟨⟨b,d⟩,e⟩,f⟩:=h;exact#[b,d,aK e,λk {X E} g=>sound _ u.2 g f]
def vA(a:List (Str × Zj))(nums:List (Str × Int))(sc:ò)(N:Zj)(i:Nat):List (Zh × Ex)->List Uv->Option (List Uv)
 |[],b=>some b
 |u::r,b=>match Ng b with
  |none=>none|some v=>if v.1.2.2.1 == ("append":Str)&&N[i]? == some v.1.1&&az v.1.1&&v.1.2.2.2.1.endLine == v.1.2.2.2.2.2.2.2.1.line&&JR a nums sc N u v.1.2.2.2.2.2.1 v.1.2.2.2.2.1 then vA a nums sc N i r v.1.2.2.2.2.2.2.2.2.2 else none
inductive Qi (X:Cx) (G:Gs) (E:XK) (N:⇑Str) (sc:Scope) (H0:Hp) (zE:Option Addr) (q:Str) (i:Nat) (done:⇑(⇑Nat × Ex)) (Rn:Env->Z->R O->Prop) (D:Ends) (σ:L2.St) (H:Hp):Prop where
 |mk (B rr) (h0_:LB X G N sc H0 zE q i done (λρ z=>Rn ρ z rr) B σ H) (h1_:fj X.K G E H0 zE B D rr):Qi X G E N sc H0 zE q i done Rn D σ H
set_option tactic.hygienic true in
theorem G4(x:XS lm X G E N sc cn)(L:fX X G sc c P q k fR fdR){i:Nat}{Rn:Env->Z->R O->Prop}{a:⇑Uv}:∀ (b done:⇑(Zh × Ex)) (d:⇑Uv),vA G.fns G.nums sc N i b d=↑a->done.length + b.length<=1000->dM X a (Qi X G E N sc H0 zE q i (done++b) Rn)->dM X d (Qi X G E N sc H0 zE q i done Rn)
 |[],done,d,h,_,f=>by
  cases h
  simp_all
 |u::b,done,d,h,g,f=>by
  unfold vA at h;split at h
  .cases h
  .rename_i v j;split at h
   .rename_i l;simp[Á,Zy] at l;obtain⟨⟨⟨⟨m,b2⟩,b3⟩,b4⟩,b5⟩:=l;let(v,e):=v;rw[e,m];refine dM.imp (bz (G0  (H0:=H0) (zE:=zE) (Rn:=Rn) x L b2 b3 (by rw[Zy];exact b4) (xA b5) (Ò (_a (V9 _ _)) g)) (G4 x L b (done++[u]) _ h (by rw[õ];show done.length + 1 + b.length<=1000;exact â (Y5 (_j _ _ _)) g) (by rw[Vt];exact f))) λD o H p=>?_
    let(B,r,s,y):=p;exact#[B,r,s,λz A C=>#[B,r,C,y]]
   .cases h
def DU(lm:Bool)(a:⇑(Str × Zj))(nums:⇑(Str × Int))(sc:ò)(N:Zj)(i:Nat)(e:Ex)(w:KZ):Bool:=[w.g == ("_law_refused":Str),N[i]? == ↑w.y,az w.n,w.n == w.n3,jB w.bD sc N [w.n] [],glob w.bD "_law_refused",gu w.rhs,!bS e,mt lm a nums e sc N [w.rhs]].all id
def Qj:Ö->Bool
 |.ListComp ..=>false|.SetComp ..=>false|.DictComp ..=>false|_=>true
def G5(lm:Bool)(b:⇑(Str × Zj))(nums:⇑(Str × Int))(sc:ò)(N:Zj)(i:Nat)(g:Option (Nat × Ex))(e:Ex)(t r:Sm)(d:⇑Uv):Option KZ:=match g with
 |none=>match Qh d with
  |none=>match Nh d with
   |none=>none|↑w=>if DU lm b nums sc N i e w.1&&JQ false t&&JQ true r then ↑w.1 else none
  |↑w=>if DU lm b nums sc N i e w.1 then ↑w.1 else none
 |↑(j,a)=>match Nj d with
  |none=>none
  |↑v=>match Ni v.1.2.2.2.2 with
   |none=>none|↑w=>if [DU lm b nums sc N i e w.1.2,i != j,N[j]? == ↑v.1.1,v.1.1 == w.1.1.1,cI sc v.1.1,az v.1.1,Qj v.1.2.2.1,!bS a,mt lm b nums a sc N [v.1.2.2.1]].all id then ↑w.1.2 else none
theorem ifS{α:Type}{c:Bool}{a b:α}(h:(if c=true then some a else none)=some b):c=true/\a=b:=by
 cases c with
 |false=>cases h
 |true=>exact#[rfl,í h]
set_option tactic.hygienic true in
theorem JS(x:XS lm X G E N sc cn)(L:fX X G sc c P q k fR fdR){i:Nat}{y:Str}(b:N[i]?=↑y)(d:az y){all:⇑(Zh × Ex)}{g:Option (Nat × Ex)}{e:Ex}{t r:Sm}{ss:⇑Uv}{w:KZ}(f:all.length<=1000)(h:G5 lm G.fns G.nums sc N i g e t r ss=↑w)(ht:dM X w.body (tX X.K G E H0 zE t))(hr:dM X w.rest (tX X.K G E H0 zE r)):dM X ss (JP X G E N sc H0 zE q i all λρ z rr=>uZ G.F all g e (ex G.F zE.isNone t) (ex G.F zE.isNone r) ρ z=↑rr):=by
 cases g with
 |none =>
  unfold G5 at h;dsimp only at h;cases e1:Qh ss with
  |none =>
   rw[e1] at h;dsimp only at h;cases e2:Nh ss with
   |none=>rw[e2] at h;cases h
   |some l =>
    rw[e2] at h;let(p,rfl):=ifS h;rw[Á,Á] at p;obtain rfl:=Cs p.1.2;obtain rfl:=Cs p.2;refine xu p.1.1 λc1 c2 c3 c4 c5 s u A B=>?_;let(w,I):=l
    have c1:w.g="_law_refused":=eq_of_beq c1
    have c4:w.n3=w.n:=(eq_of_beq c4).symm
    have c2:w.y=y:=by
     have c2:=eq_of_beq c2;rw[b] at c2;exact(í c2).symm
    rw[I,c1,c2,c4];exact Na (H0:=H0) (zE:=zE) (all:=all) x L b d c3 (vn c5) s f u (aB (aK A) (sound G e x.toXI B))
  |some l =>
   rw[e1] at h;let(p,rfl):=ifS h;refine xu p λc1 c2 c3 c4 c5 s u A B=>?_;let(w,I):=l
   have c1:w.g="_law_refused":=eq_of_beq c1
   have c4:w.n3=w.n:=(eq_of_beq c4).symm
   have c2:w.y=y:=by
    have c2:=eq_of_beq c2;rw[b] at c2;exact(í c2).symm
   rw[I,c1,c2,c4];exact Qg (H0:=H0) (zE:=zE) (all:=all) x L b d c3 (vn c5) s f u (aB (aK A) (sound G e x.toXI B)) ht hr
 |some g =>
  let(j,a):=g;unfold G5 at h;dsimp only at h;cases e1:Nj ss with
  |none=>rw[e1] at h;cases h
  |some v =>
   rw[e1] at h;dsimp only at h;cases e2:Ni v.1.2.2.2.2 with
   |none=>rw[e2] at h;cases h
   |some w =>
    rw[e2] at h;let(p,rfl):=ifS h;clear e1 e2 h;refine xu p λp C H J d4 d5 U d7 d8=>xu p λc1 c2 c3 c4 c5 s u A B=>?_;let(v,Y):=v;let(w,I):=w
    have c1:w.2.g="_law_refused":=eq_of_beq c1
    have c4:w.2.n3=w.2.n:=(eq_of_beq c4).symm
    have c2:w.2.y=y:=by
     have c2:=eq_of_beq c2;rw[b] at c2;exact(í c2).symm
    have J:w.1.1=v.1:=(eq_of_beq J).symm
    replace I:v.2.2.2.2=_:=I
    have H:=eq_of_beq H
    have C:i≠j:=bne_iff_ne.mp C
    rw[Y,I,c1,c2,c4,J];refine Nd (H0:=H0) (zE:=zE) x H C d4 (aB (aK d7) (sound G a x.toXI d8)) (λo=>dR (by
     replace U:Qj v.2.2.1=true:=U
     generalize v.2.2.1=vv at U ⊢;cases vv <;> first | rfl | cases U) o) ?_
    exact Nc (H0:=H0) (zE:=zE) (all:=all) x L b H d5 d c3 (vn c5) s f u (aB (aK A) (sound G e x.toXI B)) ht hr
def zx(lm:Bool)(a:List (Str × Zj))(nums:List (Str × Int))(sc:ò)(N:Zj)(i:Nat)(b:List (Zh × Ex))(g:Option (Nat × Ex))(e:Ex)(t r:Sm)(d:List Uv):Option KZ:=match b with
 |[]=>none
 |u::f=>match Nf d with
  |none=>none
  |some v=>if lm&&N[i]? == some v.1.1&&cI sc v.1.1&&az v.1.1&&decide (f.length < 900)&&JR a nums sc N u v.1.2.2.2.1 v.1.2.2.1 then match vA a nums sc N i f v.1.2.2.2.2.2.2.2 with
   |none=>none|some rest=>G5 lm a nums sc N i g e t r rest
   else none
set_option tactic.hygienic true in
theorem Nk(x:XS lm X G E N sc cn){i:Nat}{a:⇑(Zh × Ex)}{g:Option (Nat × Ex)}{e:Ex}{t r:Sm}{b:⇑Uv}{w:KZ}(h:zx lm G.fns G.nums sc N i a g e t r b=↑w)(d:dM X w.body (tX X.K G E H0 zE t))(f:dM X w.rest (tX X.K G E H0 zE r)):dM X b (tX X.K G E H0 zE (.lams i a g e t r)):=by
 unfold zx at h;split at h
 .cases h
 .rename_i u j;split at h
  .cases h
  .rename_i v hv;split at h
   .rename_i l;simp[Á,Zy,Zx] at l;obtain⟨⟨⟨⟨⟨m,b2⟩,b3⟩,b4⟩,b5⟩,b6⟩:=l;split at h
    .cases h
    .rename_i n o;let(c,P,q,k,fR,fdR,L):=x.lam m;let(v,p):=v
     rw[p];refine dM.imp (bz (M9 (H0:=H0) (zE:=zE) (Rn:=λU z C=>uZ G.F (u::j) g e (ex G.F zE.isNone t) (ex G.F zE.isNone r) U z=↑C) x L b2 b3 (xA b6)) (G4   x L j [u] _ o (by rw[List.length_singleton];omega) (dM.imp (JS (H0:=H0) (zE:=zE) (all:=u::j) x L b2 b4 (by rw[Þ];omega) h d f) λD A H #[B,C,I,J]=>#[B,C,I.lc,J]))) λD A H qq=>?_;let(zA,ow,U,z,C,rw,st,ee,J):=qq;have Y:(if i < U.length then uZ G.F (u::j) g e (ex G.F zE.isNone t) (ex G.F zE.isNone r) (U.set i none) else Zg) z=↑C:=ee;split at Y
     .rename_i il;exact#[zA,ow,U,z,C,rw,st,il,Y,λσ' H' I=>#[_,C,I,J]]
     .cases Y
   .cases h
end
section
variable {K:Ã}
theorem xB{H:Hp}:∀ {a:⇑D}{b:⇑V},a.length=b.length->(∀ (i:Nat) (d:D) (v:V),a[i]?=↑d->b[i]?=↑v->Hd K H d v)->aN K H a b
 |[],[],_,_=>.nil|[],_::_,h,_=>by simp at h|_::_,[],h,_=>by simp at h|x::a,y::b,h,g=>.cons (g 0 x y rfl rfl) (xB (by simpa using h) λi d v c e=>g (i + 1) d v (by simpa using c) (by simpa using e))
theorem zy{H:Hp}:∀ {l:Zi},aN K H (l.map D.int) (l.map V.int)
 |[]=>.nil|_::_=>.cons Hd.int zy
theorem JT{a:Zl}{H c f:Hp}{d:È}(hd:H d=none)(x:Ext a (upd H d (.dK [])) c)(g:∀ b u,b≠d->c b=some u->f b=some u):Ext a H f:=by
 refine#[λb o e=>?_,λb i e=>?_]
 .let(j,k):=bZ e;have n:=ax j hd;exact aV (g b o n (x.at (by rw[ag n];exact j) k (ck e))) k (ck e)
 .have n:=ax e hd;let(l,h):=x.cK b i (by rw[ag n];exact e)
  exact#[l,g b _ n h]
theorem G6(f:aF g z i)(hd:i d=↑(.dK j))(m:∀ b u,b≠d->i b=↑u->o b=↑u):aF g z o:=by
 have ne:∀ {b:È}{u:HO},i b=↑u->(∀ l,u≠.dK l)->o b=↑u:=λ{b u} e n=>m b u (λq=>by grind) e
 refine#[?_,λp r=>?_]
 .have:=f.zat;cases g with
  |none =>
   cases z with
   |none=>trivial|some pr=>exact this.elim
  |some a =>
   cases z with
   |none=>exact this.elim|some pr=>exact ne (show i a=↑(.lst _) from this) λ_ h=>nomatch h
 .let(s,e,v,k):=f.tab p r;refine#[s,ne e (λ_ h=>nomatch h),v,λpos c h=>?_];let(x,y,A):=k pos c h;simp_all
theorem GI.same{a H c:Hp}{d:È}{f:⇑GT}(g:GI a d f H)(s:ae H c):GI a d f c:=#[s _ _ g.dic,#[g.ok.nd,λt h=>s _ _ (g.ok.at_ t h)],g.new,λb u n e=>s _ _ (g.old b u n e)]
end
theorem DV:ý "tuple"=↑(.type "tuple"):=by decide +kernel
theorem vB:∀ (l:Zi) (a:⇑(Int × Zi)) (p:Nat) (m:Int),kA a p (l++[m])=gW (kA a p l) m ((p + l.length:Nat):Int)
 |[],_,_,_=>rfl
 |x::r,a,p,m=>by
  show kA _ _ (r++[m])=gW (kA _ _ r) m _;rw[vB r,Þ,show p + 1 + r.length=p + (r.length + 1) by omega]
theorem ints_map:∀ {l:⇑D}{a:Zi},gq l=↑a->l=a.map D.int
 |[],_,h=>by cases h;rfl
 |~~~i::r,a,h=>by
  let(b,c,rfl):=Ë.mp (show(gq r).map _=↑a from h);rw[ints_map c];rfl
 |.bl _::_,_,h=>by cases h
 |.cD::_,_,h=>by cases h
 |.str _::_,_,h=>by cases h
 |.tup _::_,_,h=>by cases h
 |.lst _::_,_,h=>by cases h
set_option tactic.hygienic true in
theorem JU{ds:List D}{s:S}(h:AN ds=some s):∃ a:Zi,ds=[.lst (a.map D.int)]/\a.length < 1000/\s=.fr (iE a):=by
 unfold AN at h;split at h
 .split at h
  .rename_i a b;split at h
   .rename_i c;cases h;exact#[a,by rw[ints_map b],c,rfl]
   .cases h
  .cases h
 .cases h
theorem Ct:∀ {l:Zi}{t n:Nat}{m:Int},l[t]?=↑m->(fh (l.map D.int) n)[t]?=↑(.tup [~~~((n + t:Nat):Int),~~~m])
 |[],_,_,_,h=>by simp at h|x::r,0,n,m,h=>by cases h;rfl
 |x::r,t + 1,n,m,h=>by
  show(fh _ _)[t]?=_;rw[Ct   (by simpa using h),show n + 1 + t=n + (t + 1) by omega]
theorem Cu:∀ (a:⇑GT) (m p:Int) (q:È),(ku a m p q).length<=a.length + 1
 |[],_,_,_=>Î _
 |t::r,m,p,q=>by
  unfold ku;split
  .exact le_succ _
  .exact Xe (Cu r m p q)
theorem G7{c:Nat}:∀ {a:⇑GT}{m p:Int}{q:È},(∀ t∈a,t.2.1.length<=c)->∀ t∈ku a m p q,t.2.1.length<=c + 1
 |[],m,p,q,_,t,b=>by
  have e:=by simpa [ku] using b
  simp_all
 |u::r,m,p,q,h,t,b=>by
  unfold ku at b;split at b
  .rcases ã.mp b with rfl | b
   .rw[õ];exact Xe (h u Í)
   .exact Nat.le_succ_of_le (h t (É _ b))
  .rcases ã.mp b with rfl | b
   .exact Nat.le_succ_of_le (h _ Í)
   .exact G7 (λt b=>h t (É _ b)) t b
section
variable {lm:Bool}{X:Cx}{G:Gs}{E:XK}{N:Zj}{sc:ò}{cn:Zj}{H0:Hp}{zE:Zl}
theorem Qk(x:XS lm X G E N sc cn){p1 p2 p3 p4 p5 p6 p7 p8 p9 q1 q2 q3 q4 q5 q6 q7 q8 q9 r1 r2 r3 r4 r5 r6 r7 r8 r9:Pos}
  (hi:N[i]?=↑y) (hj:N[j]?=↑a) (hk:N[k]?=↑b) (ly:cI sc y) (la:cI sc a) (lb:cI sc b) (ny:az y) (na:az a) (nb:az b) (ng:az g)
  (hij:i≠j) (hik:i≠k) (hjk:j≠k) (he:glob sc "enumerate") (ht:glob bD "tuple") (ge:Good X G E (.cons src .nil) [se]) (cc:pJ bD sc N [g] [])
  (l1:(q1.endLine == q2.line)) (l2:(q3.endLine == q4.line)) (l3:(q5.endLine == q6.line)) :
  dM X [.Assign [.Name y p1] (.Dict [] [] p2) p3,.For (.Tuple [.Name a p4,.Name b p5] ek p6) (.Call (.Name "enumerate" p7) [se] [] p8) [.Expr (.Call (.Attribute (.Call (.Attribute (.Name y p9) "setdefault" q1) [.Name b q7,.List [] q8] [] q2) "append" q3) [.Name a q9] [] q4) r1] [] r2,
   .Return ↑(.ListComp (.Call (.Name "tuple" r3) [.Name g r4] [] r5) [#[.Name g r6,.Call (.Attribute (.Name y r7) "values" q5) [] [] q6,[],0]] bD r8) r9]
   (tX X.K G E H0 zE (.grp i j k src)):=by
 unfold az at ny na nb ng;simp only[Á,ç] at ny na nb ng;have Lc:=x.loc;let(k1,k2,k3):=bu ht;refine dM.imp (bz (eO (by rw[x.hN];exact x.nd) (by rw[x.hN];exact hi) (Lc.lc y ly) BM rfl (Lc.fn y ly))
  (bz (vX x.own x.calm (sQ x.toXI rfl rfl he rfl ge) (sO x.loc (by
  show(noStar (.Name a p4)&&(N[j]? == some a&&cI sc a)&&(noStar (.Name b p5)&&(N[k]? == some b&&cI sc b)&&([]:Zm).isEmpty))=true;rw[hj,hk,la,lb,beq_self_eq_true,beq_self_eq_true];rfl:fi N _ (.tup (.cons (.v j) (.cons (.v k) .nil))) _=true))
   (lI (lJ (uO VS VM VL iW
    (uO PySem.F.plainAttrs_dict PySem.F.slot_dict_setdefault PySem.F.type_dict_setdefault IU (cg  (by rw[x.hN];exact hi) (x.vis y (Û hi)) ny.1 ny.2)
     (bA (cg (i:=k) (by rw[x.hN];exact hk) (x.vis b (Û hk)) nb.1 nb.2) (bA (oW cM) cM)) rfl rfl l1 rfl rfl)
    (bA (cg (i:=j) (by rw[x.hN];exact hj) (x.vis a (Û hj)) na.1 na.2) cM) rfl rfl l2 rfl rfl) (dR rfl none))) (λ_=>rfl))
  (lI (oU (qF (te:=OV X.K 0) x.calm (lU x.toXI cc) (IW (cg (i:=i) (by rw[x.hN];exact hi) (x.vis y (Û hi)) ny.1 ny.2) l3)
   (λcl C s H fp=>jn (i:=0) (x:=g) (by simp[aT]) rfl ((dv x.toXI cc cl C s H fp).lc g ⋯) ((dv x.toXI cc cl C s H fp).fn g ⋯))
   (λcl C s H fp=>nK)
   (λcl C s H fp=>lK (T:="tuple") mr ((hU x.toXI cc cl C s H fp).glb _ k1) (x.blt _ (-0)) DV (bA (cg (i:=0) (x:=g) (by simp[aT]) ((hU x.toXI cc cl C s H fp).vis g ⋯) ng.1 ng.2) cM))
   (λ_=>rfl)))))) λD σ H q=>?_
 let(f,ow,ρ,z,rr,rw,st,ee,po):=q;have e0:(if i < ρ.length/\j < ρ.length/\k < ρ.length then Zd (ev G.F (.cons src .nil) (ρ.set i none)) (λl=>Zd (Zf ((iC l).bind AN)) λs=>Ze (.rt s)) else Zg) z=↑rr:=ee;by_cases il:i < ρ.length/\j < ρ.length/\k < ρ.length
 rotate_left
 .rw[Zw il] at e0;cases e0
 rw[Zv il] at e0;refine λd hd=>?_;have s0:ae H (upd H d (.dK [])):=ae.new _ hd;have rw1:=(rw.mono (Ext.of s0)).Qf (i:=i) (v:=↥d);have aO:=st.same s0;have dz:f≠↑d:=st.mR hd;have hil:i < σ.length:=by rw[<-rw.len];exact il.1
 have hjl:j < σ.length:=by rw[<-rw.len];exact il.2.1
 have hkl:k < σ.length:=by rw[<-rw.len];exact il.2.2
 rcases M.bind_some e0 with ⟨l,z1,e1,e2⟩ | ⟨c,z1,e1,e2⟩
 rotate_left
 .subst e2;exact#[f,_,z,_,rw1.dH,aO,e1,po.KY rw1]
 let(s,hs,e3):=M.ai e2;cases e3;let(ds,h1,h2):=Ê.mp hs;let(A,rfl,nl,rfl):=JU h2;refine#[f,_,z,_,rw1.dH,aO,e1,fh (A.map L2.D.int) 0,by rw[h1];rfl,λJ Hb x1 stb IT=>?_]
 have B:Hb d=↑(.dK []):=x1.at ao dz;have I:hz f Hb d=↑(.dK []):=aV B dz;have IB:=IT (λy=>∃ n,y= ~~~n) (hide d (hz f Hb)) (cm _ _) (λa' ys h=>by
   rcases h with (h | ⟨o,h⟩) | h
   .exact .inl (.inl (fU h λz=>by rw[z,I] at h;cases h))
   .exact .inl (.inr #[o,fU h λz=>by rw[z,I] at h;cases h])
   .exact .inr h) (λd' v #[n,e] h=>by subst e;rw[h.bK];exact Hd.int) (λds' e' d' hd'=>by
   rw[h1] at e';cases e';have e:d'=.lst (A.map L2.D.int):=by simpa using hd'
   subst e;exact λy hy=>by let(n,_,e):=Ð.mp hy;exact#[n,e.symm]) (λa' ys h _=>by
   rcases h with (h | ⟨o,h⟩) | h
   .exact .inl (.inl (fU h λz=>by rw[z,I] at h;cases h))
   .exact .inl (.inr #[o,fU h λz=>by rw[z,I] at h;cases h])
   .exact .inr h)
 refine#[λt m L P=>m=A.length - t/\t<=A.length/\L[i]?=↑↑↥d/\L.length=σ.length/\∃ U,GI Hb d U P/\Md U=kA [] 0 (A.take t)/\U.length<=t/\∀ u∈U,u.2.1.length<=t,
  #[_,rfl,Vl _,Ø hil,ô,[],#[B,#[List.nodup_nil,λ_ h=>nomatch h],λ_ h=>(nomatch h),λb u n e=>e],rfl,Î _,λ_ h=>nomatch h],?_]
 rintro t m L P ⟨rfl,tn,hs1,hs2,U,Y,gs,tl,tb⟩;have sB:ae (hide d (hz f Hb)) (hz f P):=λb o e=>by
  have n:b≠d:=λz=>by rw[z] at e;unfold hide at e;rw[Zv rfl] at e;cases e
  have e':=cm _ _ b o e;let(e1,e2):=bZ e';exact aV (Y.old b o n e1) e2 (ck e')
 have stH:aF f z1 P:=G6 stb B Y.old;have big:1000<=sizeLine:=by rw[gV];decide
 by_cases e:t=A.length
 .subst e;refine .inl #[by have:=IB.stop P (ae.trans sB (ak f P));rw[kH,Æ] at this;exact this,?_]
  refine#[d,wF U,hs1,Y.dic,λo H2 hk2 hd2=>?_];have nd:∀ u∈U,u.2.2≠d:=λu hu q=>by have:=Y.ok.at_ u hu;rw[q,Y.dic] at this;cases this
  refine IZ (by show 0 < 1;decide) ∅ #[hd2,#[Y.ok.nd,λu hu=>hk2 _ _ (nd u hu) (Y.ok.at_ u hu)],λb u n e=>hk2 b u n (Y.old b u n e),rfl,λ_ _ h=>nomatch h] λys H3 p ge3 hp3=>?_
  have x3:Ext f H H3:=JT hd x1 ge3.old;have st3:aF f z1 H3:=G6 stb B ge3.old;have gd:iE A=U.map λu=>.tup (u.2.1.map L2.D.int):=by
   unfold iE;rw[List.take_length] at gs;rw[<-gs];unfold Md;rw[æ];rfl
  have hda:aN X.K (hz f H3) (iE A) ys:=by
   rw[gd];refine xB (by rw[Æ,ge3.len]) λn d' v q1 q2=>?_
   let(a',u,rfl,q3,q4):=ge3.tup n v q2;rw[Ú,q3] at q1;cases q1;exact Hd.tup (st3.yX (dY.of q4)) zy
  have x4:=x3.trans (Ext.of (ae.new (.lst ys) hp3));exact po _ _ (λh=>nomatch h) (sU rw.ext rw.zok x4) (zi rw.zok (st3.same (ae.new _ hp3))) (rw.out (λh=>nomatch h) x4 ((cQ st3 hda hp3).from x3))
 .have hlt:t < A.length:=Nat.lt_of_le_of_ne tn e;refine .inr #[IB.go t P (ae.trans sB (ak f P)) (by rw[kH,Æ];exact hlt),λσ2 H2=>σ2[i]?=↑↑↥d/\σ2.length=σ.length/\∃ U,GI Hb d U H2/\Md U=kA [] 0 (A.take (t + 1))/\U.length<=t + 1/\∀ u∈U,u.2.1.length<=t + 1,λσ2 H2 q=>#[A.length - (t + 1),by omega,rfl,hlt,q],λx' H'' y'=>?_]
  let(s1,hdx):=IB.yld t P x' H'' f z1 _ sB stH y' (Ct (Õ hlt));let(T,us,rfl,m1,m2):=(hdx (hz f H'') (ae.trans sB (d9 s1)) λ_ _ q=>q).fW;let(u1,r,rfl,w1,w2):=m2.aU;let(u2,rfl,w3):=w2.one;have f1:=w1.bK;have f2:=w3.bK;subst f1 f2;refine#[T,_,rfl,(ak f H'').j6 m1,rfl,_,_,rfl,_,_,rfl,rfl,?_];have jl:j < L.length:=by rw[hs2];exact hjl
  have kl:k < L.length:=by rw[hs2];exact hkl
  refine IY (GI.same Y s1) (by rw[Ï (ñ hik),Ï (ñ hij)];exact hs1) (by rw[Ï (ñ hjk),Ø jl]) (by rw[Ø (by rw[ô];exact kl)]) ∅ (λu hu=>by have:=tb u hu;omega) λq H3 g3=>?_
  refine#[by rw[Ï (ñ hik),Ï (ñ hij)];exact hs1,by rw[ô,ô];exact hs2,_,g3,?_,â (Cu _ _ _ _) (Xe tl),G7 tb]
  rw[FE,gs,List.take_succ_eq_append_getElem hlt,vB,US,Yy tn]
structure Tf where
 y:Str
 a:Str
 b:Str
 y2:Str
 sd:Str
 b2:Str
 ap:Str
 a2:Str
 en:Str
 tu:Str
 g:Str
 g2:Str
 y3:Str
 va:Str
 ek:Nat
 se:Expr
 bD:Scope
 p1:Pos
 p2:Pos
 p3:Pos
 p4:Pos
 p5:Pos
 p6:Pos
 p7:Pos
 p8:Pos
 p9:Pos
 p10:Pos
 p11:Pos
 p12:Pos
 p13:Pos
 p14:Pos
 p15:Pos
 p16:Pos
 p17:Pos
 p18:Pos
 p19:Pos
 p20:Pos
 p21:Pos
 q1:Pos
 q2:Pos
 q3:Pos
 q4:Pos
 q5:Pos
 q6:Pos
def Ql(u:Tf):⇑Stmt:=[.Assign [.Name u.y u.p1] (.Dict [] [] u.p2) u.p3,.For (.Tuple [.Name u.a u.p4,.Name u.b u.p5] u.ek u.p6) (.Call (.Name u.en u.p7) [u.se] [] u.p8) [.Expr (.Call (.Attribute (.Call (.Attribute (.Name u.y2 u.p9) u.sd u.q1) [.Name u.b2 u.p10,.List [] u.p11] [] u.q2) u.ap u.q3) [.Name u.a2 u.p12] [] u.q4) u.p13] [] u.p14,.Return ↑(.ListComp (.Call (.Name u.tu u.p15) [.Name u.g u.p16] [] u.p17) [#[.Name u.g2 u.p18,.Call (.Attribute (.Name u.y3 u.p19) u.va u.q5) [] [] u.q6,[],0]] u.bD u.p20) u.p21]
def Sw:(c:⇑Uv)->Option {u:Tf // c=Ql u}
 |[.Assign [.Name y d] (.Dict [] [] p2) e,.For (.Tuple [.Name a f,.Name b h] i j) (.Call (.Name k l) [m] [] n) [.Expr (.Call (.Attribute (.Call (.Attribute (.Name o p) sd q) [.Name b2 r,.List [] s] [] v) x z) [.Name A B] [] C) F] [] H,.Return ↑(.ListComp (.Call (.Name tu I) [.Name g J] [] K) [#[.Name g2 L,.Call (.Attribute (.Name y3 P) va q5) [] [] q6,[],0]] bD U) Y]=>↑#[#[y,a,b,o,sd,b2,x,A,k,tu,g,g2,y3,va,i,m,bD,d,p2,e,f,h,j,l,n,p,r,s,B,F,H,I,J,K,L,P,U,Y,q,v,z,C,q5,q6],rfl]|_=>none
def Qm(lm:Bool)(c:⇑(Str × Zj))(nums:⇑(Str × Int))(sc:ò)(N:Zj)(i j k:Nat)(d:Ex)(e:⇑Uv):Bool:=opt (Sw e) λu =>
  [N[i]? == ↑u.1.y,N[j]? == ↑u.1.a,N[k]? == ↑u.1.b,cI sc u.1.y,cI sc u.1.a,cI sc u.1.b,az u.1.y,az u.1.a,az u.1.b,az u.1.g,i != j,i != k,j != k,glob sc "enumerate",glob u.1.bD "tuple",mt lm c nums (.cons d .nil) sc N [u.1.se],jB u.1.bD sc N [u.1.g] [],
   u.1.q1.endLine == u.1.q2.line,u.1.q3.endLine == u.1.q4.line,u.1.q5.endLine == u.1.q6.line,u.1.y2 == u.1.y,u.1.y3 == u.1.y,u.1.a2 == u.1.a,u.1.b2 == u.1.b,u.1.g2 == u.1.g,u.1.en == ("enumerate":Str),u.1.sd == ("setdefault":Str),u.1.ap == ("append":Str),u.1.tu == ("tuple":Str),u.1.va == ("values":Str)].all id
theorem Qn(x:XS lm X G E N sc cn)(h:Qm lm G.fns G.nums sc N i j k src ss):dM X ss (tX X.K G E H0 zE (.grp i j k src)):=by
 obtain⟨⟨u,rfl⟩,-,h⟩:=aA h;refine xu h λa b c d e f g l h9 m n o p q r s v y z A B C F H I J L P U Y=>?_
 delta Ql
 rw[ZD B,ZD C,ZD F,ZD H,ZD I,ZD J,ZD L,ZD P,ZD U,ZD Y];exact Qk x (ZD a) (ZD b) (ZD c) d e f g l h9 m (by simpa using n) (by simpa using o) (by simpa using p) q r (sound G (.cons src .nil) x.toXI s) (vn v) y z A
def Qo(K:Ã)(i:Nat):TI:=λb H R=>∃ a,b[i]?=↑↑↥a/\((∃ c,dY K H a c)/\R (QT K a) H∨(∃ c,gU K H a c)/\R (Lu K a) H)
theorem G8(x:XI lm X G E N sc){i:Nat}{pos:Pos}(b:N[i]?=↑n)(c:az n):PI X d (.Name n pos) (Qo X.K i):=by
 delta az at c
 simp only[Á,ç] at c;have e:PE X (.Name n pos) _:=cg  (by rw[x.hN];exact b) (x.vis n (Û b)) c.1 c.2
 intro f s g H R I q;obtain⟨a,k,q | q⟩:=q
 .exact EC e f s g H R I #[_,k,a,rfl,q.1,q.2]
 .exact nB e f s g H R I #[_,k,a,rfl,q.1,q.2]
def fBody(F:FT)(a:Bool)(p:iD)(b:Sm):D->Env->M O:=λx c=>Zd (Zf (cz p x c)) λc=>ex F a b c
theorem pM:∀ {l:⇑D}{d:D},dQ l->d∈l->bare d
 |x::r,d,h,hd=>by
  simp[dQ,Á] at h;rcases ã.mp hd with rfl | hd
  .exact h.1
  .exact pM h.2 hd
theorem xC{D:Ends}(IT:JD X.K J xs B)
  (rw:RW X.K H0 zE a d H f g) (st:aF a z H) (j:ae B (hw d (hz a H))) (k:qx (fBody G.F zE.isNone p b) xs f z=↑rr) (l:fj X.K G E H0 zE (hw d (hz a H)) D rr) :
  ∃ W:Nat->Nat->L2.St->Hp->Prop,(∃ m,W 0 m g H)/\∀ i m g H,W i m g H ->
   (J.stop i H/\D.nx g H)∨(J.go i H/\∃ Nn:L2.St->Hp->Prop,(∀ n u,Nn n u->∃ m',m' < m/\W (i + 1) m' n u)/\∀ x u,J.yld i H x u->gP X.K p x g u λv H2=>tX X.K G E H0 zE b { D with nx:=Nn,ct:=Nn,bk:=D.nx } v H2):=by
 refine#[λi m g H=>m=xs.length - i/\i<=xs.length/\∃ a d f z r,RW X.K H0 zE a d H f g/\aF a z H/\ae B (hw d (hz a H))/\qx _ (xs.drop i) f z=↑r/\fj X.K G E H0 zE (hw d (hz a H)) D r,
  #[xs.length,⋯,Vl _,a,d,f,z,rr,rw,st,j,k,l],?_]
 rintro i m g H ⟨rfl,hi,a,d,f,z,rr,rw,st,j,k,l⟩;have sH :=ae.trans j (ae.trans ef (ak a H));by_cases A:i < xs.length
 .refine .inr #[IT.go i H sH A,_,
   λn u h=>#[_,_r A (Vs _),rfl,A,h],λx u y=>?_]
  let(s1,hd):=IT.yld i H x u a z _ (ae.trans j ef) st y (Õ A);rw[UO A] at k;have r1:=rw.mono (Ext.of s1);have aO:=st.same s1;have C:ae _ (hw d (hz a u)):=aZ (d9 s1);have hd1:=hd _ (ae.trans j C) λ_ _ q=>A0 q r1.xq;have fin:∀ {I:Env}{o:O}{L:Z},cz p _ f=↑I->ex G.F zE.isNone b I z=↑(.ok o L)->(match o with | .nx f=>qx (fBody G.F zE.isNone p b) (xs.drop (i + 1)) f | .rt s=>Ze (.rt s)) L=↑rr->gP X.K p x g u λv H2=>tX X.K G E H0 zE b { D with nx:=λn u=>∃ a d f z r,RW X.K H0 zE a d u f n/\aF a z u/\ae B (hw d (hz a u))/\qx _ _ f z=↑r/\fj X.K G E H0 zE (hw d (hz a u)) D r,ct:=λn u=>∃ a d f z r,RW X.K H0 zE a d u f n/\aF a z u/\ae B (hw d (hz a u))/\qx (fBody G.F zE.isNone p b) (xs.drop (i + 1)) f z=↑r/\fj X.K G E H0 zE (hw d (hz a u)) D r,bk:=D.nx } v H2:=λ{I o L} P e1 e2=>by
   refine Co P r1 hd1 λU n r2 Y=>#[a,U,I,z,_,r2,aO,e1,?_];cases o with
   |nx ρ2=>exact λzA3 ow3 σ3 H3 r3 st3 sm3=>#[zA3,ow3,ρ2,L,rr,r3,st3,ae.trans j (ae.trans C (ae.trans Y sm3)),e2,l.mono (ae.trans C (ae.trans Y sm3))]|rt s=>cases e2;exact l
  rcases M.bind_some k with ⟨o,L,e1,e2⟩ | ⟨c,L,e1,e2⟩
  .let(I,P,e3):=M.ai e1;exact fin P e3 e2
  .subst e2;let(I,P,e3):=M.ai e1;exact Co P r1 hd1 λU n r2 Y=>#[a,U,I,z,_,r2,aO,e3,l]
 .have e:=_i hi (_g A)
  subst e;rw[YD] at k;cases k;exact .inl #[IT.stop H sH,l a d g H rw st (ae.refl _)]
theorem Nl(x:XS lm X G E N sc cn){c pos:Pos}(e:fi N (cI sc) p tg)(h1:N[i]?=↑n)(h2:az n)(hb:dM X body (tX X.K G E H0 zE b)) :
  PS X (.For tg (.Name n c) body [] pos) (tX X.K G E H0 zE (.fr p .seq (.cons (.var i) .nil) b)):=by
 refine PS.imp (vX x.own x.calm (G8 x.toXI h1 h2) (sO x.loc e) hb (λ_=>rfl)) λD σ H q=>?_;let(f,ow,g,z,rr,rw,h,ee,j):=q;have k:Zd (Zd (match g[i]? with | ↑↑s=>Ze _ | _=>Zg) _) _ z=↑rr:=ee
 cases hs:g[i]? with
 |none=>rw[hs] at k;cases k
 |some o =>
  cases o with
  |none=>rw[hs] at k;cases k
  |some s =>
   rw[hs] at k;let(xs,hx,m):=M.ai k;have r:=rw.plain i;have u:=eU (H:=hz f H) ow i;let(w,A,B):=r.wor i _ (by rw[Ø ((Ý.mp hs).1),hs];rfl);let(ds,h3,C):=Ê.mp hx;let(d,rfl,F):=Ce h3;have hd :=by
    cases s with
    |d y=>cases F;exact B.2
    |fr I=>cases F;exact B.2
    |_=>cases F
   obtain⟨J,L,P⟩:∃ J,RW X.K H0 zE f J H ((g.set i ((g[i]?.getD none).map n5)).map (rY (sh [n5 s]))) σ/\ae _ (hw J (hz f H)):=by
    rw[rZ];cases sh _ with
    |true=>exact#[_,r,ae.refl _]|false=>exact#[_,r.dO,pK _]
   cases d with
   |tup l =>
    cases C;let(a,I,rfl,U,Y):=hd.fW;exact#[a,A,.inl #[#[I,(ak f H).j6 (ae.j6 ef U)],xC (Cb U Y) L h P m (j.mono (ae.trans u P))]]
   |lst l =>
    cases C;let(a,I,rfl,U,Y):=hd.jZ;exact#[a,A,.inr #[#[I,((U.same ef).same (ak f H)).sq],xC (zg U Y) L h P m (j.mono (ae.trans u P))]]
   |_=>cases C
theorem Qp(x:XS lm X G E N sc cn){it:It}{pos:Pos}(hp:fi N (cI sc) p tg)(hi:PI X tg iter (GG X.K G E it src))(e:gu iter)(hv:FW it src=none)(hb:dM X body (tX X.K G E H0 zE b)) :
  PS X (.For tg iter body [] pos) (tX X.K G E H0 zE (.fr p it src b)):=by
 refine PS.imp (vX x.own x.calm hi (sO x.loc hp) hb (Ck e X.env)) λD σ H q=>?_;let(f,ow,g,z,rr,rw,i,ee,n):=q;have e0:Zd (ev G.F src g) (λl=>Zd (Zf ((iC l).bind (uy it))) λr=>qx (fBody G.F zE.isNone p b) r ((sj it src l g).map (rY (sh l)))) z=some rr:=ee;rcases M.bind_some e0 with ⟨l,z1,s,u⟩ | ⟨c,z1,s,u⟩
 .let(r,hx,A):=M.ai u;refine#[f,g,z,_,rw.dH,i,s,r,hx,λJ H1 B aO IT=>?_];have C:=rw.mono B;have frz:qx (fBody G.F zE.isNone p b) r (dO g) z1=some rr->_:=λA=>xC (G:=G) (E:=E) (D:=D) (IT (λ_=>True) (hz f H1) (ae.refl _) (λ_ _ q=>q) (λ_ _ _ q=>q) (λds I d hd=>by cases d <;> first | trivial | exact λ_ _=>trivial) λ_ _ q _=>q) C.dO aO (by rw[eT];exact ae.refl _) A (n.mono (ae.trans (aZ B) (pK ow)))
  rw[rZ] at A;have L:sj it src l g=match pB l with | true=>dO g | false=>g:=by
   unfold sj;rw[hv] <;> cases pB l <;> rfl
  have tt:dO (dO g)=dO g:=by
   unfold dO;rw[æ];refine Uo λo _=>?_
   match o with
   |none=>rfl|some (.d _)=>rfl|some (.fr _)=>rfl|some .z=>rfl
  cases P:pB l with
  |true =>
   rw[P] at L;rw[L] at A;dsimp only at A;rw[tt,ite_self] at A;exact frz A
  |false =>
   rw[P] at L;rw[L] at A;dsimp only at A;split at A
   .rename_i U;refine xC (IT (λy=>bare y=true) (hw ow (hz f H1)) ef (λa ys q=>A0 q C.xq) (λd v hd q=>oq C.xq hd q) (λds I d hd=>?_) λa ys q Y=>?_) C aO (ae.refl _) A (n.mono (aZ B))
    .have h:=U;unfold sh at h;rw[I] at h;have:=Ó.mp h d hd;cases d with
     |tup m=>exact λy hy=>pM this hy|lst m=>exact λy hy=>pM this hy|_=>trivial
    .rcases Y with ⟨hn,hm1⟩ | hm
     .refine cO.of (cB (aV hm1 (i.mR hn)) λj w=>?_);let(zs,k):=rw.lst j a w;rw[hn] at k;cases k
     .rw[P] at hm;cases hm
   .exact frz A
 .subst u;exact#[f,g,z,_,rw.dH,i,s,n.KY rw]
end
section
variable {K:Ã}{H0:Hp}{zE zA:Zl}{z:Z}{H Hb H':Hp}{as:Zo}
theorem G9(fresh:∀ a∈as,H a=none)(x:Ext zA H Hb)(c:∀ b u,b ∉ as->Hb b=↑u->H' b=↑u):Ext zA H H':=by
 refine#[λb o e=>?_,λb d e=>?_]
 .let(f,g):=bZ e;exact aV (c b o (λq=>by simp_all) (x.at f g (ck e))) g (ck e)
 .let(i,h):=x.cK b d e;exact#[i,c b _ (λq=>by simp_all) h]
theorem JV(d:aF zA z Hb)(f:∀ a∈as,zA≠↑a)(g:∀ a∈as,∃ i,Hb a=↑(.lst i))(j:∀ b u,b ∉ as->Hb b=↑u->H' b=↑u):aF zA z H':=by
 have ne:∀ {b:È}{u:HO},Hb b=↑u->(∀ l,u≠.lst l)->H' b=↑u:=λ{b u} e n=>j b u (λq=>by grind) e
 refine#[?_,λp m=>?_]
 .have:=d.zat;cases zA with
  |none =>
   cases z with
   |none=>trivial|some pr=>exact this.elim
  |some a =>
   cases z with
   |none=>exact this.elim|some pr=>exact j a _ (λq=>f a q rfl) (show Hb a=↑(.lst _) from this)
 .let(o,e,r,k):=d.tab p m;refine#[o,ne e (λ_ h=>nomatch h),r,λpos c h=>?_];let(s,v,x):=k pos c h;simp_all
theorem RW.off{b:Env}{c d:L2.St}(r:RW K H0 zE zA (λ_=>none) H b c){i j:Nat}(f:d.length=c.length)(h:∀ k,k≠i->k≠j->d[k]?=c[k]?):RW K H0 zE zA (λ_=>none) H ((b.set i none).set j none) d:=by
 refine#[by rw[ô,ô,f];exact r.len,λi j a h=>(by cases h),λi a h=>(by cases h),λi a h=>(by cases h),λk s e=>?_,r.ext,r.zok,λi a h=>(by cases h)]
 rcases getElem?_set' e with ⟨rfl,g,_⟩ | ⟨n1,g⟩
 .cases g
 .rcases getElem?_set' g with ⟨rfl,l,_⟩ | ⟨n2,l⟩
  .cases l
  .rw[h k n2 n1];exact r.wor k s l
theorem zz{i:Nat}:iQ (λ_=>none) i=λ_=>none:=by
 funext k
 unfold iQ;split <;> rfl
structure Bk(K:PySem.W.Frag)(zA:Option Addr)(B:Hp)(p:Addr)(as:⇑Addr)(bs:⇑⇑D)(H:Hp):Prop where
 out:H p=↑(.lst (as.map V.ref))
 nd:as.Nodup
 pas:p ∉ as
 new:∀ a∈as,B a=none/\zA≠↑a
 pn:B p=none/\zA≠↑p
 len:as.length=bs.length
 at_:∀ (k:Nat) (a:Addr) (b:⇑D),as[k]?=↑a->bs[k]?=↑b->∃ ys,H a=↑(.lst ys)/\aN K (hz zA B) b ys
theorem Bk.mono{B:Hp}{p:È}{bs:⇑⇑D}(b:Bk K zA B p as bs H)(x:Ext zA H H'):Bk K zA B p as bs H' :=
 #[x.at b.out b.pn.2,b.nd,b.pas,b.new,b.pn,b.len,λk a c d e=>by
  let(f,g,h):=b.at_ k a c d e;exact#[f,x.at g (b.new a (Û d)).2,h]]
theorem Bk.put{B:Hp}{p:È}{bs d:List (List D)}(b:Bk K zA B p as bs H){n:Int}{x:D}{v:V}(f:Hd K (hz zA B) x v)(e:FY bs n x=some d):∃ a g,Ai (as.map V.ref) n=some (.ref a)/\a∈as/\H a=some (.lst g)/\g.length < most/\∀ H',H'=upd H a (.lst (g++[v]))->Bk K zA B p as d H':=by
 obtain⟨⟨h,i,j⟩,e⟩:=bC e;cases e;obtain⟨m,rfl⟩:∃ m:Nat,n=(m:Int):=#[n.toNat,(VO h).symm];rw[show(m:Int).toNat=m from rfl] at j ⊢;have l:m < bs.length:=_f i
 have o:m < as.length:=by rw[b.len];exact l
 have r:as[m]?=some as[m]:=Õ o;have s:bs[m]?=some (bs.getD m []):=by rw[Ñ,Õ l];rfl
 let(g,u,y):=b.at_ m _ _ r s;refine#[as[m],g,lL (by rw[Ú,r];rfl),UN o,u,by rw[y.length];exact j,λH' A=>?_]
 subst A;refine#[?_,b.nd,b.pas,b.new,b.pn,by rw[ô];exact b.len,λk a c C E=>?_]
 .rw[ag (λq:p=as[m]=>b.pas (by rw[q];exact UN o))]
  exact b.out
 .by_cases F:k=m
  .subst F;rw[r] at C;cases C;rw[Ø l] at E;cases E;exact#[_,ao,y.append (.cons f .nil)]
  .rw[Ï (ñ F)] at E;let(G,I,J):=b.at_ k a c C E;have L:a≠as[m]:=λq=>F (by
    have N:=(Ý.mp C).1;have P:as[k]=as[m]:=by rw[<-q];exact(Ý.mp C).2
    exact(List.getElem_inj b.nd).mp P)
   exact#[G,by rw[ag L];exact I,J]
theorem Bk.hd{B:Hp}{p:È}{bs:⇑⇑D}(b:Bk K zA B p as bs H)(x:Ext zA B H)(e:aF zA z H):Hd K (hz zA H) (.lst (bs.map D.lst)) ↥p:=by
 refine Hd.lst (aV b.out b.pn.2) (xB (by rw[Æ,Æ];exact b.len.symm) λk d v f g=>?_)
 rw[Ú] at f g;let(c,c1,rfl):=Ë.mp f;let(a,h,rfl):=Ë.mp g;let(i,j,l):=b.at_ k a c h c1;exact Hd.lst (aV j (b.new a (Û h)).2) (l.same x.same)
end
section
variable {lm:Bool}{X:Cx}{G:Gs}{E:XK}{N:Zj}{sc:ò}{cn:Zj}{H0:Hp}{zE:Zl}
theorem Hc{a:Env}{k:Nat}{b:⇑D}(h:rowAt a k=↑b):a[k]?=↑↑(.d (.lst b)):=by
 unfold rowAt at h;split at h
 .cases h;assumption
 .cases h
theorem Qq(x:XS lm X G E N sc cn){y w n q:Str}{re ie:Ö}{p1 p2 p3 p4 p5 p6 p7 p8 p9 p10 p11 p12 p13 p14 apos cpos:Pos}
  (hi:N[i]?=↑y) (hj:N[j]?=↑w) (hk:N[k]?=↑n) (ly:cI sc y) (lw:cI sc w) (ny:az y) (nw:az w) (nn:az n) (cc:pJ bD sc N [q] []) (hr:glob sc "range") (hL:bS ns) (gr:Good X G E ns [re]) (gi:aw X G E ix ie) (hs:hJ ie) (hl:(apos.endLine == cpos.line)) (hrr:dM X rest (tX X.K G E H0 zE r)) :
  dM X (.Assign [.Name y p1] (.ListComp (.List [] p2) [#[.Name q p3,.Call (.Name "range" p4) [re] [] p5,[],0]] bD p6) p7::.For (.Name w p8) (.Name n p9) [.Expr (.Call (.Attribute (.Subscript (.Name y p10) ie p11) "append" apos) [.Name w p12] [] cpos) p13] [] p14::rest)
   (tX X.K G E H0 zE (.bkt i j k ns ix r)):=by
 have nn0:=nn;unfold az at ny nw nn;simp only[Á,ç] at ny nw nn;have Lc:=x.loc;have hp:fi N (cI sc) (.v j) (.Name w p8)=true:=by
  show(N[j]? == ↑w&&cI sc w)=true;rw[hj,lw];simp
 refine dM.imp (bz (by
  let(b,f):=zo        ;cases b with
  |false =>
   exact eO (by rw[x.hN];exact x.nd) (by rw[x.hN];exact hi) (Lc.lc y ly) (qF  x.calm (lU x.toXI cc) (qQ x.toXI rfl hr hL gr)
    (λg C s H o=>jn (i:=0)  (by simp[aT,ay]) rfl ((dv x.toXI cc g C s H o).lc q ⋯) ((dv x.toXI cc g C s H o).fn q ⋯)) (λg C s H o=>nK) (λg C s H o=>oW cM) (λ_=>rfl)) f (Lc.fn y ly)
  |true =>
   exact BH (by rw[x.hN];exact x.nd) (by rw[x.hN];exact hi) (Lc.lc y ly) f x.calm (lU x.toXI cc) (qQ x.toXI rfl hr hL gr)
    (λg C s H o=>jn (i:=0) (x:=q) (by simp[aT,ay]) rfl ((dv x.toXI cc g C s H o).lc q ⋯) ((dv x.toXI cc g C s H o).fn q ⋯)) (λg C s H o=>nK) (λg C s H o=>oW cM) (λ_=>rfl) (Lc.fn y ly)) (bz (vX x.own x.calm (G8 x.toXI hk nn0) (sO x.loc hp)
  (lI (lJ (uO VS VM VL iW (yp qC (cg (i:=i) (by rw[x.hN];exact hi) (x.vis y (Û hi)) ny.1 ny.2) gi.pe (jA hs))
   (bA (cg (i:=j) (by rw[x.hN];exact hj) (x.vis w (Û hj)) nw.1 nw.2) cM) rfl rfl hl rfl rfl) (dR rfl none))) (λ_=>rfl)) hrr)) λD σ H qq=>?_
 let(A,ow,ρ,z,rr,rw,st,ee,po):=qq;have ee:DF G.F i j k ns ix (ex G.F zE.isNone r) ρ z=↑rr:=ee;unfold DF at ee;by_cases il:i < ρ.length/\j < ρ.length/\i≠j/\k≠i/\k≠j
 rotate_left
 .rw[Zw il] at ee;cases ee
 rw[Zv il] at ee;let(il1,il2,ij,ki,kj):=il;have hil:i < σ.length:=by rw[<-rw.len];exact il1
 have hjl:j < σ.length:=by rw[<-rw.len];exact il2
 have r0:=rw.dO;rcases M.bind_some ee with ⟨l,z1,e1,e2⟩ | ⟨c,z1,e1,e2⟩
 rotate_left
 .subst e2;exact#[A,_,z,_,r0.dH,st,e1,po.KY r0]
 let(cs,hcs,e3):=M.ai e2;let(xs,hxs,e4):=M.ai e3;let(cs',hcs,B):=Ê.mp hcs;let(few,B):=bC B;cases B;refine#[A,_,z,_,r0.dH,st,e1,cs,hcs,λJ H1 x1 aO IT=>?_];have IO:=IT.ok;have big:most + most < sizeLine:=by rw[gV];decide
 have most1:1000<=most:=by decide
 refine#[λt m ys I=>m=cs.length - t/\t<=cs.length/\∃ as:Zo,ys=as.map V.ref/\as.length=t/\as.Nodup/\(∀ a∈as,H1 a=none/\A≠↑a/\I a=↑(.lst []))/\Ext A H1 I/\aF A z1 I,
  #[_,rfl,Vl _,[],rfl,rfl,List.nodup_nil,λ_ h=>(nomatch h),Ext.refl,aO],?_]
 rintro t m ys I ⟨rfl,tn,as,rfl,al,nd,fa,xx,stt⟩;by_cases e:t=cs.length
 rotate_left
 .have hlt:t < cs.length:=Nat.lt_of_le_of_ne tn e;refine .inr #[IO.go t I xx hlt,by rw[Æ,al];omega,λzs L=>∃ as:Zo,zs=as.map V.ref/\as.length=t + 1/\as.Nodup/\(∀ a∈as,H1 a=none/\A≠↑a/\L a=↑(.lst []))/\Ext A H1 L/\aF A z1 L,λzs L qq=>#[cs.length - (t + 1),by omega,rfl,hlt,qq],λv L yv=>?_]
  let(s1,_):=IO.yld t I v L z1 _ xx stt yv (Õ hlt);unfold gp nJ;dsimp only;rw[Zv rfl];refine#[Vl _,λa P=>?_];have s2:ae L (upd L a (.lst [])):=ae.new _ P;have st2:=stt.same s1;have na:a ∉ as:=λh=>by
   have:=s1 _ _ (fa a h).2.2;rw[P] at this;cases this
  have zn:=st2.mR P;refine#[as++[a],by rw[Um];rfl,by rw[õ,al];rfl,?_,λb f=>?_,xx.trans ((Ext.of s1).trans (Ext.of s2)),st2.same s2]
  .exact Yo.mpr #[nd,⋯,λb f c hc=>by rw[Ô.mp hc];exact λq=>na (q ▸ f)]
  .rcases ù.mp f with f | f
   .let(k1,k2,k3):=fa b f;exact#[k1,k2,s2 _ _ (s1 _ _ k3)]
   .rw[Ô.mp f];exact#[(xx.trans (Ext.of s1)).free P zn,zn,ao]
 subst e;refine .inl #[IO.stop I xx,λp hp=>?_];unfold gp;have hrow:=Hc hxs;obtain⟨v0,hv0,-,hd0⟩:=r0.wor k _ hrow;rw[eT] at hd0;let(a0,us,rfl,hls,hda):=hd0.jZ;have x2:=x1.trans xx;have s2:ae I (upd I p (.lst (as.map V.ref))):=ae.new _ hp;have x3:=x2.trans (Ext.of s2);have st3:=stt.same s2;have zp:=stt.mR hp;have sq:∀ I,Ext A H I->gU X.K I a0 us:=λI x=>((hls.same x.same).same (ak A I)).sq;have free:∀ a∈as,H a=none:=λa P=>x1.free (fa a P).1 (fa a P).2.1;have bk0:Bk X.K A H p as (ì cs.length []) (upd I p (.lst (as.map V.ref))):=by
  refine#[ao,nd,λh=>?_,λa P=>#[free a P,(fa a P).2.1],#[x2.free hp zp,zp],by rw[Vp,al],λt a b e1 e2=>?_]
  .rw[(fa p h).2.2] at hp;cases hp
  .have eb:b=[]:=by
    rw[VW] at e2;split at e2
    .cases e2;rfl
    .cases e2
   subst eb;exact#[[],s2 _ _ (fa a (Û e1)).2.2,.nil]
 refine#[a0,by rw[Ï (ñ ki)];exact hv0,.inr #[#[us,sq _ x3],?_]]
 refine ED (xs:=us) (λt U I=>U.length=σ.length/\(∀ m,m≠i->m≠j->U[m]?=σ[m]?)/\U[i]?=↑↑↥p/\Ext A H I/\∃ bs zt,Bk X.K A H p as bs I/\aF A zt I/\yT G.F j ix ((Q.dO ρ).set i none) (xs.drop t) bs (λbs=>ex G.F zE.isNone r (((Q.dO ρ).set i ↑(.d (.lst (bs.map L2.D.lst)))).set j none)) zt=↑rr)
  #[by rw[ô],λm h1 h2=>Ï (ñ h1),Ø hil,x3,_,z1,bk0,st3,e4] (λt U I _ h=>sq _ h.2.2.2.1) (λt v' U I en #[q1,q2,q3,q4,bs,zt,q5,q6,q7]=>?_) λU I #[q1,q2,q3,q4,bs,zt,q5,q6,q7]=>?_
 .have ht:t < xs.length:=by rw[<-hda.length];exact(Ý.mp en).1
  rw[UO ht] at q7;let(v1,g1,g2):=hda.get (Õ ht);rw[en] at g1;cases g1;have rB:=(r0.mono q4).off q1 q2;have rC:RW X.K H0 zE A (λ_=>none) I (((Q.dO ρ).set i none).set j ↑(.d xs[t])) (U.set j ↑v'):=by
   have:=rB.GQ (i:=j) (x:=xs[t]) (v:=v') (by rw[eT];exact g2.same q4.same)
   rw[zz,List.set_set] at this;exact this
  unfold gP;refine#[_,by show(U.set j ↑v')[i]?=_;rw[Ï (ñ ij)];exact q3,?_]
  refine bU rC.dH q6 q7 (po.yj rC) λl2 z2 e5=>?_;let(bs2,f,e6):=M.ai e5;let(n',hn,Y):=Ê.mp f;let(d,hd,hi'):=Ê.mp hn;let(s,rfl,hs'):=bJ hd;refine#[s,rfl,λu H2 x4 st4 rv4=>?_];have hdu:=qd rv4 hs';cases d with
  |int n2 =>
   cases hi';obtain rfl:=hdu.bK;let(a,ys,P,hm,hy,hlt,Y):=(q5.mono x4).put (g2) Y;refine#[p,_,n',_,rfl,rfl,gU.of (q5.mono x4).out,P,.inl #[rfl,ys,gU.of hy],v',Ø (by rw[q1];exact hjl),a,ys,v',rfl,rfl,hy,by omega,?_]
   have off:∀ b u,b ∉ [a]->H2 b=↑u->upd H2 a (.lst (ys++[v'])) b=↑u:=λb u f e=>by rw[ag (λq=>f (Ô.mpr q))];exact e
   refine#[by rw[ô];exact q1,λm h1 h2=>by rw[Ï (ñ h2)];exact q2 m h1 h2,by rw[Ï (ñ ij)];exact q3,?_,bs2,z2,Y _ rfl,?_,e6]
   .exact G9 (as:=[a]) (λb f=>by rw[Ô.mp f];exact free a hm) (q4.trans x4) off
   .exact JV (as:=[a]) st4 (λb f=>by rw[Ô.mp f];exact(fa a hm).2.1) (λb f=>by rw[Ô.mp f];exact#[ys,hy]) off
  |_=>cases hi'
 .have eu:us.length=xs.length:=hda.length;rw[eu,YD] at q7;have rB:=(r0.mono q4).off q1 q2;have rC:RW X.K H0 zE A (λ_=>none) I (((Q.dO ρ).set i ↑(.d (.lst (bs.map L2.D.lst)))).set j none) U:=by
   have:=rB.GQ (i:=i) (x:=.lst (bs.map L2.D.lst)) (v:=↥p) (by rw[eT];exact q5.hd q4 q6)
   rw[zz,List.set_comm _ _ (ñ ij),List.set_set] at this;have es:U.set i ↑↥p=U:=by
    apply ext_getElem?;intro m;by_cases hm:m=i
    .subst hm;rw[Ø (by rw[q1];exact hil)];exact q3.symm
    .rw[Ï (ñ hm)]
   rw[es] at this;exact this
  exact#[A,_,_,zt,rr,rC,q6,q7,po.mono (by rw[eT];exact ae.trans ef q4.same)]
structure Tg where
 y:Str
 q:Str
 rg:Str
 w:Str
 n:Str
 y2:Str
 ap:Str
 w2:Str
 re:Expr
 ie:Expr
 bD:Scope
 rest:List Stmt
 apos:Pos
 cpos:Pos
 p1:Pos
 p2:Pos
 p3:Pos
 p4:Pos
 p5:Pos
 p6:Pos
 p7:Pos
 p8:Pos
 p9:Pos
 p10:Pos
 p11:Pos
 p12:Pos
 p13:Pos
 p14:Pos
def Qr(u:Tg):⇑Stmt:=.Assign [.Name u.y u.p1] (.ListComp (.List [] u.p2) [#[.Name u.q u.p3,.Call (.Name u.rg u.p4) [u.re] [] u.p5,[],0]] u.bD u.p6) u.p7::.For (.Name u.w u.p8) (.Name u.n u.p9) [.Expr (.Call (.Attribute (.Subscript (.Name u.y2 u.p10) u.ie u.p11) u.ap u.apos) [.Name u.w2 u.p12] [] u.cpos) u.p13] [] u.p14::u.rest
def Sx:(a:⇑Uv)->Option {u:Tg // a=Qr u}
 |.Assign [.Name y b] (.ListComp (.List [] p2) [#[.Name q c,.Call (.Name d e) [f] [] g,[],0]] h i) j::.For (.Name w k) (.Name n l) [.Expr (.Call (.Attribute (.Subscript (.Name m o) ie p) r s) [.Name w2 v] [] x) z] [] A::B=>↑#[#[y,q,d,w,n,m,r,w2,f,ie,h,B,s,x,b,p2,c,e,g,i,j,k,l,o,p,v,z,A],rfl]|_=>none
def JW(lm:Bool)(a:⇑(Str × Zj))(nums:⇑(Str × Int))(sc:ò)(N:Zj)(i j k:Nat)(b c:Ex)(d:⇑Uv):Option ⇑Uv:=(Sx d).bind λu =>
  if [N[i]? == ↑u.1.y,N[j]? == ↑u.1.w,N[k]? == ↑u.1.n,cI sc u.1.y,cI sc u.1.w,az u.1.y,az u.1.w,az u.1.n,jB u.1.bD sc N [u.1.q] [],glob sc "range",bS b,mt lm a nums b sc N [u.1.re],!bS c,mt lm a nums c sc N [u.1.ie],hJ u.1.ie,u.1.apos.endLine == u.1.cpos.line,u.1.rg == ("range":Str),u.1.y2 == u.1.y,u.1.w2 == u.1.w,u.1.ap == ("append":Str)].all id then ↑u.1.rest else none
theorem Qs(x:XS lm X G E N sc cn)(h:JW lm G.fns G.nums sc N i j k ns a ss=some rest)(b:dM X rest (tX X.K G E H0 zE r)):dM X ss (tX X.K G E H0 zE (.bkt i j k ns a r)):=by
 obtain⟨⟨u,rfl⟩,-,h⟩:=Ê.mp h;let(c,e):=bC h;cases e;refine xu c λd f g l m n o p q s v y z A B C F H I J=>?_
 delta Qr
 rw[ZD F,ZD H,ZD I,ZD J];exact Qq x (ZD d) (ZD f) (ZD g) l m n o p (vn q) s v (sound G ns x.toXI y) (aB (by simpa using z) (sound G a x.toXI A)) B C b
end
def isQ:Sm->Bool
 |.nil=>true|.seq _ _=>true|.grp ..=>true|.bkt ..=>true|.lams ..=>true|_=>false
def He:Ö->Bool
 |.IfExp ..=>false|_=>true
def Sy:Ö->Bool
 |.SetComp ..=>false|.DictComp ..=>false|_=>true
def Sz(a:Bool)(b:⇑(Str × Zj))(nums:⇑(Str × Int))(it:It)(c:Ex)(d:ò)(N:Zj)(e f:Ö):Bool:=match it with
 |.seq=>mt a b nums c d N [f]|.rng1=>opt (DN f) λr=>r.1.1 == ("range":Str)&&glob d r.1.1&&mt a b nums c d N [r.1.2.2.1]|.rng2=>opt (DO f) λr=>r.1.1 == ("range":Str)&&glob d r.1.1&&mt a b nums c d N [r.1.2.2.1,r.1.2.2.2.1]|.zip=>opt (DO f) λr=>r.1.1 == ("zip":Str)&&glob d r.1.1&&fB e&&mt a b nums c d N [r.1.2.2.1,r.1.2.2.2.1]|.enum=>opt (DN f) λr=>r.1.1 == ("enumerate":Str)&&glob d r.1.1&&fB e&&mt a b nums c d N [r.1.2.2.1]
def SA:(p:iD)->Option {q:Nat × Nat // p=.tup (.cons (.v q.1) (.cons (.v q.2) .nil))}
 |.tup (.cons (.v i) (.cons (.v j) .nil))=>↑#[(i,j),rfl]|_=>none
def SD:(e:Ex)->Option {q:Ex × Ex // e=.tup (.cons q.1 (.cons q.2 .nil))}
 |.tup (.cons a (.cons b .nil))=>some #[(a,b),rfl]|_=>none
def SE:(e:Ö)->Option {q:Ö × Ö × Nat × Pos // e=.Tuple [q.1,q.2.1] q.2.2.1 q.2.2.2}
 |.Tuple [a,b] k p=>↑#[(a,b,k,p),rfl]|_=>none
def SF(a:ò)(p:iD)(e:Ex)(b v:Ö):Bool:=opt (SA p) λ_=>opt (SD e) λ_=>opt (Pu b) λt=>opt (SE v) λu =>
  [!(t.1.1 == t.1.2.2.1),a.names.lookup t.1.1 == some .local,a.names.lookup t.1.2.2.1 == some .local,t.1.2.2.2.1.line == t.1.2.1.line,noStar u.1.1,noStar u.1.2.1,!([u.1.1,u.1.2.1].all (Y1 8)),!([u.1.1,u.1.2.1].all (constantsAlone 8))].all id
def isNm:Ö->Bool
 |.Name ..=>true|_=>false
def TX(_:ò)(_ _:Ö):Bool:=false
def setB(a:ò)(p:iD)(e:Ex)(b v:Ö):Bool :=
 if isNm b then(Sy v || TX a b v) else if fB b then(if fB v then(match v with | .Tuple c _ _=>c.all (Y1 8) | _=>false) || (match b with | .Tuple d _ _=>d.any (A1 λy=>a.names.lookup y) | _=>false) || SF a p e b v else true) else false
def Hg:(e:⇑Uv)->Option {q:Ö × Ö × Pos // e=[.Assign [q.1] q.2.1 q.2.2]}
 |[.Assign [a] v p]=>↑#[(a,v,p),rfl]|_=>none
def Qt:(e:List Uv)->Option {q:Zt × Pos // e=[.Return q.1 q.2]}
 |[.Return v p]=>some #[(v,p),rfl]|_=>none
def SG:(e:⇑Uv)->Option {q:Ö × ⇑Uv × ⇑Uv × Pos // e=[.If q.1 q.2.1 q.2.2.1 q.2.2.2]}
 |[.If c a b p]=>↑#[(c,a,b,p),rfl]|_=>none
def Qu:(e:⇑Uv)->Option {q:Ö × Ö × ⇑Uv × Pos // e=[.For q.1 q.2.1 q.2.2.1 [] q.2.2.2]}
 |[.For a b c [] p]=>↑#[(a,b,c,p),rfl]|_=>none
def Qw:(e:List Uv)->Option {q:Ö × List Uv × Pos // e=[.While q.1 q.2.1 [] q.2.2]}
 |[.While c a [] p]=>some #[(c,a,p),rfl]|_=>none
def Nm:(e:⇑Uv)->Option {q:Ö × Pos // e=[.Raise ↑q.1 none q.2]}
 |[.Raise ↑x none p]=>↑#[(x,p),rfl]|_=>none
def K0:(e:⇑Uv)->Option {q:Ö × Pos // e=[.Expr q.1 q.2]}
 |[.Expr v p]=>↑#[(v,p),rfl]|_=>none
def Qx:(e:Ö)->Option {q:Str × Pos × Str × Nat × Pos × Pos // e=.Call (.Name q.1 q.2.1) [.Constant (.str q.2.2.1) q.2.2.2.1 q.2.2.2.2.1] [] q.2.2.2.2.2}
 |.Call (.Name n a) [.Constant (.str y) k p2] [] b=>↑#[(n,a,y,k,p2,b),rfl]|_=>none
def Qy:(e:Ö)->Option {q:Str × Pos × Str × Pos × Ö × Pos // e=.Call (.Attribute (.Name q.1 q.2.1) q.2.2.1 q.2.2.2.1) [q.2.2.2.2.1] [] q.2.2.2.2.2}
 |.Call (.Attribute (.Name n p) a b) [v] [] c=>some #[(n,p,a,b,v,c),rfl]|_=>none
def SH:(e:Ö)->Option {q:Str × Pos × Nat × Pos × Pos // e=.Subscript (.Name q.1 q.2.1) (.Constant (~~~0) q.2.2.1 q.2.2.2.1) q.2.2.2.2}
 |.Subscript (.Name n p) (.Constant (~~~0) c a) b=>↑#[(n,p,c,a,b),rfl]|_=>none
def SI:(e:Ö)->Option {q:Str × Pos // e=.Name q.1 q.2}
 |.Name n p=>some #[(n,p),rfl]|_=>none
def Qz:(e:⇑Uv)->Option {q:Str × Pos × Xw × Ö × Pos // e=[.AugAssign (.Name q.1 q.2.1) q.2.2.1 q.2.2.2.1 q.2.2.2.2]}
 |[.AugAssign (.Name n p) a v pos]=>↑#[(n,p,a,v,pos),rfl]|_=>none
def Np:(e:⇑Uv)->Option {q:Str × Pos × Ö × Pos × Ö × Pos // e=[.AugAssign (.Subscript (.Name q.1 q.2.1) q.2.2.1 q.2.2.2.1) .Add q.2.2.2.2.1 q.2.2.2.2.2]}
 |[.AugAssign (.Subscript (.Name n p) w a) .Add v pos]=>↑#[(n,p,w,a,v,pos),rfl]|_=>none
def Cv:Ex->Bool
 |.con .cD=>true|_=>false
def xD(a:Bool)(d:List (Str × Zj))(nums:List (Str × Int))(cn:Zj)(h:ò)(N:Zj):Sm->List Uv->Bool
 |.nil,l=>l.isEmpty|.seq s r,l=>opt l.head? λm=>!isQ s&&isQ r&&xD a d nums cn h N s [m]&&xD a d nums cn h N r l.tail|.grp i j k src,l=>Qm a d nums h N i j k src l
 |.bkt i j k n x r,l=>match JW a d nums h N i j k n x l with
  |some y=>isQ r&&xD a d nums cn h N r y|none=>false
 |.lams i z g e t r,l=>match zx a d nums h N i z g e t r l with
  |some w=>isQ t&&isQ r&&xD a d nums cn h N t w.body&&xD a d nums cn h N r w.rest|none=>false
 |.set p e,l=>opt (Hg l) λq=>!bS e&&fi N (cI h) p q.1.1&&mt a d nums e h N [q.1.2.1]&&setB h p e q.1.1 q.1.2.1
 |.ret e,l=>opt (Qt l) λq=>match q.1.1 with
  |some v=>!bS e&&mt a d nums e h N [v]|none=>Cv e
 |.iff c t u,l=>opt (SG l) λq=>!bS c&&He q.1.1&&isQ t&&isQ u&&mt a d nums c h N [q.1.1]&&xD a d nums cn h N t q.1.2.1&&xD a d nums cn h N u q.1.2.2.1|.fr p it src b,l=>opt (Qu l) λq=>fi N (cI h) p q.1.1&&bS src&&gu q.1.2.1&&isQ b&&Sz a d nums it src h N q.1.1 q.1.2.1&&xD a d nums cn h N b q.1.2.2.1|.whl c b,l=>opt (Qw l) λq=>!bS c&&He q.1.1&&isQ b&&mt a d nums c h N [q.1.1]&&xD a d nums cn h N b q.1.2.1|.rais c,l=>opt (Nm l) λq=>opt (Qx q.1.1) λr=>cn[c]? == some r.1.1&&glob h r.1.1|.exp e,l=>opt (K0 l) λq=>pL q.1.1&&!bS e&&mt a d nums e h N [q.1.1]|.app i e,l=>opt (K0 l) λq=>opt (Qy q.1.1) λr=>r.1.2.2.1 == ("append":Str)&&N[i]? == some r.1.1&&az r.1.1&&noStar r.1.2.2.2.2.1&&!bS e&&r.1.2.2.2.1.endLine == r.1.2.2.2.2.2.line&&mt a d nums e h N [r.1.2.2.2.2.1]|.newz i f as,l=>opt (Hg l) λq=>opt (SI q.1.1) λr=>N[i]? == some r.1.1&&cI h r.1.1&&pL q.1.2.1&&mt a d nums (.call f as) h N [q.1.2.1]|.zset i e,l=>opt (Hg l) λq=>opt (SH q.1.1) λr=>N[i]? == some r.1.1&&az r.1.1&&!bS e&&mt a d nums e h N [q.1.2.1]|.augi i x e,l=>opt (Np l) λq=>N[i]? == some q.1.1&&az q.1.1&&hJ q.1.2.2.1&&!bS e&&!bS x&&mt a d nums e h N [q.1.2.2.2.2.1]&&mt a d nums x h N [q.1.2.2.1]|.aug o i e,l=>opt (Qz l) λq=>N[i]? == some q.1.1&&cI h q.1.1&&JL o q.1.2.2.1&&!bS e&&mt a d nums e h N [q.1.2.2.2.1]
section
variable {lm:Bool}{X:Cx}{G:Gs}{E:XK}{N:Zj}{sc:ò}{cn:Zj}{H0:Hp}{zE:Zl}
theorem QA(x:XI lm X G E N sc){it:It}(c:bS src)(h:Sz lm G.fns G.nums it src sc N d iter):PI X d iter (GG X.K G E it src):=by
 cases it with
 |seq =>
  let(a,rfl,e):=Cn c (sound G src x h);exact GH e
 |rng1 =>
  obtain⟨⟨⟨n,_,a,_⟩,rfl⟩,-,h⟩:=aA h;simp only[Á,Zy] at h;exact qQ x h.1.1 h.1.2 c (sound G src x h.2)
 |rng2 =>
  obtain⟨⟨⟨n,_,a,b,_⟩,rfl⟩,-,h⟩:=aA h;simp only[Á,Zy] at h;exact Cf x h.1.1 h.1.2 c (sound G src x h.2)
 |zip =>
  obtain⟨⟨⟨n,_,a,b,_⟩,rfl⟩,-,h⟩:=aA h;simp only[Á,Zy] at h;exact Cj x h.1.2 h.1.1.1 h.1.1.2 c (sound G src x h.2)
 |enum =>
  obtain⟨⟨⟨n,_,a,_⟩,rfl⟩,-,h⟩:=aA h;simp only[Á,Zy] at h;exact sQ x h.1.2 h.1.1.1 h.1.1.2 c (sound G src x h.2)
theorem zB(h:He e):∀ t a b p,e≠.IfExp t a b p:=by
 intro t a b p c;subst c;cases h
def GS(X:Cx)(G:Gs)(E:XK)(H0:Hp)(zE:Zl)(s:Sm)(a:⇑Uv):Prop:=(isQ s=true->dM X a (tX X.K G E H0 zE s))/\(isQ s=false->∃ b,a=[b]/\PS X b (tX X.K G E H0 zE s))
theorem gj{s:Sm}{a:Uv}(b:isQ s=false)(h:PS X a (tX X.K G E H0 zE s)):GS X G E H0 zE s [a]:=#[λk=>(by simp_all),λ_=>#[a,rfl,h]]
theorem JX{x:XI lm X G E N sc}{e:Ex}{elt:Ö}{a:List Comprehension}{b:ò}{q:Pos}(h:mt lm G.fns G.nums e sc N [.ListComp elt a b q])(c:bS e=false):M1 X G E e (.ListComp elt a b q):=by
 cases e with
 |comp own d p it g i j =>
  match a,h with
  |[#[k,l,m,0]],h=>exact mT.set (elt:=elt) (tg:=k) (iter:=l) (ifs:=m) (bD:=b) (q:=q) x.calm (vo (λx _=>sound G g x) (λx _=>sound G i x) (λx _=>sound G j x) x h)
 |nil=>cases c
 |cons _ _=>cases c
 |bf f as=>cases f <;> cases h
 |_=>cases h
theorem JY(h:isNm e):∃ y p,e=.Name y p:=by
 cases e <;> first | exact#[_,_,rfl] | cases h
theorem lV(h:fB e):∃ a k p,e=.Tuple a k p:=by
 cases e <;> first | exact#[_,_,_,rfl] | cases h
theorem QBp(x:XS lm X G E N sc cn){pos s py B C:Pos}{kt kv:Nat}{y w:Str}{a b:Ö}{F H:Ex}{i j:Nat}(l:(noStar (.Name y s)&&(N[i]? == some y&&cI sc y)&&(noStar (.Name w py)&&(N[j]? == some w&&cI sc w)&&([]:Zm).isEmpty))=true)(n:(bS (.cons F (.cons H .nil))&&mt lm G.fns G.nums (.cons F (.cons H .nil)) sc N [a,b])=true)(o:[!(y == w),sc.names.lookup y == some .local,sc.names.lookup w == some .local,py.line == s.line,noStar a,noStar b,!([a,b].all (Y1 8)),!([a,b].all (constantsAlone 8))].all id):PS X (.Assign [.Tuple [.Name y s,.Name w py] kt B] (.Tuple [a,b] kv C) pos) (tX X.K G E H0 zE (.set (.tup (.cons (.v i) (.cons (.v j) .nil))) (.tup (.cons F (.cons H .nil))))):=by
 refine xu o λI J L k4 k5 k6 k7 k8=>?_
 rw[Á,Á,Á,Á,Á,Á,Zy,Zy] at l;rw[Á] at n
 have I:=(Bool.not_eq_true' _).mp I
 refine P8 x l.1.2.1 l.2.1.2.1 I (eq_of_beq J) (eq_of_beq L) (sound G _ x.toXI n.2) (M0 x.bk ?_ ?_ I k4 k5 k6 ((Bool.not_eq_true' _).mp k7) ((Bool.not_eq_true' _).mp k8))
 .unfold Env.kindOf;rw[x.sco];exact eq_of_beq J
 .unfold Env.kindOf;rw[x.sco];exact eq_of_beq L
theorem QB(x:XS lm X G E N sc cn){pos:Pos}(h:(!bS e))(l:fi N (cI sc) p m)(n:mt lm G.fns G.nums e sc N [v])(o:setB sc p e m v):PS X (.Assign [m] v pos) (tX X.K G E H0 zE (.set p e)):=by
 unfold setB at o;split at o
 .rename_i r;let(y,s,rfl):=JY r;cases p with
  |v i =>
   have l:(N[i]? == some y&&cI sc y)=true:=l;rw[Á,Zy] at l;refine P7 x l.1 l.2 (aB (aK h) (sound G e x.toXI n)) (λu gs bD q z=>?_) (λa b c d z=>?_) (λa b c d f z=>?_)
   .subst z;exact JX (x:=x.toXI) n (aK h)
   .subst z;cases o
   .subst z;cases o
  |tup _=>cases l
  |nil=>cases l
  |cons _ _=>cases l
 .have g:=aB (aK h) (sound G e x.toXI n);split at o
  .rename_i A;split at o
   .rename_i z;rw[Vd,Vd] at o;rcases o with (o | o) | o
    .let(ts,k,B,rfl):=lV A;let(vs,k',C,rfl):=lV z;exact A2 x l g rfl (JJ o)
    .let(ts,k,B,rfl):=lV A;let(vs,k',C,rfl):=lV z;refine A2 x l g rfl (JK ?_);have e:X.env.kindOf=λy=>sc.names.lookup y:=by funext y;unfold Env.kindOf;rw[x.sco]
     rw[e];exact o
    .clear g h A z;obtain⟨⟨q1,rfl⟩,-,o⟩:=aA o;obtain⟨⟨q2,rfl⟩,-,o⟩:=aA o;obtain⟨⟨q3,rfl⟩,-,o⟩:=aA o;obtain⟨⟨q4,rfl⟩,-,o⟩:=aA o;exact QBp x l n o
   .rename_i z;exact A2 x l g A (JI (by simpa using z))
  .cases o
theorem DW(h:Cv e):e=.con .cD:=by
 delta Cv at h
 split at h
 .rfl
 .cases h
theorem QC(x:XS lm X G E N sc cn){e:Ex}{o:Zt}{pos:Pos}(h:(match o with | ↑v=>!bS e&&mt lm G.fns G.nums e sc N [v] | none=>Cv e)=true):PS X (.Return o pos) (tX X.K G E H0 zE (.ret e)):=by
 cases o with
 |some v =>
  rw[Á] at h;by_cases hv:∃ i,e=.var i
  .let(i,rfl):=hv;have h2:=h.2;cases v with
   |Name n p =>
    have h2:(N[i]? == ↑n&&az n)=true:=h2;rw[Á,Zy] at h2;exact M3 x h2.1 h2.2
   |_=>cases h2
  .exact P9 (λi hi=>hv #[i,hi]) (aB (aK h.1) (sound G e x.toXI h.2))
 |none =>
  have he:=DW h;subst he;refine PS.imp Io λD σ H q=>?_;let(zA,ow,ρ,z,rr,rw,st,ee,po):=q;cases ee;exact po _ H (λk=>nomatch k) rw.ext (zi rw.zok st) (show Hd X.K _ _ _ from Hd.cD)
theorem SJ(x:XS lm X G E N sc cn){p:iD}{it:It}{src:Ex}{b:Sm}{tg iter:Ö}{body:⇑Uv}{pos:Pos}(h1:fi N (cI sc) p tg=true)(h2:bS src=true)(h3:gu iter=true)(h5:Sz lm G.fns G.nums it src sc N tg iter=true)(hb:dM X body (tX X.K G E H0 zE b)) :
  PS X (.For tg iter body [] pos) (tX X.K G E H0 zE (.fr p it src b)):=by
 cases hv:FW it src with
 |some q =>
  let(i,rfl,rfl):=q;have h5':(noStar iter&&!bS _&&bS _&&mt lm G.fns G.nums _ sc N _&&mt lm G.fns G.nums _ sc N [])=true:=h5;simp only[Á] at h5';have h7:=h5'.1.2;cases iter with
  |Name n np =>
   have h7:(N[i]? == ↑n&&az n)=true:=h7;rw[Á,Zy] at h7;exact Nl x h1 h7.1 h7.2 hb
  |_=>cases h7
 |none=>exact Qp x h1 (QA x.toXI h2 h5) h3 hv hb
theorem Nq(x:XS lm X G E N sc cn):∀ (s:Sm) {d:List Uv},xD lm G.fns G.nums cn sc N s d->GS X G E H0 zE s d:=by
 intro s
 induction s with
 |nil =>
  intro d h;have:d=[]:=YM.mp h;subst this;exact#[λ_=>P4,λk=>by cases k]
 |seq s r l m =>
  intro d h;let(st,h0,h):=aA h;cases d with
  |nil=>cases h0
  |cons z A =>
   cases h0;simp only[Á,ç,List.tail_cons] at h;obtain⟨⟨⟨B,C⟩,F⟩,H⟩:=h;let(z,he,hs):=(l F).2 B;cases he;exact#[λ_=>P5 hs ((m H).1 C),λk=>by cases k]
 |grp i j k I =>
  intro d h;exact#[λ_=>Qn x h,λk=>by cases k]
 |bkt i j k ns J r m =>
  intro d h;have h:(match JW lm G.fns G.nums sc N i j k ns J d with
   |some A=>isQ r&&xD lm G.fns G.nums cn sc N r A
   |none=>false)=true:=h
  cases hw:JW lm G.fns G.nums sc N i j k ns J d with
  |none=>rw[hw] at h;cases h
  |some A =>
   rw[hw] at h;have h:(isQ r&&xD lm G.fns G.nums cn sc N r A)=true:=h;rw[Á] at h;exact#[λ_=>Qs x hw ((m h.2).1 h.1),λk=>by cases k]
 |lams i ls g e t r K m =>
  intro d h;have h:(match zx lm G.fns G.nums sc N i ls g e t r d with
   |some w=>isQ t&&isQ r&&xD lm G.fns G.nums cn sc N t w.body&&xD lm G.fns G.nums cn sc N r w.rest
   |none=>false)=true:=h
  cases hw:zx lm G.fns G.nums sc N i ls g e t r d with
  |none=>rw[hw] at h;cases h
  |some w =>
   rw[hw] at h;have h:(isQ t&&isQ r&&xD lm G.fns G.nums cn sc N t w.body&&xD lm G.fns G.nums cn sc N r w.rest)=true:=h;simp only[Á] at h;obtain⟨⟨⟨B,C⟩,F⟩,H⟩:=h;exact#[λ_=>Nk x hw ((K F).1 B) ((m H).1 C),λk=>by cases k]
 |set p e =>
  intro d h;refine oe h ?_;clear h;rintro ⟨q,rfl⟩ h;simp only[Á] at h;exact gj rfl (QB x h.1.1.1 h.1.1.2 h.1.2 h.2)
 |ret e =>
  intro d h;refine oe h ?_;clear h;rintro ⟨q,rfl⟩ h;exact gj rfl (QC x h)
 |iff c t u K ihu =>
  intro d h;refine oe h ?_;clear h;rintro ⟨q,rfl⟩ h;simp only[Á] at h;obtain⟨⟨⟨⟨⟨⟨B,C⟩,F⟩,H⟩,L⟩,P⟩,U⟩:=h;exact gj rfl (Sv (aB (aK B) (sound G c x.toXI L)) (zB C) ((K P).1 F) ((ihu U).1 H))
 |fr p it I b ih =>
  intro d h;refine oe h ?_;clear h;rintro ⟨q,rfl⟩ h;simp only[Á] at h;obtain⟨⟨⟨⟨⟨B,C⟩,F⟩,H⟩,L⟩,P⟩:=h;exact gj rfl (SJ x B C F L ((ih P).1 H))
 |whl c b ih =>
  intro d h;refine oe h ?_;clear h;rintro ⟨q,rfl⟩ h;simp only[Á] at h;obtain⟨⟨⟨⟨B,C⟩,F⟩,H⟩,L⟩:=h;exact gj rfl (Qe x (aB (aK B) (sound G c x.toXI H)) (zB C) ((ih L).1 F))
 |rais c =>
  intro d h;refine oe h ?_;clear h;rintro ⟨⟨e,pos⟩,rfl⟩ h;dsimp only at h;refine oe h ?_;clear h;rintro ⟨⟨n,Y,y,k,p2,p3⟩,rfl⟩ h;simp only[Á,Zy] at h;exact gj rfl (x_raise x h.1 h.2)
 |exp e =>
  intro d h;refine oe h ?_;clear h;rintro ⟨q,rfl⟩ h;simp only[Á] at h;exact gj rfl (Qa (aB (aK h.1.2) (sound G e x.toXI h.2)) h.1.1)
 |app i e =>
  intro d h;refine oe h ?_;clear h;rintro ⟨⟨v0,pos⟩,rfl⟩ h;dsimp only at h;refine oe h ?_;clear h;rintro ⟨⟨n,Y,a,apos,v,cpos⟩,rfl⟩ h;simp only[Á,Zy] at h;obtain⟨⟨⟨⟨⟨⟨U,h8⟩,C⟩,F⟩,H⟩,L⟩,P⟩:=h;subst U;exact gj rfl (Qd x h8 C F (aB (aK H) (sound G e x.toXI P)) (by rw[L];exact beq_self_eq_true _))
 |newz i f as =>
  intro d h;refine oe h ?_;clear h;rintro ⟨⟨tg,v,pos⟩,rfl⟩ h;dsimp only at h;refine oe h ?_;clear h;rintro ⟨⟨y,Y⟩,rfl⟩ h;simp only[Á,Zy] at h;obtain⟨⟨⟨B,C⟩,F⟩,H⟩:=h;exact gj rfl (M6 x B C (aB rfl (sound G (.call f as) x.toXI H)) F)
 |zset i e =>
  intro d h;refine oe h ?_;clear h;rintro ⟨⟨tg,v,pos⟩,rfl⟩ h;dsimp only at h;refine oe h ?_;clear h;rintro ⟨⟨n,Y,c,p2,p3⟩,rfl⟩ h;simp only[Á,Zy] at h;exact gj rfl (M7 x h.1.1.1 h.1.1.2 (aB (aK h.1.2) (sound G e x.toXI h.2)))
 |augi i J e =>
  intro d h;refine oe h ?_;clear h;rintro ⟨⟨n,Y,w,tp,v,pos⟩,rfl⟩ h;simp only[Á,Zy] at h;obtain⟨⟨⟨⟨⟨⟨B,C⟩,F⟩,H⟩,L⟩,P⟩,U⟩:=h;exact gj rfl (M5 x B C (aB (aK H) (sound G e x.toXI P)) (aB (aK L) (sound G J x.toXI U)) F)
 |aug o i e =>
  intro d h;refine oe h ?_;clear h;rintro ⟨⟨y,Y,op,v,pos⟩,rfl⟩ h;simp only[Á,Zy] at h;exact gj rfl (Qb x h.1.1.1.1 h.1.1.1.2 h.1.1.2 (aB (aK h.1.2) (sound G e x.toXI h.2)))
end
structure GX(P:Program)(w:World)(K:PySem.W.Frag)(mg:Str->Option Value)(base:Heap)(G:Gs)(cn:⇑Str):Prop where
 gok:∀ f nm ps,G.fns[f]?=↑(nm,ps)->∃ fa fd,mg nm=↑↥fa/\PySem.W.keepIn K ↥fa=true/\Binds K fd ps []/\jo P w K mg base (pX P w) G.lv fa fd ps (Im K G f ps.length)
 num:∀ p∈G.nums,∃ t,mg p.1=↑(.int p.2 t)
 blt:∀ n∈AQ,mg n=none
 cls:∀ c x,cn[c]?=↑x->mg x=↑↥(G.cls c)/\PySem.W.excIn K (G.cls c) [.type "ValueError",.type "Exception",.type "BaseException",.type "object"] "ValueError.__new__"=true
section
variable {P:å}{w:î}{K:Ã}{mg:Str->Zn}{base:ö}{G:Gs}{cn:Zj}
abbrev QD(n k:Nat):Prop:=n=k + 2
abbrev Q5(k:Nat):Nat:=k
structure JZ(P:Program)(w:World)(K:PySem.W.Frag)(mg:Str->Option Value)(base:Heap)(cls:Nat->Addr)(fR:Addr)(fdR:FuncData):Prop where
 bm:BMain mg base
 cls:∀ j,j < 12->pq K mg (cls j) j
 m:mg "_law_refused"=some (.ref fR)
 kp:PySem.W.keepIn K (.ref fR)=true
 bd:Binds K fdR ["_law_call"] []
 fn:∀ k,nU P w K mg base yu (k + 2) fR fdR ["_law_call"] (Fz P w K mg base (k + 1))
def J0(K:Ã)(a:Str)(fd:UA):Prop:=∃ (c P:È) (q:Str),fd.code=↥c/\Ue K c P=true/\(∀ b n f d,(Xu a b n f d).qual++"<lambda>"=q)/\(P,q)∈TB.tb/\∀ p∈TB.tb,p.1=P->p.2=q
def LP(P:å)(w:î)(K:Ã)(mg:Str->Zn)(base:ö)(G:Gs)(k:Nat):Prop:=∀ f a b,G.fns[f]?=↑(a,b)->∃ c fd,mg a=↑↥c/\Wi K ↥c=true/\Binds K fd b []/\jo P w K mg base (pX P w) k c fd b (Im K (lowG G k) f b.length)
theorem Nr(g:GX P w K mg base G cn){lm:Bool}{N ps:Zj}{qual:Str}{sc:ò}{f:È}{fd:UA}{cd:Ä}{A:þ}{outer:List VV}{s:Ç}{H:Hp}{E:XK}(S:eP N ps sc)(hl:N.all (cI sc)=true)
  (hr:ez G.lv (A.deeper (Xu qual sc s.heap.objs.size f cd))) (hc:fd.code=cd) (hlam:lm=true->∃ k fR fdR,QD G.lv k/\JZ P w K mg base G.cls fR fdR/\J0 K qual fd/\LP P w K mg base G k):XS lm (iU (pX P w) P w K mg base N qual sc f cd A outer s H E) G E N sc cn where
 gok:=g.gok
 num:=g.num
 blt:=g.blt
 hN:=rfl
 nd:=S.nd
 vis:=λx hx=>by
  have:=Ó.mp hl x hx;unfold cI at this;rw[Vd,Zy,Zy] at this;rcases this with h | h
  .exact .inl h
  .exact .inr (.inl h)
 glb:=λx h=>h
 cel:=λx h=>h
 calm:=rfl
 room:=hr
 pas:=OO
 lam:=λh=>by
  obtain⟨k,fR,fdR,e1,L,⟨c,P',q,d1,d2,d3,d4,d5⟩,lo⟩:=hlam h;exact#[c,P',q,k,fR,fdR,rfl,hc.symm.trans d1,d2,d3 _ _ _ _,d4,d5,L.bm,e1,L.cls,L.m,L.kp,L.bd,L.fn k,lo]
 sco:=rfl
 fnk:=S.kind
 own:=PassesOwn.leaving
 can:=Ds
 fnx:=λ_=>rfl
 cls:=g.cls
theorem SK{x a:Str}{b:Uv}{f:È}{fd:UA}{N c:Zj}{k:Nat}{d:Sp}(F:ES K x a b f fd)(S:eP N c (bo b))(len:∀ e H Q E,d e H Q E->e.length=c.length)
  (g:∀ (h:Ä),fd.code=h->∀ (A:þ) (i:⇑VV) (s:Ç) (H:Hp) (e:⇑V) (Q:VK) (E:XK),ez k (A.deeper (Xu a (bo b) s.heap.objs.size f h))->d e H Q E ->
   ∃ t,dM (iU (pX P w) P w K mg base N a (bo b) f h A i s H E) (eQ b) t/\t { nx:=λ_ j=>Q .cD j,rt:=Q } (L2.start N e) H):jo P w K mg base (pX P w) (k + 1) f fd c d:=by
 let(l,m,kV,n,o,p,h,q,r,rfl,u,v):=F.ex;exact Ox u v S len λA i s H e Q E y z=>g h rfl A i s H e Q E y z
theorem zC:∀ {b:⇑S}{c:⇑V}{i:Nat}{s:S}{n:Nat},u6 K d H b c->(b.map some++ì n none)[i]?=↑↑s->∃ v,(c.map some++ì n none)[i]?=↑↑v/\wU K d H s v
 |[],_,i,s,n,h,e=>by
  simp[map_nil,V8] at e;rw[VW] at e;split at e <;> cases e
 |a::b,_,0,s,n,h,e=>by
  cases h with
  |cons f g =>
   simp_all
 |a::b,_,i + 1,s,n,h,e=>by
  cases h with
  |cons f g =>
   let(v,j,k):=zC    g (e);exact#[v,by simp_all,k]
theorem UJ.len{a b:Type}{R:a->b->Prop}:∀ {l:⇑a}{m:⇑b},UJ R l m->l.length=m.length
 |[],_,h=>by cases h;rfl
 |_::_,_,h=>by
  cases h with
  |cons c d=>simp[UJ.len d]
theorem Hh(h:u6 K b H ss c)(f:∀ s∈ss,∀ g,s≠.fr g):RW K H b b (λ_=>none) H (Q.start N.length ss) (L2.start N c):=by
 have k:ss.length=c.length:=UJ.len h;refine#[?_,λi j a e=>(nomatch e),λi a e=>(nomatch e),λi a e=>(nomatch e),λi s e=>?_,Ext.refl,.inl rfl,λi a e=>(nomatch e)]
 .unfold Q.start L2.start;simp[k]
 .unfold Q.start at e;let(v,l,m):=zC h e;refine#[v,?_,?_]
  .unfold L2.start;rw[<-k];exact l
  .cases s with
   |d x=>exact#[rfl,by rw[eT];exact m]|z=>exact#[rfl,m]
   |fr g =>
    rcases ù.mp (Û e) with q | q
    .let(n,o,p):=Ð.mp q;cases p;exact absurd rfl (f _ o g)
    .cases List.eq_of_mem_replicate q
theorem Hi(b:aF c z H):JH c d=mm z d:=by
 have b:=b.zat;cases c with
 |none =>
  cases z with
  |none=>rfl|some p=>exact b.elim
 |some a =>
  cases z with
  |none=>exact b.elim|some p=>rfl
theorem DX(b:aF c z H):z.isNone=c.isNone:=by
 have b:=b.zat;cases c with
 |none =>
  cases z with
  |none=>rfl|some p=>exact b.elim
 |some a =>
  cases z with
  |none=>exact b.elim|some p=>rfl
set_option tactic.hygienic true in
theorem Cw(g:GX P w K mg base G cn){lm:Bool}{N a:Zj}{i:Str}{j:Uv}{fa:È}{fd:UA}{b:Sm}{f:Nat}{F':FT}(Fn:ES K i i j fa fd)(Sc:eP N a (bo j))(hl:N.all (cI (bo j)))
  (ch:xD lm G.fns G.nums cn (bo j) N b (eQ j)) (hq:isQ b) (m:lm->∃ k fR n,QD G.lv k/\JZ P w K mg base G.cls fR n/\J0 K i fd/\LP P w K mg base G k)
  (hF:∀ l z,F' false f l z=run G.F (.code a.length N.length b) l z):jo P w K mg base (pX P w) (G.lv + 1) fa fd a (Im K { G with F:=F',lv:=G.lv + 1 } f a.length):=by
 refine SK Fn Sc (λvs H Q E h=>h.1) λcdv o A p s H vs Qv E hr q=>?_;let(hlen,u,z,y,r,rv,B,e,C):=q;refine#[_,(Nq (H0:=H) (zE:=u) (Nr g Sc hl hr o m) b ch).1 hq,?_];have I:(if y.length=a.length/\a.length<=N.length then(match ex G.F z.isNone b (Q.start N.length (y.map n5)) z with
  |some (.ok (.nx _) J)=>some (R.ok (S.d .cD) (mm z J))|some (.ok (.rt s) J)=>some (R.ok s (mm z J))|some (.er c J)=>some (R.er c (mm z J))
  |none=>none) else none)=some r:=by
  have:=hF y z;exact this.symm.trans e
 rw[DX B] at I;split at I
 .have L:RW K H u u _ H _ (L2.start N vs):=Hh rv.n5 λs hs xs=>by
   let(s',_,rfl):=Ð.mp hs;cases s' <;> exact λh=>nomatch h
  split at I
  .rename_i ρ J U;cases I;refine#[u,_,_,z,_,L,B,U,λzA' ow' σ' X r' Y _=>?_];refine C _ X r'.ext ?_ (show Hd K _ _ _ from Hd.cD);rw[<-Hi B];exact zi r'.zok Y
  .rename_i s1 J U;cases I;refine#[u,_,_,z,_,L,B,U,λv X nz x Y rv'=>?_];exact C v X x (by rw[<-Hi B];exact Y) rv'
  .rename_i c J U;cases I;refine#[u,_,_,z,_,L,B,U,λe X x Y hn=>?_];exact C e X x (by rw[<-Hi B];exact Y) hn
  .cases I
 .cases I
def K1(G:Gs)(T:⇑Df)(k:Nat):Gs:={ G with F:=jY T k,lv:=k }
theorem Hj{T:⇑Df}
  (a:∀ p∈G.nums,∃ t,mg p.1=↑(.int p.2 t)) (g:∀ n∈AQ,mg n=none)
  (i:∀ c x,cn[c]?=↑x->mg x=↑↥(G.cls c)/\Wv K (G.cls c) [.type "ValueError",.type "Exception",.type "BaseException",.type "object"] "ValueError.__new__")
  (hd:∀ (f:Nat) (j:Str) (m:Zj),G.fns[f]?=↑(j,m)->∃ (o:È) (fd:UA),mg j=↑↥o/\Wi K ↥o/\Binds K fd m [] /\
   ((∃ (u:Bool) (N:Zj) (v:Uv) (b:Sm),T[f]?=↑(Df.code m.length N.length b)/\ES K j j v o fd/\eP N m (bo v)/\N.all (cI (bo v))/\isQ b/\xD u G.fns G.nums cn (bo v) N b (eQ v)/\(u->∃ y B,JZ P w K mg base G.cls y B/\J0 K j fd)) ∨
    T[f]?=none)):∀ k,GX P w K mg base (K1 G T k) cn:=by
 have C:∀ k,k < 3->GX P w K mg base (K1 G T k) cn:=λk hk=>by
  refine#[λf j m h=>?_,a,g,i];let(o,fd,F,I,J,_):=hd f j m h;refine#[o,fd,F,I,J,λU H Q E q=>q.1,λA X s H args us U Q E hr he hb hv hs=>?_];let(_,zA,z,ss,r,_,_,e,_):=hs
  match k,hk with
  |0,_=>cases e
  |1,_=>cases e
  |2,_=>cases e
 intro k
 induction k using Nat.strongRecOn with
 |ind k Y =>
  match k,Y with
  |0,_=>exact C 0 (-0)|1,_=>exact C 1 (-0)|2,_=>exact C 2 (-0)
  |k + 3,Y =>
   refine#[λf j m h=>?_,a,g,i];let(o,fd,F,I,J,h4):=hd f j m h;refine#[o,fd,F,I,J,?_];rcases h4 with ⟨u,N,v,b,k1,k2,k3,k4,k5,k6,k7⟩ | h4
   .refine Cw   (Y _ (Vs _)) k2 k3 k4 k6 k5 (λhlm=>?_) λl z=>?_
    .let(y,B,L,D):=k7 hlm;exact#[k,y,B,rfl,L,D,λf j m h=>(Y k (_a (V9 _ _))).gok f j m h]
    .show(match T[f]? with | ↑d=>run (jY T (k + 2)) d l | none=>Zg) z=_
     rw[k1];rfl
   .refine#[λU H Q E q=>q.1,λA X s H args us U Q E hr he hb hv hs=>?_];let(_,zA,z,ss,r,_,_,e,_):=hs;have e':(match T[f]? with | ↑d=>run (jY T (k + 2)) d ss | none=>Zg) z=↑r:=e
    rw[h4] at e';cases e'
end
end Q
namespace L2
open PySem PySem.W PySem.Calls PyProof.Rows
def hV(a b:Thread->Bool)(c:SharedT->Thread->Option (SharedT × Thread)):Nat->SharedT->Thread->Option SharedT
 |0,_,_=>none
 |n + 1,s,t=>match a t with
  |true=>some s
  |false=>match b t with
   |false=>none
   |true=>match c s t with
    |some (d,e)=>hV a b c n d e|none=>none
theorem pN:∀ {n:Nat}{s a:SharedT}{t:Thread},hV through (stepOk b ann) (stepT (denote c) p w) n s t=↑a->topRun c p w b ann n s.abs t=↑a.abs
 |0,_,_,_,h=>by cases h
 |n + 1,s,a,t,h=>by
  unfold hV at h;unfold topRun;cases d:through t with
  |true=>simp_all
  |false =>
   rw[d] at h;cases e:stepOk b ann t with
   |false=>rw[e] at h;cases h
   |true =>
    rw[e] at h;cases f:stepT _ p w s t with
    |none=>rw[f] at h;cases h
    |some r=>rw[f] at h;rw[stepT_spec f];exact pN h
def grow:⇑Obj->Nat->BT->BT
 |[],_,t=>t|o::r,i,t=>grow r (i + 1) (t.ins i o)
def Cy(w:î)(a:OsState):SharedT:=#[grow (Yq w.params).objs.toList 0 .nil,11,(Yq w.params).life,Array.mk [],boot_drawn,boot_toks,a]
theorem DY:∀ (w:î) (a:OsState),(Cy w a).abs=#[Yq w.params,Array.mk [],boot_drawn,boot_toks,a]:=λw a=>by kernel_rfl
theorem DZ:∀ w:î,((Yq w.params).isNs è&&(Array.mk []:Array GenState).size == 0,(Yq w.params).objs.size,(Yq w.params).nsMap è "__annotations__")=(true,11,↑↥6):=λw=>by kernel_rfl
theorem J1{loose:Zj}{a:Type}{b:Ç->a}{c:î->a}{N:Nat}
  (e:opening p=plainProg p.main.scope.names) (g:ble 600 N) (f:∀ s,fenceModules? p s=↑s)
  (run:∀ (w:î) (i:OsState),(hV through (stepOk 11 ↑↥6) (stepT (denote treeTable) p w) N (Cy w i) (topStub p)).map (λs =>
   (staticsOk (importedModules p.main.body) (Yq w.params) s.abs.heap&&namesBound p s.abs.heap&&gensDone s.abs&&laidKept (Yq w.params) s.abs.heap,
    openSeen q loose (importedModules p.main.body) j true s.abs,b s.abs))=↑(true,openGood q loose,c w)):LeftO p q loose j b c N:=λw=>by
 obtain⟨⟨h,l,d,k,i⟩,m,n⟩:=Ë.mp (boot_open  e g f w);obtain⟨o,u,v⟩:_/\_/\_:=by simpa only [Xj] using DZ w
 let(s1,x,y):=Ë.mp (run w i);have r:=pN x;rw[DY] at r
 delta openEnds
 delta topFrom
 simp_all
def mU(o:Obj):Bool:=match o with
 |#[.none,none,.fields a,sl]=>a.isEmpty&&sl.isEmpty|_=>false
def Nt(h:ö)(a:È):Option Obj:=match h.get? a with
 |↑o=>if mU o then none else ↑o|none=>none
def fragOf(h:ö):Frag:=(ë h.objs.size).filterMap λa=>(Nt h a).map λo=>(a,o)
theorem gy(g:È->Option Obj)(a:È):∀ l:Zo,(l.filterMap λa=>(g a).map λo=>(a,o)).lookup a=if a∈l then g a else none
 |[]=>rfl
 |b::r=>by
  by_cases c:a=b
  .subst c;rw[Zv Í];cases d:g a with
   |none =>
    rw[Ud,d];show(r.filterMap _).lookup a=none;rw[gy g a r]
    simp_all
   |some o =>
    simp_all
  .rw[(by simp_all:(if a∈b::r then g a else none)=if a∈r then g a else none),<-(gy g a r)];cases d:g b with
   |none=>simp_all
   |some o =>
    rw[Ud,d];show V3 a ((b,o)::_)=_;simp only[V3,(by simpa using c:(a == b)=false)]
theorem D0(h:ö):(fragOf h).In h:=λa o e=>by
 delta fragOf at e
 rw[gy] at e;split at e
 .delta Nt at e
  cases b:h.get? a with
  |none=>rw[b] at e;cases e
  |some u =>
   simp_all
 .cases e
theorem J2(h:mU o):o=tabObj [].toArray:=by
 delta mU at h
 split at h
 .simp_all
 .cases h
theorem A6(e:h.get? a=↑o)(t:mU o):(fragOf h).lookup a=none:=by
 delta fragOf
 rw[gy];split
 .delta Nt;rw[e];exact Zv t
 .rfl
def sV(K:Frag)(x:Str):Option (Str × Str × Wr × FuncBody × ò × È × List (Str × È) × Ä × È × Bool):=match nsIn K è x with
 |some (some (.ref a))=>(match K.lookup a with
  |some #[_,_,.func fd,_]=>some (fd.name,fd.qualname,fd.params,fd.body,fd.scope,fd.globals,fd.closure,fd.defaults,fd.builtins,codeIn K fd.code x)
  |_=>none)
 |_=>none
def zD(x:Str)(a:Uv):Option (Str × Str × Wr × FuncBody × ò × È × ⇑(Str × È) × Ä × È × Bool):=↑(x,x,qD a,.stmts (eQ a),bo a,è,[],.none,U9,true)
set_option tactic.hygienic true in
theorem zF{K:Frag}{x:Str}{a:Uv}(e:sV K x=zD x a):∃ f fd,nsIn K è x=↑↑↥f/\ES K x x a f fd/\∃ b c sl,K.lookup f=↑#[b,c,.func fd,sl]:=by
 delta sV zD at e
 split at e
 .rename_i f d;split at e
  .rename_i b c fd sl g;let(h,i,j,bd,k,l,m,n,o,p,q,r,s,u,bl):=fd;simp[Xj,V1] at e;let(rfl,rfl,rfl,rfl,rfl,rfl,rfl,rfl,rfl,v):=e;exact#[f,_,d,#[#[b,c,o,p,q,r,s,u,sl,rfl,g,v],by simp[keepIn,g]],b,c,sl,g]
  .cases e
 .cases e
def tab0At(h:ö)(T:È):Bool:=match h.get? T with
 |↑o=>mU o|none=>false
set_option tactic.hygienic true in
theorem D1{h:ö}{T:È}(e:tab0At h T):h.get? T=some (tabObj [].toArray):=by
 delta tab0At at e
 split at e
 .rename_i o a;rw[a,J2 e]
 .cases e
def A7(h:ö)(K:Frag)(x:Str):Option Addr:=match nsIn K è x with
 |↑↑↥a=>(match K.lookup a with
  |↑#[_,_,.func b,_]=>(match b.code with
   |↥c=>(match K.lookup c with
    |↑#[_,_,.fields d,_]=>(match (d[11]?:Zn) with
     |↑↥T=>if codeHdIn K c T&&tab0At h T then ↑T else none
     |_=>none)
    |_=>none)
   |_=>none)
  |_=>none)
 |_=>none
set_option tactic.hygienic true in
theorem A8{h:ö}{K:Frag}{x:Str}{T:È}(e:A7 h K x=↑T):h.get? T=↑(tabObj [].toArray)/\∃ f a b fd sl c,nsIn K è x=↑↑↥f/\K.lookup f=↑#[a,b,.func fd,sl]/\fd.code=↥c/\codeHdIn K c T:=by
 delta A7 at e
 split at e
 .rename_i f d;split at e
  .rename_i a b fd sl g;split at e
   .rename_i c i;split at e
    .split at e
     .split at e
      .rename_i q;cases e;rw[Á] at q;let(j,k):=q;exact#[D1 k,f,a,b,fd,sl,c,d,g,i,j]
      .cases e
     .cases e
    .cases e
   .cases e
  .cases e
 .cases e
def dS:Zj:=["NoWeb","NoLot","NoPlaces","NoPlace","NoTie","NoChance","NoChances","NoPaper","TooMany","NoText","NoLine","NoDeed"]
def qe(K:Frag)(x:Str):Option Addr:=match nsIn K è x with
 |↑↑↥f=>↑f|_=>none
theorem kK{K:Frag}{x:Str}{f:È}(e:qe K x=↑f):nsIn K è x=↑↑↥f:=by
 delta qe at e
 split at e
 .cases e;assumption
 .cases e
abbrev QE:=Option Zn × Option Zn × Zs × Zs × Option Zn × Bool × Zs × Zs × Bool × ⇑Zs
def qR(K:Frag)(C:È):QE:=(findIn K (.ref C) "__getattribute__",findIn K (.ref C) "__getattr__",mroIn K C (.type "BaseException"),mroIn K C (.type "object"),findIn K (.ref C) "__class__",hasDictIn K C,kitOne K (.ref C) (.type "ValueError"),
 (qe K "ChanceError").bind λD=>exmOne K (.ref C) (.ref D),excIn K C [.type "ValueError",.type "Exception",.type "BaseException",.type "object"] "ValueError.__new__",dS.map λy=>(qe K y).bind λB=>kitOne K (.ref C) (.ref B))
def xE(x:Str):QE:=(↑↑(Value.builtin "BaseException.__getattribute__"),↑(none:Zn),↑true,↑true,↑↑(Value.builtin "object.__class__"),true,↑true,↑true,true,dS.map λy=>↑(decide (x=y)))
def oy(K:Frag)(x:Str):Zq:=match nsIn K è x with
 |↑↑(.int i _)=>↑i|_=>none
theorem zG{K:Frag}{x:Str}{i:Int}(e:oy K x=some i):∃ t,nsIn K è x=some (some (.int i t)):=by
 delta oy at e
 split at e
 .simp_all
 .cases e
def xF(K:Frag)(x:Str):Bool:=match nsIn K è x with
 |↑none=>true|_=>false
theorem zH{K:Frag}{x:Str}(e:xF K x):nsIn K è x=↑none:=by
 delta xF at e
 split at e
 .assumption
 .cases e
structure cj where
 ds:⇑(Str × Stmt)
 is:⇑(Str × Int)
 ns:⇑Str
 ms:⇑Str
 cs:⇑Str
def cj.obs(q:cj)(s:Ç) :=
 let K:=fragOf s.heap
 (q.ds.map λd=>sV K d.1,q.is.map λd=>oy K d.1,q.ns.map (xF K),q.ms.map λx=>(A7 s.heap K x).isSome,q.cs.map λx=>(qe K x).map (qR K),
  (specialIn K (.builtin "object.__class__") "__get__",takesIn K (.builtin "object.__class__")))
def cj.Nu(q:cj)(_:î) :=
 (q.ds.map λd=>zD d.1 d.2,q.is.map λd=>↑d.2,q.ns.map λ_=>true,q.ms.map λ_=>true,q.cs.map λx=>↑(xE x),
  (↑↑(Value.builtin "getset_descriptor.__get__"),↑true))
structure Facts(q:cj)(K:Frag)(h:Heap):Prop where
 fn:∀ d∈q.ds,∃ f fd,nsIn K mainGlobals d.1=↑↑↥f/\ES K d.1 d.1 d.2 f fd/\∃ oc od sl,K.lookup f=↑⟨oc,od,.func fd,sl⟩
 it:∀ d∈q.is,∃ t,nsIn K mainGlobals d.1=↑↑(.int d.2 t)
 no:∀ x∈q.ns,nsIn K mainGlobals x=↑none
 mt:∀ x∈q.ms,∃ T,h.get? T=↑(tabObj [].toArray)/\K.lookup T=none/\∃ f oc od fd sl c,nsIn K mainGlobals x=↑↑↥f/\K.lookup f=↑⟨oc,od,.func fd,sl⟩/\fd.code=↥c/\codeHdIn K c T=true
 cl:∀ x∈q.cs,∃ C,nsIn K mainGlobals x=↑↑↥C/\qR K C=xE x
 sp:specialIn K (.builtin "object.__class__") "__get__"=↑↑(Value.builtin "getset_descriptor.__get__")
 tk:takesIn K (.builtin "object.__class__")=↑true
theorem mV{b c:Type}{f g:b->c}:∀ {l:List b},l.map f=l.map g->∀ a∈l,f a=g a:=λ{l} h a d=>List.map_inj_left.mp h a d
theorem cj.facts(q:cj)(w:î)(s:Ç)(e:q.obs s=q.Nu w):Facts q (fragOf s.heap) s.heap:=by
 delta cj.obs cj.Nu at e
 simp only[Xj] at e;let(a,b,c,f,g,h,i):=e;refine#[λd hd=>zF (mV a d hd),λd hd=>zG (mV b d hd),λx j=>zH (mV c x j),λx j=>?_,λx j=>?_,h,i]
 .let(T,hT):=Option.isSome_iff_exists.mp (mV f x j);let(k,l):=A8 hT;exact#[T,k,A6 k rfl,l]
 .let(C,k,l):=Ë.mp (mV g x j);exact#[C,kK k,l]
def cj.hook(q:cj):Hook where
 α:=_
 obs:=q.obs
 val:=q.Nu
 says:=λ_ h=>∃ K:Frag,K.In h/\Facts q K h
 of:=λw s e=>#[_,D0 _,q.facts w s e]
 keeps:=λ_ h c #[K,X,F] k=>#[K,X.keeps k,#[F.fn,F.it,F.no,λx d=>let #[T,a,b]:=F.mt x d;#[T,k _ _ a,b],F.cl,F.sp,F.tk]]
theorem D2{q:cj}{A B:⇑(Str × Uv)}(a:A++B=q.ds){g h:Type}{o:Option g}{f:g->Ç}{b:g->Bool}{c:g->h}{i:h}{w:î}
  (j:o.map (λs=>(b s,c s,({ q with ds:=A }:cj).obs (f s)))=↑(true,i,({ q with ds:=A }:cj).Nu w))
  (k:o.map (λs=>B.map λd=>sV (fragOf (f s).heap) d.1)=↑(B.map λd=>zD d.1 d.2)):o.map (λs=>(b s,c s,q.obs (f s)))=↑(true,i,q.Nu w):=by
 let(s,rfl,l):=Ë.mp j;let(m,e,n):=Ë.mp k;cases e;simp only[cj.obs,cj.Nu,Xj,<-a,Um] at l ⊢;grind
end L2
namespace Q
open PySem L2 PySem.Spec PyProof.Rows
structure Row where
 nm:Str
 ps:List Str
 st:Stmt
 N:List Str
 b:Sm
 lm:Bool
def A9(N a:Zj)(b:ò):Bool:=b.kind == .function&&!b.isCoroutine&&!b.isGenerator&&decide N.Nodup&&N.take a.length == a&&a.all (λx=>b.names.lookup x == ↑.local || b.names.lookup x == ↑.cell)&&b.names.all λy=>y.2 != .free
theorem sW(h:A9 N a sc):eP N a sc:=by
 delta A9 at h
 simp only[Á,ç,Zy,Uq,Zx,Vd] at h;obtain⟨⟨⟨⟨⟨⟨b,c⟩,d⟩,e⟩,f⟩,g⟩,i⟩:=h;exact#[b,c,d,e,f,g,λy j=>by simpa using i y j]
def Ba(r:Row):Prop:=∀ (kV a b:Ä) (c:Zl) (d e:Ä) (f:Zk),f.length=r.ps.length->bindArgs (fnOf r.nm r.nm (qD r.st) (eQ r.st) (bo r.st) .none kV a b c d e) #[f,[]]=pure (r.ps.zip f)
def fN:List Row->Prop
 |[]=>True|r::l=>Ba r/\fN l
theorem fN.at:∀ {l:⇑Row}{r:Row},fN l->r∈l->Ba r
 |_::_,_,h,.head _=>h.1|_::_,_,h,.tail _ m=>fN.at h.2 m
theorem Tj(h:us.length=1):∃ a,us=[a]:=List.length_eq_one_iff.mp h
theorem TY(h:us.length=2):∃ a b,us=[a,b]:=by
 match us,h with
 |[a,b],_=>exact#[a,b,rfl]
theorem T3(h:us.length=3):∃ a b c,us=[a,b,c]:=by
 match us,h with
 |[a,b,c],_=>exact#[a,b,c,rfl]
theorem T4(h:us.length=5):∃ a b c d e,us=[a,b,c,d,e]:=by
 match us,h with
 |[a,b,c,d,e],_=>exact#[a,b,c,d,e,rfl]
def xG(a:⇑(Str × Zj))(nums:⇑(Str × Int))(r:Row):Bool:=xD r.lm a nums dS (bo r.st) r.N r.b (eQ r.st)&&isQ r.b&&r.N.all (cI (bo r.st))&&A9 r.N r.ps (bo r.st)
def ja(rows:List Row):List (Str × Zj):=rows.map λr=>(r.nm,r.ps)
def tabOf(rows:⇑Row):⇑Df:=rows.map λr=>Df.code r.ps.length r.N.length r.b
def kL(rows:⇑Row)(nums:⇑(Str × Int))(a:Zj)(ex:⇑(Str × Uv)):cj:=#[rows.map (λr=>(r.nm,r.st))++ex,nums,"ValueError"::AQ,a,dS]
def clsAt(K:Ã)(c:Nat):Addr:=(qe K (dS.getD c "")).getD 0
theorem Nv{K:Ã}{C:È}{c:Nat}{x:Str}(a:dS[c]?=↑x)(h:XH K è x=↑↑↥C):clsAt K c=C:=by
 delta clsAt
 rw[Ñ,a];show(qe K x).getD 0=C
 delta qe
 rw[h];rfl
theorem Nw{K:Ã}{h:ö}{a:Str->Zn}{q:cj}{x:Str}{j:Nat}(X:K.In h)(G:h.Ns è a)(F:Facts q K h)(b:x∈q.cs)(c:names12[j]?=↑x)(d:("ValueError":Str)∈q.ns):∃ C,XH K è x=↑↑↥C/\pq K a C j/\Wv K C [.type "ValueError",.type "Exception",.type "BaseException",.type "object"] "ValueError.__new__":=by
 let(C,f,e):=F.cl x b
 delta qR xE at e
 simp only[Xj] at e;let(g,k,l,m,u5,hd,n,o,ex,p):=e;let(D,r,o):=Ê.mp o;refine#[C,f,#[λi y s=>?_,#[g,k,l,m,u5,F.sp,F.tk],hd,n,Yi X G (F.no _ d),#[D,mg_of X G (kK r),o],(Ý.mp c).1],ex];let(B,v,z):=Ê.mp (mV p y (Û s));refine#[B,mg_of X G (kK v),z.trans (congrArg some (decide_eq_decide.mpr #[λq=>?_,λq=>?_]))]
 .subst q;exact(List.getElem?_inj (Ý.mp s).1 (by decide +kernel)).mp (s.trans c.symm)
 .subst q
  grind
section
variable {P:å}{w:î}{K:Ã}{mg:Str->Zn}{base:ö}
theorem Tn(F:jo P w K mg base (pX P w) k f fd ps sp):jo P w K mg base yu k f fd ps (λvs H Q _=>sp vs H Q λ_ _ _=>False) :=
 #[λvs H Q E h=>F.len _ _ _ _ h,λA outer s H args us vs Q E hr he hb hv hs=>U4 (F.run A outer s H args us vs Q _ hr he hb hv hs) λr s' h=>by
  cases r with
  |error e =>
   let(_,_,_,_,_,_,_,_,_,_,_,_,_,hE):=h;exact hE.elim
  |ok fl=>cases fl <;> exact h]
theorem SM:Yr ([].toArray:Zp).toList:=by first | trivial | grind
theorem cO.BY[b:Tb](h:cO K H a xs):cO K (hz none H) a xs:=by
 rcases h with (h | ⟨o,h⟩) | h
 .exact .inl (.inl (aV h (λq=>nomatch q)))
 .exact .inl (.inr #[o,aV h (λq=>nomatch q)])
 .exact .inr h
theorem Hk[b:Tb]{G:Gs}{T:⇑Df}{k f:Nat}{H:Hp}{a:È}{g:Zi}(pure:au T k f [.d (.lst (g.map D.int))] none=↑(.ok (.d (.bl true)) none))(h:∀ p∈b.tb,H p.1=↑(.cK [].toArray))(i:cO K H a (g.map V.int)) :
  Im K (K1 G T k) f 1 [↥a] H (λv _=>v=.bl true) λ_ _ _=>False:=by
 refine#[rfl,none,none,_,_,.cons ?_ .nil,#[trivial,λp j=>#[[].toArray,h p j,SM,λpos c e=>nomatch e]],pure,λv l x m n=>Hd.yV (show Hd K (hz none l) _ v from n)];exact#[a,_,rfl,i.BY,aN.ints g]
end
def J3(a:Str):Str:=(Xu a #[.function,[],false,false,[]] 0 0 .none).qual++"<lambda>"
theorem Hl{rows:List Row}{f:Nat}(h:(ja rows)[f]?=some (nm,a)):∃ r∈rows,rows[f]?=some r/\r.nm=nm/\r.ps=a:=by
 delta ja at h
 rw[Ú] at h;let(r,b,c):=Ë.mp h;cases c;exact#[r,Û b,b,rfl,rfl]
section
variable [TB:Tb] {P:å}{w:î}{K:Ã}{h:ö}{mg:Str->Zn}{base:ö}{rows:⇑Row}{nums:⇑(Str × Int)}{mn:Zj}{ex:⇑(Str × Uv)}
def Bb(rows:List Row)(mn:Zj)(ex:List (Str × Uv)):Prop:=∀ r∈rows,r.lm=true->r.nm∈mn/\∃ (a:Uv) (n:Nat),(("_law_refused":Str),a)∈ex/\bo a=iZ/\eQ a=wA OQ/\Ba #["_law_refused",["_law_call"],a,[],.nil,false]
def Hm[TB:Tb](K:Ã)(rows:⇑Row):Prop:=∀ r∈rows,r.lm=true->∀ fd,(∃ f a b sl,XH K è r.nm=↑↑↥f/\K.lookup f=↑#[a,b,.func fd,sl])->J0 K r.nm fd
theorem xH(X:K.In h)(a:h.Ns è mg)(Q:Facts (kL rows nums mn ex) K h):∀ c x,dS[c]?=↑x->XH K è x=↑↑↥(clsAt K c)/\pq K mg (clsAt K c) c/\Wv K (clsAt K c) [.type "ValueError",.type "Exception",.type "BaseException",.type "object"] "ValueError.__new__":=λc x b=>by
 let(C,d,e,f):=Nw   X a Q (Û b) b Í;rw[Nv b d];exact#[d,e,f]
theorem xI(X:K.In h)(a:h.Ns è mg)(Q:Facts (kL rows nums mn ex) K h)(b:BMain mg base)(hR:Bb rows mn ex)(c:r∈rows)(d:r.lm):∃ e f,JZ P w K mg base (clsAt K) e f:=by
 let(g,i,n,l,m,o,p):=hR r c d;let(e,f,q,s,u,v,y,z):=Q.fn _ (ÿ _ l);refine#[e,f,b,λj A=>?_,mg_of X a q,s.kp,s.binds p,λk=>Mc s m o (Yi X a (Q.no _ (É _ (-0)))) (Yi X a (Q.no _ (É _ (-0))))]
 have B:∃ x,dS[j]?=↑x:=#[_,Õ (by exact A)]
 let(x,B):=B;exact(xH X a Q j x B).2.1
theorem J4(X:K.In h)(a:h.Ns è mg)(Q:Facts (kL rows nums mn ex) K h)(ok:rows.all (xG (ja rows) nums))(bd:fN rows)(d:BMain mg base)(hR:Bb rows mn ex)(hT:Hm K rows)(g:FT):∀ k,GX P w K mg base (K1 #[ja rows,nums,g,clsAt K,0] (tabOf rows) k) dS:=by
 refine Hj (λp i=>?_) (λn j=>?_) (λc x l=>?_) λf m o q=>?_
 .let(t,e):=Q.it p i;exact#[t,mg_of X a e]
 .exact Yi X a (Q.no n (É _ j))
 .let(s,_,u):=xH X a Q c x l;exact#[mg_of X a s,u]
 .let(r,v,y,rfl,rfl):=Hl q;let(z,fd,A,B,C,E,sl,F):=Q.fn _ (Vi _ (Ð.mpr #[r,v,rfl]));have G:=Ó.mp ok r v;unfold xG at G;simp only[Á] at G;obtain⟨⟨⟨H,b2⟩,b3⟩,b4⟩:=G;refine#[z,fd,mg_of X a A,B.kp,B.binds (bd.at v),.inl #[r.lm,r.N,r.st,r.b,?_,B,sW b4,b3,b2,H,λI=>?_]]
  .delta tabOf
   simp_all
  .let(J,U,L):=xI   X a Q d hR v I;exact#[J,U,L,hT r v I fd #[z,C,E,sl,A,F]]
theorem Hn(X:K.In h)(a:h.Ns è mg)(Q:Facts (kL rows nums mn ex) K h)(ok:rows.all (xG (ja rows) nums))(bd:fN rows)(b:BMain mg base)(hR:Bb rows mn ex)(hT:Hm K rows)(c:FT)(k:Nat)(e:rows[i]?=↑r)(g:ES K r.nm r.nm r.st j fd)
  (m:∃ f n o sl,XH K è r.nm=↑↑↥f/\K.lookup f=↑#[n,o,.func fd,sl]):jo P w K mg base (pX P w) (Q5 (k + 3)) j fd r.ps (Im K (K1 #[ja rows,nums,c,clsAt K,0] (tabOf rows) (k + 3)) i r.ps.length):=by
 have p:=Û e;have q:=Ó.mp ok r p;unfold xG at q;simp only[Á] at q;obtain⟨⟨⟨s,b2⟩,b3⟩,b4⟩:=q;have all:=J4 (P:=P) (w:=w) X a Q ok bd b hR hT c;refine Cw   (all _) g (sW b4) b3 s b2 (λu=>?_) λl z=>?_
 .let(v,x,L):=xI   X a Q b hR p u;exact#[k,v,x,rfl,L,hT r p u fd m,λf y A h=>(all k).gok f y A h]
 .show(match (tabOf rows)[i]? with | ↑d=>run (jY _ (k + 2)) d l | none=>Zg) z=_
  delta tabOf
  rw[Ú,e];rfl
end
theorem D3{P:å}{w:î}{K:Ã}{f mb:Str->Zn}{k:Nat}{fa a:È}{fd:UA}{x:Str}{sp:Sp}{g:Ç}{i:Zk}{j:Zi}{l:Zo}
  (KX:K.In g.heap) (p:g.heap.Ns è f) (A:g.heap.Ns U9 mb) (hbb:∀ x:Str,x≠"__name__"->mb x=ý x) (B:g.heap.NoLimit) (hg:g.gens=[].toArray)
  (ha:g.heap.get? a=some { cls:=.type "list",data:=.seq i.toArray }) (hi:Wu i j) (hl:j.length<=sizeLine) (hr:ez k XY)
  (hT:∀ C∈l,g.heap.get? C=some (Vo [].toArray)/\K.lookup C=none/\∃ c,Ue K c C) (bmn:BMain f g.heap)
  (F:∀ E:ö,K.In E->E.Ns è f->BMain f E->jo P w K f E yu k fa fd [x] sp) (G:∀ (s:Ç) (u:Ä),YW s fd #[[u],[]] [(x,u)])
  (hsp:∀ H:Hp,(∀ C∈l,H C=some (.cK [].toArray))->cO K H a (j.map V.int)->sp [.ref a] H (λv _=>v=.bl true) λ_ _ _=>False) :
  W5 (ß P w) XY (.call (.ref fa) #[[.ref a],[]]) (λr I=>r=.ok (.ret (.bool true))/\OldK g.heap I.heap/\I.os=g.os/\Xz I.gens) g:=by
 have rv:=pb hi;have lenV:=hi.length;have naT:a ∉ l:=λh=>by simp_all
 have J:∀ H ,(∀ C∈l,H C=some (.cK [].toArray))->(∀ b,H b=none∨b∈l∨(b=a/\∃ L,H b=some (.frz { cls:=.type "list",data:=.seq i.toArray } (.lst L))))->cO K H a (j.map V.int)->jm P w H g.heap->(H a≠none->K.lookup a=none) ->
   W5 (ß P w) XY (.call (.ref fa) #[[.ref a],[]]) (λr I=>r=.ok (.ret (.bool true))/\OldK g.heap I.heap/\I.os=g.os/\Xz I.gens) g:=by
  intro H hH hO hS aM hK;have N:∀ {b:È}{o:Obj},g.heap.get? b=some o->(∀ L n,o.data≠.seq L n)->(∀ L,o.data≠.fields L)->H b=none:=λ{b o} e d1 d2=>by
   rcases hO b with z | z | ⟨z,_⟩
   .exact z
   .have:=(hT b z).1;rw[e] at this;simp_all
   .rw[z,ha] at e;cases e;exact absurd rfl (d1 _ _)
  have U:∀ {b:È}{m:Str->Zn},g.heap.Ns b m->(qX g.heap H).Ns b m:=λ{b m} #[o,es,ep,e,d,r]=>#[o,es,ep,iS e (N e (λL n z=>by simp_all) λL z=>by simp_all),d,r]
  have hKb :=λb o e=>iS (KX b o e) (by
   rcases hO b with z | z | ⟨z,L,z2⟩
   .exact z
   .rw[(hT b z).2.1] at e;cases e
   grind)
  have hM:Mod K f _:=#[hKb,U p,#[mb,U A,hbb],let #[mc,h1,h2]:=B;#[mc,U h1,h2]];have hBM:BMain f (qX g.heap H):=by
   let(bm,ob,b1,b2,b3,b4,b5,b6):=bmn;exact#[bm,ob,b1,b2,iS b3 (N b3 (λL n z=>by simp_all) λL z=>by grind),b4,b5,b6]
  have e0:uj P w K f _ XY [] g H:=#[rfl,hM,λb o e=>Bp e,Y5 (uH _ _),trivial,λb A=>absurd (show b∈([]:Zo) from A) (by simp),aM,.of_eq hg]
  refine U4 ((F _ hKb (U p) hBM).run XY [] g H #[[.ref a],[]] [.ref a] [.ref a] _ _ hr e0 (G g (.ref a)) (.cons rfl .nil) (hsp H hH hS)) λr I h=>?_;cases r with
  |error e=>exact ú h
  |ok fl =>
   cases fl with
   |next=>exact ú h
   |brk=>exact ú h|cont=>exact ú h
   |ret u =>
    let(v,H',os,bare,un,X,r',q):=h;have q':v=.bl true:=q;subst q';obtain rfl:u=Xl true:=r';refine#[rfl,#[λb o e=>?_,λb o e=>un.there b o e (by simp)],os,bare]
    rcases hO b with z | z | ⟨z,L,z2⟩
    .exact .inl (un.keep b o e z (by intro y;exact absurd (show b∈([]:Zo) from y) (by simp)) (by simp))
    .let(t1,_,c,t2):=hT b z;rw[e] at t1;cases t1;let(more,m1):=un.tbls b _ (hH b z);have m2:I.heap.get? b=some { cls:=.none,data:=.fields ([].toArray++more) }:=X b _ m1;have CH:=codeHd_of_K KX t2;exact .inr (.inl #[(CH.tab e).isCodeTable,rfl,[].toArray,more,rfl,m2])
    .have z3:=un.frzs b _ _ z2;let(e1,_):=aM b _ z2;let(e2,_):=X b _ z3;rw[e] at e1;cases e1;exact .inl e2
 cases hk:K.lookup a with
 |some o =>
  have e:=KX a o hk;rw[ha] at e;cases e;refine J (λb=>if b∈l then some (.cK [].toArray) else none) (λC h=>Zv h) (λb=>?_) (.inr #[i.toArray,_,hk,by rw[á,lenV];exact hl,rv]) (λb u z=>?_) λz=>absurd (Zw naT) z
  .by_cases h:b∈l
   .exact .inr (.inl h)
   .exact .inl (Zw h)
  .by_cases h:b∈l
   .have Y:=(Zv h).symm.trans z;cases Y;exact(hT b h).1
   .have Y:=(Zw h).symm.trans z;cases Y
 |none =>
  refine J (λb=>if b=a then some (.frz { cls:=.type "list",data:=.seq i.toArray } (.lst (j.map V.int))) else if b∈l then some (.cK [].toArray) else none) (λC h=>?_) (λb=>?_) (.inl (.inr #[{ cls:=.type "list",data:=.seq i.toArray },Zv rfl])) (λb u z=>?_) λ_=>hk
  .rw[Zw (λy=>naT (by rw[<-y];exact h)),Zv h]
  .by_cases A:b=a
   .exact .inr (.inr #[A,_,Zv A])
   .by_cases h:b∈l
    .exact .inr (.inl h)
    .exact .inl (by rw[Zw A,Zw h])
  .by_cases A:b=a
   .have Y:=(Zv A).symm.trans z;cases Y;subst A;exact#[ha,by rw[Æ];exact hl,i,_,rv,ha]
   .replace z:=(Zw A).symm.trans z
    by_cases h:b∈l
    .have Y:=(Zv h).symm.trans z;cases Y;exact(hT b h).1
    .have Y:=(Zw h).symm.trans z;cases Y
theorem Ho{l:PySem.W.OpenLaw}{n k:Nat}{loose:Zj}{x:Str}
  (hn:l.most=↑n) (e:n<=sizeLine) (i:d.params.defaults=[]) (hr:ez k XY)
  (F:∀ (w:î) (j:Str->Zn) (m:È) (h:ö) (K:Ã),Facts A K h->K.In h->h.Ns è j->j d.name=↑↥m ->
   ∃ (fd:UA) (p:Zo) (r:Sp),(∀ y∈p,h.get? y=↑(Vo [].toArray)/\K.lookup y=none/\∃ c,Ue K c y)/\(∀ (s:Ç) (u:Ä),YW s fd #[[u],[]] [(x,u)]) /\
    (∀ z:ö,K.In z->z.Ns è j->BMain j z->jo l.prog w K j z yu k m fd [x] r) /\
    ∀ (H:Hp) (a:È) (B:Zi),B.length<=n->(∀ y∈p,H y=↑(.cK [].toArray))->cO K H a (B.map V.int)->r [↥a] H (λv _=>v=.bl true) λ_ _ _=>False) :
  PySem.W.WalkO q loose XP A.hook.says l.row.toRowW d [] (λf C=>PySem.call f C):=by
 refine Att.yt hn i λw E I j mb m o pm cd doc a C B G Y ho hd hcd J L N P hg=>?_;let(K,U,FX):=Y;let(fd,p,r,hT,hb,hF,X):=F w j m _ K FX U G.T.g J;exact D3 U G.T.g G.T.b G.T.builtins G.T.nolimit hg L N (â P e) hr hT G.T.bmain hF hb λH hH hS=>X H a B P hH hS
theorem J5{l:PySem.W.OpenLaw}{rows:⇑Row}{nums:⇑(Str × Int)}{b:Zj}{ex:⇑(Str × Uv)}{k iL n:Nat}{g:Row}(ok:rows.all (xG (ja rows) nums))(bd:fN rows)(hL:rows[iL]?=↑g)(hn:g.nm="law")(i:g.ps=[("_law_script":Str)])(j:b.length<=1)(hR:Bb rows b ex)
  (pure:∀ o:Zi,o.length<=n->au (tabOf rows) (k + 3) iL [.d (.lst (o.map D.int))] none=↑(.ok (.d (.bl true)) none)) (w:î) (q:Str->Zn) (x:È) (h:ö) (K:Ã) (Q:Facts (kL rows nums b ex) K h) (X:K.In h) (Gn:h.Ns è q) (y:q "law"=↑↥x) :
   ∃ (fd:UA) (z:Zo) (A:Sp),(∀ B∈z,h.get? B=↑(Vo [].toArray)/\K.lookup B=none/\∃ c,Ue K c B)/\(∀ (s:Ç) (u:Ä),YW s fd #[[u],[]] [("_law_script",u)]) /\
    (∀ C:ö,K.In C->C.Ns è q->BMain q C->jo l.prog w K q C yu (Q5 (k + 3)) x fd ["_law_script"] A) /\
    ∀ (H:Hp) (a:È) (o:Zi),o.length<=n->(∀ B∈z,H B=↑(.cK [].toArray))->cO K H a (o.map V.int)->A [↥a] H (λv _=>v=.bl true) λ_ _ _=>False:=by
 have E :=Û hL;let(fL,G,aL,FL,I,J,L,N):=Q.fn _ (Vi _ (Ð.mpr #[g,E,rfl]));have e:=y.symm.trans (mg_of X Gn (by rw[<-hn];exact aL))
 cases e;have U:∀ (TB:Tb) (z:Zo),(∀ p∈TB.tb,p.1∈z)->(∀ B∈z,h.get? B=↑_/\K.lookup B=none/\∃ c,Ue K c B=true)->Hm K rows ->
   ∃ (fd:UA) (z:Zo) (A:Sp),(∀ B∈z,h.get? B=↑(Vo [].toArray)/\K.lookup B=none/\∃ c,Ue K c B=true)/\(∀ (s:Ç) (u:Ä),YW s fd #[[u],[]] [("_law_script",u)]) /\
    (∀ C ,K.In C->C.Ns è q->BMain q C->jo l.prog w K q C yu _ x fd _ A) /\
    ∀ (H:Hp) (a:È) (o:Zi),o.length<=n->(∀ B∈z,H B=↑_)->cO K H a (o.map V.int)->A [↥a] H _ λ_ _ _=>False:=λTB z h1 h2 h3=>by
  refine#[G,z,λvs H Q _=>Im K (K1 #[ja rows,nums,λ_ _ _=>Zg,clsAt K,0] _ _) iL 1 vs H Q _,h2,by
  let(_,_,kV,doc,pm,an,cdv,ct,_,e,_,_):=FL.ex;subst e;intro s u;have:=(bd.at E) kV doc pm an cdv ct [u] (by rw[i];rfl)
  rw[i] at this;exact .of_eq this,λC kb nb bm=>?_,λH a o hl hH hS=>Hk (pure o hl) (λp i=>hH p.1 (h1 p i)) hS];have F:=Tn (Hn (P:=l.prog) (w:=w) X Gn Q ok bd bm hR h3 (λ_ _ _=>Zg) k hL FL #[x,I,J,L,aL,N]);rw[i] at F;exact F
 match b,j,Q with
 |[],_,Q =>
  exact U #[[]] [] (λp i=>by cases i) (λp i=>by cases i) λr hr Y=>by
   have:=(hR r hr Y).1;cases this
 |[m],_,Q =>
  let(T,t1,t2,f,oc,od,fd,sl,c,t3,t4,t5,t6):=Q.mt m (.head _);refine U #[[(T,J3 m)]] [T] (λp i=>?_) (λp i=>?_) λr hr Y fd' h'=>?_
  .simp_all
  .cases Ô.mp i;exact#[t1,t2,c,t6]
  .have hm:r.nm=m:=Ô.mp (hR r hr Y).1;rw[hm] at h' ⊢;let(f',oc',od',sl',e1,e2):=h';rw[t3] at e1;cases e1;rw[t4] at e2;cases e2;exact#[c,T,J3 m,t5,t6,λ_ _ _ _=>rfl,.head _,λp i _=>by cases Ô.mp i;rfl]
end Q
namespace Q
open L2 (D)
open PySem (Paired)
def xJ:Ex->Bool
 |.var _=>false|_=>true
def SN:Ex->Env->Option (Option S)
 |.var i,a=>a[i]?|_,_=>none
def QF:Option (Option S)->Option S
 |↑↑s=>KO s|_=>none
def SO:S->Zs
 |.d (.bl b)=>↑b|_=>none
abbrev Du{a:Type}(_:a->Z->Prop)(_:Nat->Z->Prop):Type:=Unit
abbrev Dv{a:Type}(_:a->Prop):Type:=Unit
structure W{α:Type}(m:M α)(z:Z)(Q:α->Z->Prop)(E:Nat->Z->Prop)(du:Du Q E:=()):Prop where
 ex:∃ r,m z=↑r/\match r with
  |.ok a z1=>Q a z1|.er c z1=>E c z1
theorem QG{Q:α->Z->Prop}:W m z Q E↔∃ r,m z=some r/\match r with
  |.ok a b=>Q a b|.er c b=>E c b:=#[W.ex,W.mk]
abbrev NE:Nat->Z->Prop:=λ_ _=>False
def bO{b:Type}(o:Option b)(P:b->Prop)(_:Dv P:=()):Prop:=match o with
 |↑a=>P a|none=>False
theorem K4{b:Type}{a:b}{P:b->Prop}:bO ↑a P↔P a:=XG
theorem cR{o:Option α}(h:bO o P):∃ a,o=some a/\P a:=by
 cases o with
 |none=>exact h.elim|some a=>exact#[a,rfl,h]
theorem af{o:Option α}{a:α}{P:α->Prop}(h:o=↑a)(b:P a):bO o P:=by rw[h];exact b
theorem D4{b:Type}{o:Option b}{P c:b->Prop}(h:∀ a,P a↔c a):bO o P↔bO o c:=by
 cases o with
 |none=>exact XG|some a=>exact h a
section
variable {α β:Type}{m:M α}{z z1:Z}{Q Q':α->Z->Prop}{E E':Nat->Z->Prop}
theorem W.mono(h:W m z Q E)(b:∀ a z,Q a z->Q' a z)(d:∀ c z,E c z->E' c z):W m z Q' E':=by
 let(r,e,h):=h;refine#[r,e,?_];cases r with
 |ok a z1=>exact b _ _ h|er c z1=>exact d _ _ h
theorem W.imp(h:W m z Q NE)(b:∀ a z,Q a z->Q' a z):W m z Q' E':=h.mono b λ_ _ h=>h.elim
theorem W.ok{a:α}(h:W m z (λb d=>b=a/\d=z1) NE):m z=some (.ok a z1):=by
 let(r,e,h):=h;cases r with
 |ok b d=>simp_all|er c d=>exact h.elim
theorem W.er(h:W m z (λ_ _=>False) (λd a=>d=c/\a=z1)):m z=↑(.er c z1):=by
 let(r,e,h):=h;cases r with
 |ok b a=>exact h.elim|er d a=>simp_all
theorem QH(h:m z=↑(.ok a z1)):W m z Q E↔Q a z1:=by
 constructor
 .rintro ⟨r,e,q⟩
  simp_all
 .exact λq=>#[_,h,q]
theorem SQ(h:m z=some (.er c z1)):W m z Q E↔E c z1:=by
 constructor
 .rintro ⟨r,e,q⟩
  simp_all
 .exact λq=>#[_,h,q]
theorem jU:W (Ze a) z Q E↔Q a z:=QH rfl
theorem Hq:W (Zg:M α) z Q E↔False:=#[λ#[_,e,_]=>(by cases e),ú]
set_option tactic.hygienic true in
theorem fE{f:α->M β}{Q:β->Z->Prop}:W (Zd m f) z Q E↔W m z (λa z1=>W (f a) z1 Q E) E:=by
 constructor
 .rintro ⟨r,e,q⟩;unfold Zd at e;split at e
  .rename_i a z1 b;exact#[_,b,r,e,q]
  .rename_i c z1 b;cases e;exact#[_,b,q]
  .cases e
 .rintro ⟨r,e,q⟩;cases r with
  |ok a z1 =>
   let(r,d,q):=q;refine#[r,?_,q];unfold Zd;rw[e];exact d
  |er c z1 =>
   refine#[.er c z1,?_,q];unfold Zd;rw[e]
set_option tactic.hygienic true in
theorem Hr:W (M.calm m) z Q E↔W m z Q NE:=by
 delta M.calm
 constructor
 .rintro ⟨r,e,q⟩;split at e
  .rename_i a z1 b;cases e;exact#[_,b,q]
  .cases e
 .rintro ⟨r,e,q⟩;cases r with
  |ok a z1=>exact#[_,by rw[e],q]|er c z1=>exact q.elim
theorem J6(h:∀ a z,Q a z↔Q' a z):W m z Q E↔W m z Q' E:=#[λx=>x.mono (λa z=>(h a z).mp) λ_ _ h=>h,λx=>x.mono (λa z=>(h a z).mpr) λ_ _ h=>h]
theorem wR:Q a z↔W (Ze a) z Q E:=jU.symm
theorem wN:False↔W (Zg:M α) z Q E:=Hq.symm
theorem wT[Decidable c](d:A↔W a z Q E)(e:B↔W b z Q E):(if c then A else B)↔W (if c then a else b) z Q E:=by
 split <;> assumption
theorem wG{f:β->M α}{K:β->Prop}(h:∀ a,K a↔W (f a) z Q E):bO o K↔W (Zd (Zf o) f) z Q E:=by
 cases o with
 |none=>exact Hq.symm|some a=>exact h a
theorem wB{m:M β}{V:Prop}(b:V↔W m z K E)(c:∀ a z1,K a z1↔W (f a) z1 Q E):V↔W (Zd m f) z Q E:=b.trans ((J6 c).trans fE.symm)
end
def Wm{b:Type}(o:Option (R b))(Q:b->Z->Prop)(E:Nat->Z->Prop):Prop:=match o with
 |↑(.ok a d)=>Q a d|↑(.er c d)=>E c d|none=>False
theorem wM{m:M α}{Q:α->Z->Prop}:Wm (m z) Q E↔W m z Q E:=by
 rw[QG];cases h:m z with
 |none=>exact#[ú,λ#[_,e,_]=>by cases e]
 |some r =>
  refine#[λq=>#[r,rfl,?_],λ#[_,e,q]=>?_]
  .cases r <;> exact q
  .cases e;cases r <;> exact q
def Vr(o:Option (Option S))(z:Z)(Q:List S->Z->Prop)(_:Du Q NE:=()):Prop:=match o with
 |some (some s)=>Q [n5 s] z|_=>False
def WV:FT->Ex->Env->Z->(⇑S->Z->Prop)->(Nat->Z->Prop)->Prop
 |F,.nil=>λe z Q E=>Q [] z|F,.cons a r=>λe z Q E=>WV F a e z (λx h=>bO (one x) λs=>WV F r e h (λy j=>Q (s::y) j) E) E|F,.con x=>λe z Q E=>Q [.d x] z|F,.gint g i=>λe z Q E=>Q [.d (~~~i)] z|F,.tup as=>λe z Q E=>WV F as e z (λl h=>bO (iC l) λds=>if ds.length<=most then Q [.d (.tup ds)] h else False) E|F,.lst as=>λe z Q E=>WV F as e z (λl h=>bO (iC l) λds=>if ds.length<=most then Q [.fr ds] h else False) E|F,.bin o a b=>λe z Q E=>WV F a e z (λx h=>bO (pl x) λm=>WV F b e h (λy j=>bO (pl y) λn=>bO (eR o m n) λs=>Q [s] j) E) E|F,.cmp o a b=>λe z Q E=>WV F a e z (λx h=>bO (pl x) λm=>WV F b e h (λy j=>bO (pl y) λn=>bO (f9 o m n) λt=>Q [.d (.bl t)] j) E) E|F,.neg a=>λe z Q E=>WV F a e z (λx h=>bO ((pl x).bind wL) λi=>Q [.d (~~~(-i))] h) E|F,.not a=>λe z Q E=>WV F a e z (λx h=>bO ((pl x).bind pZ) λb=>Q [.d (.bl !b)] h) E|F,.and a b=>λe z Q E=>WV F a e z (λx h=>bO ((pl x).bind pZ) λc=>if c then WV F b e h (λy j=>bO ((pl y).bind pZ) λc=>Q [.d (.bl c)] j) E else Q [.d (.bl false)] h) E|F,.or a b=>λe z Q E=>WV F a e z (λx h=>bO ((pl x).bind pZ) λc=>if c then Q [.d (.bl true)] h else WV F b e h (λy j=>bO ((pl y).bind pZ) λc=>Q [.d (.bl c)] j) E) E|F,.orT a b=>λe z Q E=>WV F a e z (λx h=>bO ((pl x).bind FO) λl=>if l.isEmpty then WV F b e h (λy j=>bO ((pl y).bind FO) λl=>Q [.d (.tup l)] j) NE else Q [.d (.tup l)] h) NE|F,.ite c a b=>λe z Q E=>WV F c e z (λx h=>bO ((pl x).bind pZ) λc=>if c then WV F a e h Q E else WV F b e h Q E) E|F,.ch o q a b c=>λe z Q E=>WV F a e z (λx h=>bO (pl x) λm=>WV F b e h (λy j=>bO (pl y) λn=>bO (f9 o m n) λt=>if t then WV F c e j (λw A=>bO (pl w) λB=>bO (f9 q n B) λt=>Q [.d (.bl t)] A) E else Q [.d (.bl false)] j) E) E|F,.bf f as=>λe z Q E=>WV F as e z (λl h=>bO (iC l) λds=>bO (n9 f ds) λs=>Q [s] h) E|F,.isi t a=>λe z Q E=>WV F a e z (λx h=>bO (pl x) λx=>Q [.d (.bl (AL t x))] h) E|F,.idx a i=>λe z Q E=>WV F a e z (λx h=>bO (pl x) λm=>WV F i e h (λy j=>bO (pl y) λn=>bO (mh m n) λr=>Q [.d r] j) E) E|F,.sl a lo C=>λe z Q E=>WV F a e z (λx h=>bO (pl x) λm=>WV F lo e h (λu j=>bO (yR u) λu=>WV F C e j (λv A=>bO (yR v) λv=>bO (R7 m u v) λs=>Q [s] A) E) E) E|F,.rev a=>λe z Q E=>WV F a e z (λx h=>bO ((pl x).bind O0) λs=>Q [s] h) E|F,.call f as=>λe z Q E=>WV F as e z (λl h=>W (F false f (l.map n5)) h (λs j=>Q [s] j) E) E|F,.comp own G p it src cond H=>λe z Q E=>WV F src e z (λl h=>bO ((iC l).bind (uy it)) λI=>if I.length<=most then W (turns (jR (ev F cond) (ev F H) p (ì own none++G.map λi=>(e[i]?).getD none)) I) h (λJ j=>Q [.fr J] j) NE else False) E|F,.lrng b as=>λe z Q E=>WV F as e z (λl h=>bO ((iC l).bind O1) λI=>Q [S8 b I] h) E|F,.oZ as=>λe z Q E=>WV F as e z (λl h=>bO (iC l) λds=>bO (FU ds) λs=>Q [s] h) E|F,.refd G a=>λe z Q E=>bO (qv e G) λK=>WV (λ_=>F true) a (K.map some) z (λ_ _=>False) (λc h=>if c < 12 then Q [.fr [~~~c]] h else False)|F,.var i=>λe z Q E=>Vr e[i]? z Q|F,.zget i k=>λe z Q E=>Wm (yS k e[i]? z) Q E
def WE(F:FT)(e:Ex)(a:Env)(z:Z)(Q:⇑S->Z->Prop)(E:Nat->Z->Prop)(_:Du Q E:=()):Prop:=WV F e a z Q E
def WX(F:FT)(a:Bool):Sm->Env->Z->(O->Z->Prop)->(Nat->Z->Prop)->Prop
 |.nil=>λd z Q E=>Q (.nx d) z
 |.seq s r=>λd z Q E=>WX F a s d z (λo h=>match o with
  |.nx d=>WX F a r d h Q E
  |.rt s=>Q (.rt s) h) E
 |.set p e=>λd z Q E=>WE F e d z (λl h=>bO (one l) λs=>bO (jS p s (dP s d)) λm=>Q (.nx m) h) E|.ret e=>λd z Q E=>if xJ e then WE F e d z (λl h=>bO ((one l).bind KO) λs=>Q (.rt s) h) E else bO (QF (SN e d)) λs=>Q (.rt s) z|.iff c t e=>λd z Q E=>WE F c d z (λx h=>bO ((pl x).bind pZ) λb=>if b then WX F a t d h Q E else WX F a e d h Q E) E|.exp e=>λd z Q E=>WE F e d z (λl h=>bO (one l) λ_=>Q (.nx d) h) E|.rais c=>λd z Q E=>E c z|.fr p it src b=>λd z Q E=>WE F src d z (λl h=>bO ((iC l).bind (uy it)) λn=>W (qx (λx d=>Zd (Zf (cz p x d)) λd=>ex F a b d) n (BW it src l d)) h Q E) E|.whl c b=>λd z Q E=>W (DD (ev F c) (ex F a b) DE d) z Q E|.grp i j k src=>λd z Q E=>if i < d.length/\j < d.length/\k < d.length then WE F (.cons src .nil) (d.set i none) z (λl h=>bO ((iC l).bind AN) λs=>Q (.rt s) h) E else False|.bkt i j k ns q r=>λd z Q E=>W (DF F i j k ns q (ex F a r) d) z Q E|.lams i ls g e t r=>λd z Q E=>W (ex F a (.lams i ls g e t r) d) z Q E|.zset i e=>λd z Q E=>WE F e d z (λl h=>bO ((pl l).bind wL) λv=>Wm (BX d v d[i]? h) Q E) E|.app i e=>λd z Q E=>bO (ownAt d i) λn=>WE F e d z (λl h=>bO (pl l) λx=>if bare x=true/\n.length < most then Q (.nx (d.set i ↑(.fr (n++[x])))) h else False) E|.newz i f as=>λd z Q E=>WE F (.call f as) d z (λl h=>Wm (u0 a d i l) Q E) E|.augi i q e=>λd z Q E=>bO (ownAt d i) λn=>WE F q d z (λj h=>bO ((pl j).bind wL) λj=>bO (L2.Ai n j) λy=>WE F e d h (λl u=>bO (pl l) λx=>bO ((wL x).bind λx=>(wL y).map λy=>D.int (y + x)) λv=>bO (sg n j v) λn=>Q (.nx (d.set i ↑(.fr n))) u) E) E|.aug o i e=>λd z Q E=>bO ((d[i]?.getD none).bind FK) λy=>WE F e d z (λl h=>bO ((pl l).bind wL) λx=>bO ((wL y).bind λy=>eR o (~~~y) (~~~x)) λs=>bO (jS (.v i) s (dP s d)) λd=>Q (.nx d) h) E
def WS(F:FT)(a:Bool)(s:Sm)(b:Env)(z:Z)(Q:O->Z->Prop)(E:Nat->Z->Prop)(_:Du Q E:=()):Prop:=WX F a s b z Q E
set_option tactic.hygienic true in
theorem Nx:W (ev F (.refd b a) d) z Q E↔bO (qv d b) λf=>W (ev (cT F) a (f.map some)) z (λ_ _=>False) (λc g=>if c < 12 then Q [.fr [~~~c]] g else False):=by
 show W (AM _ _) z Q E↔_
 delta AM
 constructor
 .rintro ⟨r,e,q⟩;split at e
  .cases e
  .rename_i f i;split at e
   .rename_i c g j;split at e
    .cases e;refine af i #[_,j,?_]
     simp_all
    .cases e
   .cases e
 .intro h;let(f,i,r,j,q):=cR h;cases r with
  |ok a g=>exact q.elim
  |er c g =>
   dsimp only at q;split at q
   .refine#[.ok _ g,?_,q]
    simp_all
   .exact q.elim
theorem Ny:∀ (e:Ex) {F:FT}{d:Env}{z:Z}{Q:⇑S->Z->Prop}{E:Nat->Z->Prop},WV F e d z Q E↔W (ev F e d) z Q E:=by
 intro e
 induction e with
 |nil=>exact wR|cons a r j n=>exact wB j λx q=>wG λs=>wB n λy A=>wR
 |var i =>
  intro F d z Q E;show Vr _ z Q↔W (match d[i]? with | ↑↑s=>Ze _ | _=>Zg) z Q E
  generalize d[i]?=o
  match o with
  |↑↑s=>exact wR|↑none=>exact wN|none=>exact wN
 |con x=>exact wR|gint g i=>exact wR|tup a j=>exact wB j λl q=>wG λds=>wT wR wN|lst a j=>exact wB j λl q=>wG λds=>wT wR wN|bin o a b j B=>exact wB j λx q=>wG λC=>wB B λy A=>wG λG=>wG λs=>wR|cmp o a b j B=>exact wB j λx q=>wG λC=>wB B λy A=>wG λG=>wG λs=>wR|neg a j=>exact wB j λx q=>wG λi=>wR|not a j=>exact wB j λx q=>wG λi=>wR|and a b j B=>exact wB j λx q=>wG λc=>wT (wB B λy A=>wG λc=>wR) wR|or a b j B=>exact wB j λx q=>wG λc=>wT wR (wB B λy A=>wG λc=>wR)|orT a b j B=>refine Iff.trans ?_ Hr.symm;exact wB j λx q=>wG λl=>wT (wB B λy A=>wG λl=>wR) wR|ite c a b H j B=>intros;exact wB H λx q=>wG λc=>wT j B|ch o I a b c j B H=>intros;exact wB j λx q=>wG λC=>wB B λy A=>wG λG=>wG λt=>wT (wB H λw J=>wG λK=>wG λt=>wR) wR|bf f a j=>intros;exact wB j λl q=>wG λds=>wG λs=>wR|isi t a j=>intros;exact wB j λx q=>wG λx=>wR|idx a i j L=>intros;exact wB j λx q=>wG λC=>wB L λy A=>wG λG=>wG λr=>wR|sl a l h j N P=>intros;exact wB j λx q=>wG λC=>wB N λu A=>wG λu=>wB P λv J=>wG λv=>wG λs=>wR|rev a j=>intros;exact wB j λx q=>wG λs=>wR|call f a j=>intros;exact wB j λl q=>wB XG λs A=>wR|comp own U p it src cond X hs H he=>intros;exact wB hs λl q=>wG λY=>wT (wB Hr.symm λys A=>wR) wN|zget i k=>intros;exact wM (m:=yS k _)|lrng b a j=>intros;exact wB j λl q=>wG λY=>wR|oZ a j=>intros;exact wB j λl q=>wG λds=>wG λs=>wR|refd U a j=>intros;exact(D4 λss=>j).trans Nx.symm
theorem aR{e:Ex}{Q:List S->Z->Prop}:WE F e a z Q E↔W (ev F e a) z Q E:=Ny e
theorem QI(h:xJ e):ex F a (.ret e) b=Zd (ev F e b) λl=>Zd (Zf ((one l).bind KO)) λs=>Ze (.rt s):=by
 cases e with
 |var i=>cases h
 |_=>rfl
theorem Nz:∀ (s:Sm) {a:Env}{z:Z}{Q:O->Z->Prop}{E:Nat->Z->Prop},WX F d s a z Q E↔W (ex F d s a) z Q E:=by
 intro s
 induction s with
 |nil=>exact wR
 |seq s r hs n =>
  refine wB hs λo q=>?_;cases o with
  |nx a=>exact n|rt s=>exact wR
 |set p e=>exact wB aR λl q=>wG λs=>wG λA=>wR
 |ret e =>
  intro a z Q E;show(if xJ e then _ else _)↔_;cases h:xJ e with
  |true =>
   rw[QI h];exact wB aR λl q=>wG λs=>wR
  |false =>
   cases e with
   |var i =>
    show bO (QF a[i]?) _↔W (match a[i]? with | ↑↑s=>Zd _ _ | _=>Zg) z Q E
    generalize a[i]?=o
    match o with
    |↑↑s=>exact wG λs=>wR|↑none=>exact wN|none=>exact wN
   |_=>cases h
 |iff c t u B C=>exact wB aR λx q=>wG λc=>wT B C|exp e=>exact wB aR λl q=>wG λs=>wR|rais c=>exact(SQ rfl).symm|fr p it src b G=>exact wB aR λl q=>wG λH=>XG|whl c b G=>exact XG|grp i j k src=>exact wT (wB aR λl q=>wG λs=>wR) wN|bkt i j k ns I r J=>exact XG|lams i ls g e t r K J=>exact XG|zset i e=>exact wB aR λl q=>wG λv=>wM |app i e=>exact wG λH=>wB aR λl q=>wG λx=>wT wR wN|newz i f as=>exact wB aR λl q=>wM (m:=λ_=>u0 d _ i l)|augi i I e=>exact wG λH=>wB aR λj q=>wG λj=>wG λy=>wB aR λl L=>wG λx=>wG λv=>wG λH=>wR|aug o i e=>intros;exact wG λy=>wB aR λl q=>wG λx=>wG λs=>wG λa=>wR
theorem mW:WS F a s b z Q E↔W (ex F a s b) z Q E:=Nz s
theorem WS.mono{s:Sm}{F:FT}{Q b:O->Z->Prop}{E d:Nat->Z->Prop}(h:WS F e s f z Q E)(g:∀ a z,Q a z->b a z)(i:∀ c z,E c z->d c z):WS F e s f z b d:=mW.mpr (W.mono (mW.mp h) g i)
theorem Cz(a:Env->Z->Prop)(h:WS F b s c z (λo d=>match o with
  |.nx c=>a c d
  |.rt s=>Q (.rt s) d) E) (e:∀ c z,a c z->WS F b r c z Q E):WS F b (.seq s r) c z Q E:=by
 refine WS.mono (s:=s) h (λo d h=>?_) λ_ _ h=>h;cases o with
 |nx c=>exact e c d h|rt s=>exact h
section
variable {T:List Df}{k f ps ns:Nat}{b:Sm}{l:List S}{z:Z}{Q:S->Z->Prop}{E:Nat->Z->Prop}
set_option tactic.hygienic true in
theorem NA(h:T[f]?=↑(.code ps ns b))(a:l.length=ps)(g:ps<=ns):W (au T (k + 3) f l) z Q E↔WS (jY T (k + 2)) z.isNone b (start ns (l.map n5)) z (λo i=>match o with
  |.nx _=>Q (.d .cD) (mm z i)
  |.rt s=>Q s (mm z i)) λc i=>E c (mm z i):=by
 refine Iff.trans ?_ mW.symm;rw[yU,h];show W (λz=>if l.length=ps/\ps<=ns then(match ex _ z.isNone b _ z with
  |↑(.ok (.nx _) i)=>↑_|↑(.ok (.rt s) i)=>↑_|↑(.er c i)=>↑_
  |none=>none) else none) z Q E↔_
 rw[QG,QG];constructor
 .rintro ⟨r,e,q⟩;rw[Zv #[a,g]] at e;split at e
  .rename_i j i m;cases e;exact#[_,m,q]
  .rename_i s i m;cases e;exact#[_,m,q]
  .rename_i c i m;cases e;exact#[_,m,q]
  .cases e
 .rintro ⟨r,e,q⟩;rw[Zv #[a,g],e]
  match r,q with
  |.ok (.nx j) i,q=>exact#[_,rfl,q]|.ok (.rt s) i,q=>exact#[_,rfl,q]|.er c i,q=>exact#[_,rfl,q]
end
section
variable {F:FT}{tp:Bool}{ρ:Env}{z:Z}{E:Nat->Z->Prop}
theorem qS{f:D->M (Option D)}{o:D->Option D}:∀ {a:⇑D}{Q:⇑D->Z->Prop},(∀ x∈a,f x z=↑(.ok (o x) z))->(W (turns f a) z Q E↔Q (a.filterMap o) z)
 |[],Q,_=>jU
 |x::r,Q,h=>by
  show W (Zd _ _) z Q E↔_;rw[fE,QH (h x Í),fE,qS λy b=>h y (É _ b),jU,Ud];cases o x <;> rfl
theorem zI{f:D->M (Option D)}{I:Z->Prop}{P:D->D->Prop}:∀ {a:⇑D}{z:Z}{Q:⇑D->Z->Prop},I z->(∀ x∈a,∀ z,I z->W (f x) z (λo b=>I b/\∃ y,o=↑y/\P x y) NE)->(∀ c b,I b->UJ P a c->Q c b)->W (turns f a) z Q E
 |[],z,Q,d,_,q=>jU.mpr (q [] z d .nil)
 |x::r,z,Q,d,h,q=>by
  show W (Zd _ _) z Q E;rw[fE];refine(h x Í z d).imp λo b #[g,y,e,i]=>?_;subst e;rw[fE];refine zI g (λj k=>h j (É _ k)) λc l m n=>?_;exact jU.mpr (q _ _ m (.cons i n))
theorem Hs(I:List D->Env->Z->Prop):∀ (a:List D) {ρ:Env}{z:Z},I a ρ z->(∀ x r ρ z,I (x::r) ρ z->W (f x ρ) z (λo b=>match o with
  |.nx ρ=>I r ρ b
  |.rt s=>Q (.rt s) b) E)->(∀ ρ z,I [] ρ z->Q (.nx ρ) z)->W (qx f a ρ) z Q E
 |[],ρ,z,c,_,q=>jU.mpr (q _ _ c)
 |x::r,ρ,z,c,h,q=>by
  show W (Zd _ _) z Q E;rw[fE];refine(h x r ρ z c).mono (λo b d=>?_) λ_ _ h=>h;cases o with
  |nx e=>exact Hs I r d h q|rt s=>exact jU.mpr d
theorem NB{c:Env->M ⇑S}{f:Env->M O}{Q:O->Z->Prop}(I:Nat->Env->Z->Prop)(step:∀ n ρ z,I n ρ z->W (c ρ) z (λx z1=>bO ((pl x).bind pZ) λk=>if k then W (f ρ) z1 (λo z2=>match o with
  |.nx ρ=>∃ m,m < n/\I m ρ z2
  |.rt s=>Q (.rt s) z2) E else Q (.nx ρ) z1) E):∀ (n m:Nat) {ρ:Env}{z:Z},I n ρ z->n < m->W (DD c f m ρ) z Q E:=by
 intro n
 induction n using Nat.strongRecOn with
 |ind n ih =>
  intro m ρ z hi hm;cases m with
  |zero=>omega
  |succ m =>
   show W (Zd _ _) z Q E;rw[fE];refine(step n ρ z hi).mono (λx z1 h=>?_) λ_ _ h=>h;let(k,e,h):=cR h;refine(wG  λk=>wT XG XG).mp (af e ?_);cases k with
   |true =>
    rw[fE];refine h.mono (λo z2 h=>?_) λ_ _ h=>h;cases o with
    |nx ρ1 =>
     let(j,hj,hi):=h;exact ih j hj m hi (Ò hj (_h hm))
    |rt s=>exact jU.mpr h
   |false =>
    exact jU.mpr h
end
mutual
noncomputable def cE:D->Ex
 |.tup l=>.tup (SR l)|.lst l=>.lst (SR l)|~~~i=>if i < 0 then .neg (.con (~~~(-i))) else .con (~~~i)|x=>.con x
noncomputable def SR:⇑D->Ex
 |[]=>.nil|x::r=>.cons (cE x) (SR r)
end
mutual
noncomputable def To:D->Bool
 |.tup l=>decide (l.length<=most)&&NC l|.lst l=>decide (l.length<=most)&&NC l|_=>true
noncomputable def NC:List D->Bool
 |[]=>true|x::r=>To x&&NC r
end
def cX(d:D)(_:To d=true):Ex:=cE d
section
variable {F:FT}{ρ:Env}{z:Z}{Q:List S->Z->Prop}{E:Nat->Z->Prop}{a b c as:Ex}{p:iD}{ρ0:Env}{x:D}{Q1:Option D->Z->Prop}
theorem xK:W (jR (ev F .nil) (ev F a) p ρ0 x) z Q1 E↔bO (cz p x ρ0) λρ=>WE F a ρ z (λy e=>bO (pl y) λd=>Q1 ↑d e) E :=
 (wG λρ=>show _↔W (Zd _ λy=>Zd (Zf (pl y)) λy=>Ze ↑y) z Q1 E from wB aR λy e=>wG λd=>wR).symm
theorem ND{l:⇑S}{m:M ⇑S}{V:Prop}(h:V↔W (Zd m λy=>Zd (Zf (pl y)) λy=>Ze ↑y) z Q1 E):(match l with | [s]=>bO (SO s) λb=>if b then V else Q1 none z | _=>l=[]/\V)↔W (match l with
  |[]=>Zd m λy=>Zd (Zf (pl y)) λy=>Ze ↑y|[.d (.bl true)]=>Zd m λy=>Zd (Zf (pl y)) λy=>Ze ↑y|[.d (.bl false)]=>Ze none
  |_=>Zg) z Q1 E:=by
 match l with
 |[]=>simp_all|[.d (.bl true)]=>exact K4.trans ((iff_of_eq (Zv rfl)).trans h)|[.d (.bl false)]=>exact K4.trans ((iff_of_eq (Zw ê)).trans wR)|[.d .cD]=>exact wN|[.d (~~~_)]=>exact wN|[.d (.str _)]=>exact wN|[.d (.tup _)]=>exact wN|[.d (.lst _)]=>exact wN|[.d .dct]=>exact wN|[.fr _]=>exact wN|[.z]=>exact wN
 |s::_::_ =>
  refine#[λx=>(by cases x.1),λx=>?_]
  cases s with
  |d y =>
   cases y with
   |bl b=>cases b <;> exact(Hq.mp x).elim
   |_=>exact(Hq.mp x).elim
  |_=>exact(Hq.mp x).elim
theorem CA:W (jR (ev F (.cons c .nil)) (ev F a) p ρ0 x) z Q1 E↔bO (cz p x ρ0) λρ=>WE F c ρ z (λy f=>bO (one y) λs=>bO (SO s) λb=>if b then WE F a ρ f (λy g=>bO (pl y) λd=>Q1 ↑d g) E else Q1 none f) E:=by
 refine Iff.symm (wG λρ=>?_);refine wB (aR  (e:=.cons c .nil)  (Q:=λl f=>match l with | [s]=>bO (SO s) λb=>if b then WE F a ρ f _ E else Q1 none f | _=>l=[]/\WE F a ρ f (λy g=>bO (pl y) λd=>Q1 ↑d g) E)) λl f=>?_
 exact ND (wB aR λy f=>wG λd=>wR)
end
section
variable {α:Type}{m:M α}{z z1:Z}{Q Q':α->Z->Prop}{E:Nat->Z->Prop}
theorem Wo(h:m z=some (.ok a z1))(q:Q a z1):W m z Q E:=#[_,h,q]
theorem We(h:m z=↑(.er c z1))(q:E c z1):W m z Q E:=#[_,h,q]
end
theorem bg{T:⇑Df}{k f ps ns:Nat}{b:Sm}{l:⇑S}{Q:S->Z->Prop}(h:T[f]?=↑(.code ps ns b))(a:l.length=ps)(e:ps<=ns)(q:WS (jY T (k + 2)) z.isNone b (start ns (l.map n5)) z (λo g=>match o with
  |.nx _=>Q (.d .cD) (mm z g)
  |.rt s=>Q s (mm z g)) λc g=>E c (mm z g)):W (au T (k + 3) f l) z Q E:=(NA h a e).mpr q
theorem ib{b:Bool}{A B:Prop}(a:b->A)(c:b=false->B):if b=true then A else B:=by simp_all
theorem it{b:Bool}{A B:Prop}(h:b)(a:A):if b=true then A else B:=by simp_all
theorem ie{b:Bool}{A B:Prop}(h:b=false)(a:B):if b=true then A else B:=by simp_all
theorem ip{c:Prop}[Decidable c]{A B:Prop}(h:c)(a:A):if c then A else B:=by simp_all
theorem bx(z:Z):mm z z=z:=by cases z <;> rfl
theorem sd{s t:S}(h:s=t):s=t/\mm z z=z:=#[h,bx z]
theorem sb(h:b=c):S.d (.bl b)=S.d (.bl c)/\mm z z=z:=sd (by rw[h])
section
variable {F:FT}{tp:Bool}{z:Z}{E:Nat->Z->Prop}{p:iD}
theorem jb(I:⇑D->Env->Z->Prop)(a:⇑D)(c:I a d z)(h:∀ x r d z,I (x::r) d z->bO (cz p x d) λd=>WS F tp b d z (λo e=>match o with
  |.nx d=>I r d e
  |.rt s=>Q (.rt s) e) E) (q:∀ d z,I [] d z->Q (.nx d) z):W (qx (λx d=>Zd (Zf (cz p x d)) λd=>ex F tp b d) a d) z Q E :=
 Hs I a c (λx r d z c=>(wG λd=>mW).mp (h x r d z c)) q
theorem CB(I:Nat->Env->Z->Prop)(n:Nat)(a:I n d z)(f:n < DE)(h:∀ n d z,I n d z->WE F c d z (λx g=>bO ((pl x).bind pZ) λk=>if k then WS F tp b d g (λo i=>match o with
  |.nx d=>∃ m,m < n/\I m d i
  |.rt s=>Q (.rt s) i) E else Q (.nx d) g) E):W (DD (ev F c) (ex F tp b) DE d) z Q E:=by
 refine NB I (λn d z a=>?_) n DE a f;refine(aR.mp (h n d z a)).mono (λx g h=>?_) λ_ _ h=>h;let(k,e,h):=cR h;refine af e ?_;cases k with
 |true=>exact mW.mp h|false=>exact h
variable {ρ0:Env}{cond el:Ex}{xs:⇑D}{Q:⇑D->Z->Prop}
theorem j5(o:D->D)(h:∀ x∈xs,bO (cz p x ρ0) λa=>WE F el a z (λy b=>bO (pl y) λd=>d=o x/\b=z) NE)(q:Q (xs.map o) z):W (turns (jR (ev F .nil) (ev F el) p ρ0) xs) z Q E:=by
 refine(qS (o:=λx=>↑(o x)) λx c=>?_).mpr ?_
 .refine W.ok (xK.mpr ?_);let(a,e,h):=cR (h x c);refine af e (aR.mpr ((aR.mp h).imp λy b h=>?_));let(d,e,rfl,rfl):=cR h;exact af e #[rfl,rfl]
 simp_all
theorem NF{o:D->D}:∀ xs:⇑D,xs.filterMap (λx=>if c x then ↑(o x) else none)=(xs.filter c).map o
 |[]=>rfl
 |x::r=>by
  rw[Ud,YC];cases a:c x with
  |false=>exact NF r|true=>exact congrArg _ (NF r)
theorem qy(c:D->Bool)(o:D->D)(h:∀ x∈xs,bO (cz p x ρ0) λa=>WE F cond a z (λy b=>bO (one y) λs=>s=.d (.bl (c x))/\b=z/\(c x->WE F el a z (λy b=>bO (pl y) λd=>d=o x/\b=z) NE)) NE)(q:Q ((xs.filter c).map o) z):W (turns (jR (ev F (.cons cond .nil)) (ev F el) p ρ0) xs) z Q E:=by
 refine(qS (o:=λx=>if c x then some (o x) else none) λx f=>?_).mpr ?_
 .refine W.ok (CA.mpr ?_);let(a,e,h):=cR (h x f);refine af e (aR.mpr ((aR.mp h).imp λy b h=>?_));let(s,e,rfl,rfl,h):=cR h;refine af e ?_;cases g:c x with
  |false=>exact#[rfl,rfl]
  |true =>
   refine aR.mpr ((aR.mp (h g)).imp λy b h=>?_);let(d,e,rfl,rfl):=cR h;exact af e #[rfl,rfl]
 .rw[NF];exact q
theorem Ht{I:Z->Prop}(o:D->D):∀ {xs:⇑D}{z:Z}{Q:⇑D->Z->Prop},I z->(∀ x∈xs,∀ z,I z->bO (cz p x ρ0) λa=>WE F cond a z (λy c=>bO (one y) λs=>I c/\∃ b,s=.d (.bl b)/\(b->WE F el a c (λy f=>bO (pl y) λd=>d=o x/\f=c) NE)) NE) ->
  (∀ g c,I c->g.Sublist (xs.map o)->Q g c)->W (turns (jR (ev F (.cons cond .nil)) (ev F el) p ρ0) xs) z Q E
 |[],z,Q,i,_,q=>jU.mpr (q [] z i .slnil)
 |x::r,z,Q,i,h,q=>by
  refine fE.mpr (CA.mpr ?_);let(a,e,j):=cR (h x Í z i);refine af e (aR.mpr ((aR.mp j).imp λy c k=>?_));let(s,e,l,b,rfl,m):=cR k;apply af e;have n:=λ{Q:⇑D->Z->Prop} (q:∀ g c,I c->g.Sublist (r.map o)->Q g c)=>Ht o  l (λy u=>h y (É _ u)) q;cases b with
  |false=>exact fE.mpr (n λg f v hs=>jU.mpr (q g f v (hs.cons _)))
  |true =>
   refine aR.mpr ((aR.mp (m rfl)).imp λy f A=>?_);let(d,e,rfl,rfl):=cR A;exact af e (fE.mpr (n λg f v hs=>jU.mpr (q _ f v (hs.cons_cons _))))
theorem QJ{I:Z->Prop}{P:D->D->Prop}(a:I z)(h:∀ x∈xs,∀ z,I z->bO (cz p x ρ0) λb=>WE F el b z (λy c=>bO (pl y) λd=>I c/\P x d) NE)(q:∀ f c,I c->UJ P xs f->Q f c):W (turns (jR (ev F .nil) (ev F el) p ρ0) xs) z Q E:=by
 refine zI a (λx g z hz=>xK.mpr ?_) q;let(b,e,h):=cR (h x g z hz);refine af e (aR.mpr ((aR.mp h).imp λy c h=>?_));let(d,e,h):=cR h;exact af e #[h.1,d,rfl,h.2]
end
theorem xM(h:kC s):dP s a=a:=by
 delta dP
 rw[rZ,h];rfl
theorem vC{Q:O->Z->Prop}(s:S)(a:Env)(b:WE F e c z (λl d=>bO (one l) λt=>t=s/\d=z) NE)(f:jS p s (dP s c)=↑a)(q:WS F g r a z Q E):WS F g (.seq (.set p e) r) c z Q E:=by
 refine aR.mpr ((aR.mp b).imp λl d h=>?_);let(t,e,rfl,rfl):=cR h;exact af e (af f q)
end Q
namespace K3
abbrev Za:=⇑(Int × Int)
open PySem L2 Q
def top(i:Nat):Stmt:=Us.main.body.getD i (.Pass #[0,0,0,0])
def nums:⇑(Str × Int):=[(("MOST_PLACES":Str),(6:Int)),(("MOST_TIES":Str),(8:Int)),(("MOST_BOTTOM":Str),(1000:Int))]
abbrev v0:Ex:=.var 0
abbrev v1:Ex:=.var 1
abbrev v2:Ex:=.var 2
abbrev v3:Ex:=.var 3
abbrev v4:Ex:=.var 4
abbrev v5:Ex:=.var 5
abbrev v6:Ex:=.var 6
abbrev v7:Ex:=.var 7
abbrev v8:Ex:=.var 8
abbrev v9:Ex:=.var 9
abbrev v10:Ex:=.var 10
abbrev v11:Ex:=.var 11
abbrev T5:Ex:=.var 13
abbrev n0:Ex:=.con (~~~0)
abbrev n1:Ex:=.con (~~~1)
abbrev n2:Ex:=.con (~~~2)
abbrev c1(a:Ex):Ex:=.cons a .nil
abbrev c2(a b:Ex):Ex:=.cons a (.cons b .nil)
abbrev c3(a b c:Ex):Ex:=.cons a (.cons b (.cons c .nil))
abbrev c4(a b c d:Ex):Ex:=.cons a (.cons b (.cons c (.cons d .nil)))
abbrev c5(a b c d e:Ex):Ex:=.cons a (.cons b (.cons c (.cons d (.cons e .nil))))
abbrev s1(a:Sm):Sm:=.seq a .nil
abbrev p2(a b:iD):iD:=.tup (.cons a (.cons b .nil))
abbrev dI:Nat:=0
abbrev oz:Nat:=1
abbrev gJ:Nat:=2
abbrev jC:Nat:=3
abbrev zJ:Nat:=4
abbrev sX:Nat:=5
abbrev zK:Nat:=6
abbrev CC:Nat:=7
abbrev eV:Nat:=8
abbrev sY:Nat:=9
abbrev fZ:Nat:=10
abbrev hW:Nat:=11
abbrev eW:Nat:=12
abbrev mX:Nat:=13
abbrev qf:Nat:=14
abbrev jD:Nat:=15
abbrev qg:Nat:=16
abbrev fO:Nat:=17
abbrev cu:Nat:=18
abbrev mY:Nat:=19
abbrev kM:Nat:=20
abbrev fQ:Nat:=21
abbrev lW:Nat:=22
abbrev cA:Nat:=23
abbrev jE:Nat:=24
abbrev hY:Nat:=25
abbrev cw:Nat:=26
abbrev kN:Nat:=27
abbrev oA:Nat:=28
abbrev aD:Nat:=29
abbrev sZ:Nat:=30
abbrev fS:Nat:=31
abbrev mB:Nat:=32
abbrev kO:Nat:=33
abbrev iG:Nat:=34
abbrev kP:Nat:=35
abbrev kQ:Nat:=36
abbrev qh:Nat:=37
abbrev mC:Nat:=38
abbrev fF:Nat:=39
abbrev oB:Nat:=40
abbrev cC:Nat:=41
abbrev eC:Nat:=42
abbrev gK:Nat:=43
abbrev kR:Nat:=44
abbrev dA:Nat:=45
abbrev mE:Nat:=46
abbrev fk:Nat:=47
abbrev K5:Nat:=48
def fG:Sm:=(.seq (.whl (.cmp .gt v1 n0) (s1 (.set (p2 (.v 0) (.v 1)) (.tup (c2 v1 (.bin .mod v0 v1)))))) (s1 (.ret v0)))
def zM:Sm:=(.seq (.set (.v 2) (.call dI (c2 v0 v1))) (s1 (.ret (.tup (c2 (.bin .fdiv v0 v2) (.bin .fdiv v1 v2))))))
def s9:Sm:=(s1 (.ret (.and (.isi .int v0) (.not (.isi .bool v0)))))
def tj:Sm:=(s1 (.ret (.and (.call gJ (c1 v0)) (.ch .le .lt n0 v0 v1))))
abbrev Zb:Sm:=s1 (.ret (.con (.bl false)))
def zN:Sm:=(.seq (.iff (.or (.not (.isi .tuple v0)) (.cmp .ne (.bf .len (c1 v0)) n2)) Zb .nil) (.seq (.set (p2 (.v 2) (.v 3)) v0) (s1 (.ret (.and (.call jC (c2 v2 v1)) (.and (.call jC (c2 v3 v1)) (.cmp .lt v2 v3)))))))
def tm:Sm:=(.seq (.iff (.or (.not (.isi .tuple v0)) (.cmp .gt (.bf .len (c1 v0)) (.gint "MOST_TIES" 8))) Zb .nil) (.seq (.iff (.not (.bf .all (c1 (.comp 1 [1] (.v 0) .seq (c1 v0) .nil (.call zJ (c2 v0 v1)))))) Zb .nil) (s1 (.ret (.bf .all (c1 (.comp 2 [] (p2 (.v 0) (.v 1)) .zip (c2 v0 (.sl v0 (c1 n1) .nil)) .nil (.cmp .le v0 v1))))))))
def zO:Sm:=(.seq (.iff (.or (.not (.isi .tuple v0)) (.cmp .ne (.bf .len (c1 v0)) n2)) Zb .nil) (.seq (.set (p2 (.v 1) (.v 2)) v0) (s1 (.ret (.and (.call gJ (c1 v1)) (.and (.ch .le .le n1 v1 (.gint "MOST_PLACES" 6)) (.call sX (c2 v2 v1))))))))
def CD:Sm:=(s1 (.ret (.bf .all (c1 (.comp 2 [] (p2 (.v 0) (.v 1)) .zip (c2 v0 (.sl v0 (c1 n1) .nil)) .nil (.cmp .lt v0 v1))))))
def hZ:Sm:=(.seq (.iff (.not (.isi .tuple v0)) Zb .nil) (s1 (.ret (.and (.bf .all (c1 (.comp 1 [1] (.v 0) .seq (c1 v0) .nil (.call jC (c2 v0 v1))))) (.call CC (c1 v0))))))
def oC:Sm:=(s1 (.ret (.call eV (c2 v1 (.bf .len (c1 (.idx v0 n1)))))))
def qi:Sm:=(s1 (.iff (.not (.call zK (c1 v0))) (s1 (.rais 0)) .nil))
def ic:Sm:=(s1 (.iff (.not (.call sY (c2 v0 v1))) (s1 (.rais 1)) .nil))
def kS:Sm:=(s1 (.iff (.or (.not (.call eV (c2 v1 (.idx v0 n0)))) (.cmp .eq (.bf .len (c1 v1)) n0)) (s1 (.rais 2)) .nil))
def tw:Sm:=(.seq (.set (p2 (.v 2) (.v 3)) v0) (.seq (.set (.v 4) (.lrng false (c1 v2))) (.seq (.fr (.v 5) .seq (c1 v1) (.seq (.set (p2 (.v 6) (.v 7)) (.idx v3 v5)) (.seq (.set (.v 8) (.idx v4 v6)) (.seq (.set (.v 9) (.idx v4 v7)) (s1 (.set (.v 4) (.comp 1 [8,9] (.v 0) .seq (c1 v4) .nil (.ite (.cmp .eq v0 v2) v1 v0)))))))) (s1 (.ret v4)))))
def kT:Sm:=(.seq (.exp (.call fZ (c1 v0))) (.seq (.exp (.call hW (c2 v0 v1))) (.grp 2 3 4 (.call mX (c2 v0 v1)))))
def jF:Sm:=(.seq (.set (.v 3) (.call mX (c2 v0 v1))) (s1 (.ret (.bf .all (c1 (.comp 1 [2,3] (.v 0) .seq (c1 v2) .nil (.cmp .eq (.idx v2 v0) (.idx v2 (.idx v1 n0)))))))))
def qj:Sm:=(.seq (.iff (.or (.not (.isi .tuple v0)) (.cmp .ne (.bf .len (c1 v0)) n2)) Zb .nil) (.seq (.set (p2 (.v 1) (.v 2)) v0) (.seq (.iff (.or (.not (.call gJ (c1 v1))) (.not (.call gJ (c1 v2)))) Zb .nil) (.seq (.iff (.or (.not (.ch .le .le n1 v2 (.gint "MOST_BOTTOM" 1000))) (.not (.ch .le .le n0 v1 v2))) Zb .nil) (s1 (.ret (.cmp .eq (.call dI (c2 v1 v2)) n1)))))))
def iH:Sm:=(.seq (.exp (.call fZ (c1 v0))) (.seq (.iff (.or (.not (.isi .tuple v1)) (.cmp .ne (.bf .len (c1 v1)) (.bf .len (c1 (.idx v0 n1))))) Zb .nil) (s1 (.ret (.bf .all (c1 (.comp 1 [] (.v 0) .seq (c1 v1) .nil (.call qg (c1 v0)))))))))
def jV:Sm:=(s1 (.iff (.not (.call fO (c2 v0 v1))) (s1 (.rais 6)) .nil))
def mZ:Sm:=(.seq (.set (.v 1) (cX (.lst [(.tup [])]) (-0))) (.seq (.fr (.v 2) .rng1 (c1 (.bf .len (c1 (.idx v0 n1)))) (s1 (.set (.v 1) (.bin .add v1 (.comp 1 [2] (.v 0) .seq (c1 v1) .nil (.bin .add v0 (.tup (c1 v1)))))))) (s1 (.ret (.bf .sorted (c1 v1))))))
def kU:Sm:=(.seq (.exp (.call fZ (c1 v0))) (.seq (.exp (.call eW (c2 v0 v1))) (s1 (.ret (.comp 1 [0,1] (.v 0) .seq (c1 (.call mY (c1 v0))) (c1 (.call jD (c3 v1 v0 v2))) v0)))))
def iI:Sm:=(.seq (.set (.v 1) n1) (.seq (.fr (.v 2) .seq (c1 v0) (s1 (.aug .mul 1 (.idx v2 n1)))) (s1 (.ret v1))))
def pO:Sm:=(.seq (.set (.v 2) n1) (.seq (.fr (p2 (.v 3) (p2 (.v 4) (.v 5))) .enum (c1 v0) (s1 (.aug .mul 2 (.ite (.cmp .mem v3 v1) v4 (.bin .sub v5 v4))))) (s1 (.ret v2))))
def dJ:Sm:=(.seq (.exp (.call cu (c2 v0 v1))) (.seq (.exp (.call hW (c2 v0 v2))) (s1 (.ret (.call oz (c2 (.call lW (c2 v1 v2)) (.call fQ (c1 v1))))))))
def jG:Sm:=(s1 (.ret (.call oz (c2 (.bf .sum (c1 (.comp 1 [0] (.v 0) .seq (c1 v1) .nil (.call lW (c2 v1 v0))))) (.call fQ (c1 v0))))))
def lX:Sm:=(.seq (.exp (.call cu (c2 v0 v1))) (.seq (.exp (.call eW (c2 v0 v2))) (s1 (.ret (.call jE (c2 v1 (.call kM (c2 v0 v2))))))))
def cU:Sm:=(.seq (.exp (.call cu (c2 v0 v1))) (.seq (.set (.v 2) (.bin .mul (cX (.lst [(~~~0)]) (-0)) (.idx v0 n0))) (.seq (.fr (.v 3) .seq (c1 (.call mY (c1 v0))) (s1 (.augi 2 (.bin .sub (.bf .len (c1 (.call qf (c2 v0 v3)))) n1) (.call lW (c2 v1 v3))))) (.seq (.set (.v 4) (.call fQ (c1 v1))) (s1 (.ret (.comp 1 [4] (.v 0) .seq (c1 v2) .nil (.call oz (c2 v0 v1)))))))))
def kW:Sm:=(.seq (.iff (.cmp .lt v1 (.bf .len (c1 v0))) (s1 (.ret (.idx v0 v1))) .nil) (s1 (.ret n0)))
def oD:Sm:=(.seq (.set (.v 2) (.call kN (c2 v0 v1))) (.seq (.iff (.cmp .ge v2 (.bin .pow (.con (~~~10)) (.con (~~~18)))) (s1 (.ret (.lst (c2 (.bin .sub v2 (.bin .pow (.con (~~~10)) (.con (~~~18)))) (.con (.bl true)))))) .nil) (s1 (.ret (.lst (c2 (.bin .mod v2 (.con (~~~2147483647))) (.con (.bl false))))))))
def qk:Sm:=(.seq (.iff (.zget 0 1) (.seq (.set (.v 2) (.bin .mod (.zget 0 0) v1)) (.seq (.zset 0 (.bin .fdiv (.zget 0 0) v1)) (s1 (.ret v2)))) .nil) (.seq (.zset 0 (.bin .mod (.bin .add (.bin .mul (.zget 0 0) (.con (~~~48271))) (.con (~~~29))) (.con (~~~2147483647)))) (.seq (.set (.v 3) (.bin .mod (.bin .add (.bin .add (.bin .mul (.zget 0 0) (.zget 0 0)) (.bin .mul (.con (~~~39373)) (.zget 0 0))) (.con (~~~7))) (.con (~~~2147483629)))) (.seq (.set (.v 3) (.bin .mod (.bin .add (.bin .mul v3 v3) (.bin .mul (.con (~~~16807)) v3)) (.con (~~~2147483587)))) (s1 (.ret (.bin .mod (.bin .fdiv v3 (.con (~~~8))) v1)))))))
def tx:Sm:=(.seq (.set (.v 2) (.idx (cX (.lst [(.int 6),(.int 5),(.int 4),(.int 3),(.int 4),(.int 5),(.int 2),(.int 1)]) (-0)) (.call aD (c2 v0 (.con (.int 8)))))) (.seq (.set (.v 3) (.lst .nil)) (.seq (.iff (.and (.cmp .gt v2 n1) (.cmp .gt (.call aD (c2 v0 (.con (.int 5)))) n0)) (s1 (.set (.v 3) (.comp 1 [0] (.v 0) .rng2 (c2 n1 v2) .nil (.tup (c2 (.call aD (c2 v1 v0)) v0))))) .nil) (.seq (.fr (.v 4) .rng1 (c1 (.bin .mul (.call aD (c2 v0 (.bin .add v1 n1))) (.bf .int (c1 (.cmp .gt v2 n1))))) (.seq (.set (.v 5) (.call aD (c2 v0 v2))) (.seq (.set (.v 6) (.bin .mod (.bin .add (.bin .add v5 n1) (.call aD (c2 v0 (.bin .sub v2 n1)))) v2)) (s1 (.app 3 (.tup (c2 (.bf .min (c2 v5 v6)) (.bf .max (c2 v5 v6))))))))) (s1 (.ret (.tup (c2 v2 (.bf .tuple (c1 (.bf .sorted (c1 (.sl v3 .nil (c1 v1))))))))))))))
def iJ:Sm:=(.seq (.set (p2 (.v 2) (.v 3)) (.tup (c2 v0 v1))) (.seq (.whl (.cmp .ne v3 n0) (s1 (.set (p2 (.v 2) (.v 3)) (.tup (c2 v3 (.bin .mod v2 v3)))))) (s1 (.ret (.tup (c2 (.bin .fdiv v0 v2) (.bin .fdiv v1 v2)))))))
def mF:Sm:=(.seq (.set (.v 1) (cX (.lst [(.tup [(~~~1),(~~~2)]),(.tup [(~~~2),(~~~3)]),(.tup [(~~~1),(~~~3)]),(.tup [(~~~3),(~~~4)]),(.tup [(~~~9),(~~~10)]),(.tup [(~~~0),(~~~1)]),(.tup [(~~~1),(~~~1)]),(.tup [(~~~1),(~~~1000)]),(.tup [(~~~999),(~~~1000)])]) (-0))) (.seq (.set (.v 2) (.call aD (c2 v0 (.con (~~~16))))) (.seq (.iff (.cmp .lt v2 (.con (~~~9))) (s1 (.ret (.idx v1 v2))) .nil) (.seq (.set (.v 3) (.bin .add n1 (.call aD (c2 v0 (.idx (cX (.lst [(~~~12),(~~~1000)]) (-0)) (.call aD (c2 v0 n2))))))) (s1 (.ret (.call fS (c2 (.call aD (c2 v0 (.bin .add v3 n1))) v3))))))))
def kX:Sm:=(s1 (.ret (.bf .tuple (c1 (.comp 1 [0] (.v 0) .seq (c1 (.idx v1 n1)) .nil (.call mB (c1 v1)))))))
def iK:Sm:=(.seq (.set (.v 2) (.call aD (c2 v0 (.con (.int 4))))) (.seq (.iff (.or (.cmp .lt v2 n2) (.cmp .eq (.idx v1 n0) n1)) (s1 (.ret (.lrng true (c1 (.idx v1 n0))))) .nil) (.seq (.iff (.cmp .eq v2 n2) (.seq (.set (.v 3) (.call aD (c2 v0 (.idx v1 n0)))) (s1 (.ret (.bf .tuple (c1 (.bf .sorted (c1 (.lst (c2 v3 (.bin .mod (.bin .add (.bin .add v3 n1) (.call aD (c2 v0 (.bin .sub (.idx v1 n0) n1)))) (.idx v1 n0))))))))))) .nil) (s1 (.ret (.orT (.bf .tuple (c1 (.comp 1 [0] (.v 0) .rng1 (c1 (.idx v1 n0)) (c1 (.cmp .eq (.call aD (c2 v1 n2)) n1)) v0))) (.tup (c1 (.bin .sub (.idx v1 n0) n1)))))))))
def ql:Sm:=(.seq (.set (.v 3) (.lst (c1 v2))) (.seq (.fr (.v 4) .rng1 (c1 (.idx v0 n0)) (s1 (.fr (.v 5) .seq (c1 v1) (.seq (.set (p2 (.v 6) (.v 7)) (.idx (.idx v0 n1) v5)) (.seq (.iff (.and (.cmp .mem v6 v3) (.cmp .nmem v7 v3)) (s1 (.set (.v 3) (.bin .add v3 (.lst (c1 v7))))) .nil) (s1 (.iff (.and (.cmp .mem v7 v3) (.cmp .nmem v6 v3)) (s1 (.set (.v 3) (.bin .add v3 (.lst (c1 v6))))) .nil))))))) (s1 (.ret (.bf .tuple (c1 (.bf .sorted (c1 v3))))))))
def kY:Sm:=(.seq (.set (.v 3) (.call kP (c3 v0 v1 (.idx v2 n0)))) (s1 (.ret (.cmp .eq (.comp 1 [3] (.v 0) .seq (c1 v2) (c1 (.cmp .nmem v0 v1)) v0) (.lst .nil)))))
def qm:Sm:=(.seq (.set (.v 1) (cX (.lst [(.tup [])]) (-0))) (.seq (.fr (.v 2) .rng1 (c1 (.bf .len (c1 (.idx v0 n1)))) (s1 (.set (.v 1) (.bin .add v1 (.comp 1 [2] (.v 0) .seq (c1 v1) .nil (.bin .add v0 (.tup (c1 v1)))))))) (s1 (.ret (.bf .sorted (c1 v1))))))
def iM:Sm:=(.seq (.set (.v 2) n1) (.seq (.fr (.v 3) .rng1 (c1 (.bf .len (c1 v0))) (.seq (.set (p2 (.v 4) (.v 5)) (.idx v0 v3)) (s1 (.set (.v 2) (.bin .mul v2 (.ite (.cmp .mem v3 v1) v4 (.bin .sub v5 v4))))))) (s1 (.ret v2))))
def nh:Sm:=(.seq (.set (.v 2) n1) (.seq (.fr (.v 3) .seq (c1 v0) (s1 (.set (.v 2) (.bin .mul v2 (.idx v3 n1))))) (s1 (.ret (.call fS (c2 (.bf .sum (c1 (.comp 1 [0] (.v 0) .seq (c1 v1) .nil (.call mC (c2 v1 v0))))) v2))))))
def oE:Sm:=(s1 (.ret (.and (.isi .int v0) (.not (.isi .bool v0)))))
def cY:Sm:=(.seq (.iff (.or (.not (.isi .tuple v1)) (.cmp .ne (.comp 1 [] (.v 0) .seq (c1 v1) (c1 (.not (.call oB (c1 v0)))) v0) (.lst .nil))) Zb .nil) (.seq (.iff (.cmp .ne (.comp 1 [0] (.v 0) .seq (c1 v1) (c1 (.not (.ch .le .lt n0 v0 v1))) v0) (.lst .nil)) Zb .nil) (s1 (.ret (.cmp .eq (.bf .list (c1 v1)) (.bf .sset (c1 v1)))))))
def eD:Sm:=(.seq (.set (.v 3) (.call aD (c2 v0 (.bin .add (.bf .len (c1 v2)) n1)))) (.seq (.set (.v 4) (.idx (.lst (.cons (.call aD (c2 v0 (.bin .add v1 n1))) (.cons v1 (.cons (.neg n1) (.cons (.con (.bl true)) (.cons (.con .cD) (c5 (.con (.str "0")) (cX (.tup [(~~~0)]) (-0)) (.con (.bl false)) (.bin .pow (.con (~~~10)) (.con (~~~29))) n0))))))) (.call aD (c2 v0 (.con (~~~10)))))) (.seq (.set (.v 5) (.lst (c4 (.bin .add (.bin .add (.sl v2 .nil (c1 v3)) (.tup (c1 v4))) (.sl v2 (c1 v3) .nil)) (.bin .add (.bin .add (.sl v2 .nil (c1 v3)) (.tup (c1 v4))) (.sl v2 (c1 (.bin .add v3 n1)) .nil)) (.bin .add (.sl v2 .nil (c1 v3)) (.sl v2 (c1 (.bin .add v3 n1)) .nil)) (.bf .list (c1 v2))))) (s1 (.ret (.idx (.bin .add v5 (.lst (.cons (.rev v2) (.cons (.bin .add v2 (.sl v2 (c1 (.neg n1)) .nil)) (c5 (.con .cD) (.con .dct) n0 (.tup (c1 v2)) (.tup .nil)))))) (.call aD (c2 v0 (.con (~~~11))))))))))
def eE:Sm:=(.seq (.set (.v 2) (.call aD (c2 v0 (.bin .add (.bf .len (c1 v1)) n1)))) (.seq (.set (.v 3) (cX (.lst [(.tup [(~~~2),(~~~4)]),(.tup [(~~~1),(~~~0)]),(.tup [(~~~3),(~~~2)]),(.tup [(~~~(-1)),(~~~2)]),(.tup [(.bl true),(~~~2)]),(.tup [(~~~1),(.bl true)]),(.tup [(~~~1),(~~~1001)]),(.tup [(~~~1)]),(.tup [(~~~1),(~~~2),(~~~3)]),(.lst [(~~~1),(~~~2)]),.cD,(.str "1/2"),(~~~1)]) (-0))) (.seq (.set (.v 3) (.idx v3 (.call aD (c2 v0 (.con (~~~13)))))) (.seq (.set (.v 4) (.lst (c5 (.bin .add (.bin .add (.sl v1 .nil (c1 v2)) (.tup (c1 v3))) (.sl v1 (c1 v2) .nil)) (.bin .add v1 (cX (.tup [(.tup [(~~~1),(~~~2)])]) (-0))) (.bf .list (c1 v1)) (.con .cD) (.con .dct)))) (.seq (.iff (.cmp .ne v1 (.tup .nil)) (.seq (.set (.v 2) (.call aD (c2 v0 (.bf .len (c1 v1))))) (s1 (.set (.v 4) (.bin .add (.bin .add v4 (.bin .mul (.lst (c1 (.bin .add (.bin .add (.sl v1 .nil (c1 v2)) (.tup (c1 v3))) (.sl v1 (c1 (.bin .add v2 n1)) .nil)))) (.con (~~~5)))) (.lst (c2 (.sl v1 (c1 n1) .nil) (.bin .add (.tup (c1 v1)) (.sl v1 (c1 n1) .nil)))))))) .nil) (s1 (.ret (.idx v4 (.call aD (c2 v0 (.bf .len (c1 v4))))))))))))
def kZ:Sm:=(.seq (.set (.v 1) (cX (.lst [.cD,(.int 0),(.tup []),(.tup [(.int 7),(.tup [])]),(.tup [(.int 0),(.tup [])]),(.tup [(.int (-1)),(.tup [])]),(.tup [(.bl true),(.tup [])]),(.tup [(.int 2),(.lst [])]),(.lst [(.int 2),(.tup [])]),(.tup [(.int 2),(.tup [(.tup [(.int 1),(.int 0)])])]),(.tup [(.int 2),(.tup [(.tup [(.int 0),(.int 0)])])]),.dct]) (-0))) (.seq (.set (.v 1) (.bin .add v1 (.lst (c5 (.tup (c2 n2 (.bin .mul (cX (.tup [(.tup [(.int 0),(.int 1)])]) (-0)) (.con (.int 9))))) (cX (.tup [(.int 3),(.tup [(.tup [(.int 0),(.int 2)]),(.tup [(.int 0),(.int 1)])])]) (-0)) (cX (.tup [(.int 2),(.tup [(.tup [(.int 0),(.int 2)])])]) (-0)) (cX (.tup [(.int 2),(.tup [(.tup [(.int 0),(.bl true)])])]) (-0)) (cX (.tup [(.int 2),(.tup [(.tup [(.int 0),(.int 1),(.int 1)])])]) (-0)))))) (.seq (.set (.v 1) (.bin .add v1 (cX (.lst [(.tup [(.int 2),(.tup [(.int 0),(.int 1)])]),(.tup [(.int 2),.cD]),(.tup [(.int 2),(.tup []),(.tup [])]),(.tup [(.int 2)]),(.tup [(.int 2),(.tup [(.lst [(.int 0),(.int 1)])])]),(.tup [(.int 2),(.tup [.cD])]),(.tup [(.str "2"),(.tup [])]),(.str "2:")]) (-0)))) (s1 (.ret (.idx v1 (.call aD (c2 v0 (.con (.int 25))))))))))
def lg:Sm:=(.seq (.iff (.isi .seq v1) (.seq (.iff (.or (.cmp .ne (.isi .tuple v0) (.isi .tuple v1)) (.cmp .ne (.isi .list v0) (.isi .list v1))) Zb .nil) (.seq (.iff (.cmp .ne (.bf .len (c1 v0)) (.bf .len (c1 v1))) Zb .nil) (s1 (.ret (.bf .all (c1 (.comp 2 [] (p2 (.v 0) (.v 1)) .zip (c2 v0 v1) .nil (.call dA (c2 v0 v1))))))))) .nil) (s1 (.ret (.and (.cmp .eq v0 v1) (.cmp .eq (.isi .bool v0) (.isi .bool v1))))))
def iN:Sm:=(s1 (.ret (.oZ (c1 (.comp 1 [0,1] (.v 0) .rng1 (c1 (.idx v0 n0)) .nil (.call kP (c3 v1 v2 v0)))))))
def bX:Sm:=(.seq (.set (p2 (.v 5) (.v 6)) (.tup (c2 (.call eC (c3 v0 (.bf .len (c1 (.idx v1 n1))) v3)) (.call eC (c3 v0 (.idx v1 n0) v4))))) (.seq (.set (p2 (.v 7) (.v 8)) (.tup (c2 (.call kR (c1 v0)) (.call gK (c2 v0 v2))))) (.lams 9 [([5,7,8] ,(.call cA (c3 v1 v2 v0))),([6,7,8] ,(.call hY (c3 v1 v2 v0))),([7,8] ,(.call cw (c2 v0 v1)))] none (.bin .mul (cX (.lst [(.lst [(~~~0)])]) (-0)) (.con (~~~3))) Zb (.seq (.iff (.and (.not (.call cC (c2 (.bf .len (c1 (.idx v1 n1))) v5))) (.cmp .ne (.refd [1,2,5] (.call cA (c3 v0 v1 v2))) (cX (.lst [(~~~1)]) (-0)))) Zb .nil) (.seq (.iff (.or (.not (.call cC (c2 (.idx v1 n0) v6))) (.cmp .eq v6 (.tup .nil))) (s1 (.iff (.cmp .ne (.refd [1,2,6] (.call hY (c3 v0 v1 v2))) (cX (.lst [(~~~2)]) (-0))) Zb .nil)) .nil) (.lams 9 [([1,5,8] ,(.call cA (c3 v0 v2 v1))),([1,6,8] ,(.call hY (c3 v0 v2 v1))),([1,8] ,(.call cw (c2 v0 v1)))] none (.bin .mul (cX (.lst [(.lst [(~~~6)])]) (-0)) (.con (~~~3))) Zb (s1 (.ret (.con (.bl true))))))))))
def CF:Sm:=(.seq (.fr (.v 1) .rng1 (c1 (.bf .max (c2 n1 (.bf .min (c2 (.bf .len (c1 v0)) (.con (.int 3))))))) (.seq (.newz 2 oA (c2 v0 v1)) (.seq (.set (.v 3) (.call sZ (c2 v2 (.con (.int 8))))) (.seq (.set (p2 (.v 4) (.v 5)) (.tup (c2 (.call kO (c2 v2 v3)) (.call iG (c2 v2 v3))))) (.seq (.set (.v 6) (.call qh (c1 v3))) (.seq (.fr (.v 7) .rng1 (c1 (.con (.int 3))) (.seq (.set (.v 8) (.idx v6 (.call aD (c2 v2 (.bf .len (c1 v6)))))) (s1 (.iff (.not (.call dA (c2 (.call cA (c3 v3 v4 v8)) (.call fF (c2 v4 (.lst (c1 v8))))))) Zb .nil)))) (.seq (.set (.v 9) (.call fF (c2 v4 (.comp 1 [3,5] (.v 0) .seq (c1 v6) (c1 (.call kQ (c3 v1 v0 v2))) v0)))) (.seq (.iff (.not (.call dA (c2 (.call hY (c3 v3 v4 v5)) v9))) Zb .nil) (.bkt 10 11 6 (c1 (.idx v3 n0)) (.bin .sub (.call mE (c2 v3 v11)) n1) (.seq (.set (.v 9) (.comp 1 [4] (.v 0) .seq (c1 v10) .nil (.call fF (c2 v1 v0)))) (.seq (.fr (.v 12) .rng1 (c1 n2) (.seq (.set (.v 13) (.call cw (c2 v3 v4))) (.seq (.iff (.not (.call dA (c2 T5 v9))) Zb .nil) (s1 (.app 13 (cX (.tup [(.int 0),(.int 1)]) (-0))))))) (s1 (.iff (.not (.call fk (c5 v2 v3 v4 v8 v5))) Zb .nil))))))))))))) (s1 (.ret (.con (.bl true)))))
abbrev gw(a:Str)(k i:Nat)(N:Zj)(b:Sm)(c:Bool):Row:=#[a,N.take k,top i,N,b,c]
def rows:⇑Row:=[gw "common_divisor" 2 15 ["one","other"] fG false,
 gw "lowest" 2 16 ["top","bottom","divisor"] zM false,
 gw "is_whole" 1 20 ["thing"] s9 false,
 gw "is_below" 2 21 ["thing","many"] tj false,
 gw "is_tie" 2 22 ["thing","many","a","b"] zN false,
 gw "are_ties" 2 23 ["thing","many"] tm false,
 gw "is_web" 1 24 ["thing","many","ties"] zO false,
 gw "rises" 1 25 ["things"] CD false,
 gw "is_rising_below" 2 26 ["thing","many"] hZ false,
 gw "is_lot" 2 27 ["web","thing"] oC false,
 gw "check_web" 1 28 ["thing"] qi false,
 gw "check_lot" 2 29 ["web","thing"] ic false,
 gw "check_places" 2 30 ["web","thing"] kS false,
 gw "marks_by" 2 31 ["web","lot","many","ties","marks","number","a","b","kept","gone"] tw false,
 gw "pieces_by" 2 32 ["web","lot","groups","place","mark"] kT false,
 gw "are_joined" 3 33 ["web","lot","places","marks"] jF false,
 gw "is_chance" 1 36 ["thing","top","bottom"] qj false,
 gw "are_chances" 2 37 ["web","thing"] iH false,
 gw "check_chances" 2 38 ["web","thing"] jV false,
 gw "all_lots" 1 40 ["web","lots","number"] mZ false,
 gw "good_lots" 2 41 ["web","places"] kU false,
 gw "all_bottoms" 1 43 ["chances","found","chance"] iI false,
 gw "lot_top" 2 44 ["chances","lot","found","number","top","bottom"] pO false,
 gw "lot_chance" 3 45 ["web","chances","lot"] dJ false,
 gw "lots_share" 2 46 ["chances","lots"] jG false,
 gw "share" 3 47 ["web","chances","places"] lX false,
 gw "pieces_shares" 2 48 ["web","chances","tops","lot","bottom"] cU false,
 gw "_law_cell_at" 2 50 ["_law_script","_law_k"] kW false,
 gw "_law_state" 2 51 ["_law_script","_law_k","_law_cell"] oD false,
 gw "_law_take" 2 52 ["_law_state_here","_law_many","_law_found","_law_stirred"] qk false,
 gw "_law_web" 2 53 ["_law_state_here","_law_most","_law_many","_law_ties","_law_turn","_law_one","_law_other"] tx false,
 gw "_law_lowest" 2 54 ["_law_top","_law_bottom","_law_one","_law_other"] iJ false,
 gw "_law_chance" 1 55 ["_law_state_here","_law_some","_law_way","_law_bottom"] mF false,
 gw "_law_chances" 2 56 ["_law_state_here","_law_web_here"] kX false,
 gw "_law_places" 2 57 ["_law_state_here","_law_web_here","_law_way","_law_one"] iK false,
 gw "_law_with" 3 58 ["_law_web_here","_law_lot","_law_place","_law_found","_law_turn","_law_number","_law_one","_law_other"] ql false,
 gw "_law_good" 3 59 ["_law_web_here","_law_lot","_law_places_here","_law_here"] kY false,
 gw "_law_lots" 1 60 ["_law_web_here","_law_found","_law_number"] qm false,
 gw "_law_weight" 2 61 ["_law_chances_here","_law_lot","_law_found","_law_number","_law_top","_law_bottom"] iM false,
 gw "_law_sum" 2 62 ["_law_chances_here","_law_lots_here","_law_bottom","_law_chance_here"] nh false,
 gw "_law_whole" 1 63 ["_law_thing"] oE false,
 gw "_law_rising" 2 64 ["_law_many","_law_thing"] cY false,
 gw "_law_bent_rising" 3 65 ["_law_state_here","_law_many","_law_some","_law_at","_law_odd","_law_found"] eD false,
 gw "_law_bad_chances" 2 66 ["_law_state_here","_law_chances_here","_law_at","_law_odd","_law_some"] eE false,
 gw "_law_bad_web" 1 67 ["_law_state_here","_law_some"] kZ false,
 gw "_law_same" 2 68 ["_law_found","_law_due"] lg false,
 gw "_law_pieces" 2 70 ["_law_web_here","_law_lot"] iN false,
 gw "_law_refusals_right" 5 71 ["_law_state_here","_law_web_here","_law_chances_here","_law_lot","_law_places_here","_law_bent","_law_odd","_law_bad","_law_none","_law_calls"] bX true,
 gw "law" 1 72 ["_law_script","_law_k","_law_state_here","_law_web_here","_law_chances_here","_law_places_here","_law_every","_law_turn","_law_lot","_law_due","_law_some","_law_one","_law_lap","_law_found"] CF false]
abbrev Zc(a b:Nat)(c:Sm):Df:=.code a b c
def T:⇑Df:=[Zc 2 2 fG,Zc 2 3 zM,Zc 1 1 s9,Zc 2 2 tj,Zc 2 4 zN,Zc 2 2 tm,Zc 1 3 zO,Zc 1 1 CD,Zc 2 2 hZ,Zc 2 2 oC,Zc 1 1 qi,Zc 2 2 ic,Zc 2 2 kS,Zc 2 10 tw,Zc 2 5 kT,Zc 3 4 jF,Zc 1 3 qj,Zc 2 2 iH,Zc 2 2 jV,Zc 1 3 mZ,Zc 2 2 kU,Zc 1 3 iI,Zc 2 6 pO,Zc 3 3 dJ,Zc 2 2 jG,Zc 3 3 lX,Zc 2 5 cU,Zc 2 2 kW,Zc 2 3 oD,Zc 2 4 qk,Zc 2 7 tx,Zc 2 4 iJ,Zc 1 4 mF,Zc 2 2 kX,Zc 2 4 iK,Zc 3 8 ql,Zc 3 4 kY,Zc 1 3 qm,Zc 2 6 iM,Zc 2 4 nh,Zc 1 1 oE,Zc 2 2 cY,Zc 3 6 eD,Zc 2 5 eE,Zc 1 2 kZ,Zc 2 2 lg,Zc 2 2 iN,Zc 5 10 bX,Zc 1 14 CF]
end K3
namespace K3
open Q
open L2 (D)
def gk:D->Bool
 |.int _=>true|_=>false
theorem ig(k:Nat)(x:D)(z:Z):au T (k + 3) gJ [.d x] z=↑(.ok (.d (.bl (gk x))) z):=by
 cases z <;> cases x <;> rfl
def aS(x:D)(m:Int):Bool:=match x with
 |~~~i=>decide (0<=i)&&decide (i < m)|_=>false
theorem lh(k:Nat)(x:D)(m:Int)(z:Z):au T (k + 4) jC [.d x,.d (~~~m)] z=↑(.ok (.d (.bl (aS x m))) z):=by
 refine W.ok (bg    rfl rfl (-0) (Wo (ig (k:=k) x z) ?_))
 cases x with
 |int i=>exact ib  (λh=>sb (show decide _=(decide _&&decide _) by rw[h];rfl)) λh=>sb (show false=(decide _&&decide _) by rw[h];rfl)|_=>exact sb rfl
def Bc(x:D)(m:Int):Bool:=match x with
 |.tup [a,b]=>aS a m&&(aS b m&&(match a,b with
  |.int i,.int j=>decide (i < j)
  |_,_=>false))
 |_=>false
theorem fH(h:aS x m):∃ i,x= ~~~i/\0<=i/\i < m:=by
 cases x with
 |int i =>
  unfold aS at h;rw[Á,Zx,Zx] at h;exact#[i,rfl,h]
 |_=>cases h
theorem D5(k:Nat)(x:D)(m:Int)(z:Z):au T (k + 5) zJ [.d x,.d (~~~m)] z=↑(.ok (.d (.bl (Bc x m))) z):=by
 refine W.ok (bg    rfl rfl (-0) ?_)
 cases x with
 |tup l =>
  match l with
  |[a,b] =>
   refine Wo (lh k a m z) (ib  (λc=>Wo (lh k b m z) (ib  (λe=>?_) λh=>?_)) λh=>?_)
   .let(i,rfl,_):=fH c;let(j,rfl,_):=fH e;exact sb (show decide _=(aS _ m&&(aS _ m&&decide _)) by rw[c,e];rfl)
   .exact sb (show false=(aS a m&&(aS b m&&_)) by rw[c,h];rfl)
   .exact sb (show false=(aS a m&&_) by rw[h];rfl)
  |[]=>exact sb rfl|[_]=>exact sb rfl|_::_::_::_=>exact sb rfl
 |_=>exact sb rfl
theorem iO(l:List D)(p:D->Bool):n9 .all [.lst (l.map λx=>D.bl (p x))]=some (.d (.bl (l.all p))):=by
 have h:(l.map λx=>D.bl (p x)).mapM pZ=some (l.map p):=by
  induction l with
  |nil=>rfl
  |cons x r a =>
   rw[Ux,mapM_cons,a];rfl
 show((l.map _).mapM pZ).map _=_;rw[h];simp[List.all_map]
theorem lj(l:⇑D)(n:Nat):cutD l ↑(n:Int) none=l.drop n:=by
 show((l.drop (min n l.length)).take (l.length - min n l.length))=_;rcases Nat.le_total n l.length with h | h
 .rw[Yy h,Vz ⋯]
 simp_all
theorem ll:∀ a b:⇑D,(fV a b).length<=a.length
 |[],_=>Î _|_::_,[]=>Vl _|_::r,_::q=>Xe (ll r q)
theorem xN:∀ {a b:⇑D}{d:D},d∈fV a b->∃ x∈a,∃ y∈b,d=.tup [x,y]
 |x::r,y::q,d,h=>by
  rcases ã.mp h with h | h
  .exact#[x,Í,y,Í,h]
  .let(u,c,v,f,e):=xN h;exact#[u,É _ c,v,É _ f,e]
def SU:D->Bool
 |.tup [.tup a,.tup b]=>(match gq a,gq b with
  |some c,some d=>HT.leB c d
  |_,_=>false)
 |_=>false
def tE(l:⇑D):Bool:=(fV l (l.drop 1)).all SU
def oF(x:D)(m:Int):Bool:=match x with
 |.tup l=>decide (l.length<=8)&&(l.all (λt=>Bc t m)&&tE l)|_=>false
theorem vD(h:Bc x m):∃ i j,x=.tup [.int i,.int j]/\0<=i/\i < j/\j < m:=by
 cases x with
 |tup l =>
  match l,h with
  |[a,b],h =>
   delta Bc at h
   rw[Á,Á] at h;let(c,d,e):=h;let(i,rfl,f,g):=fH c;let(j,rfl,k,n):=fH d;exact#[i,j,rfl,f,ZC e,n]
 |_=>cases h
theorem cV(h:n<=1000):n<=most:=â h (-0)
theorem zP(k:Nat)(x:D)(m:Int)(z:Z):au T (k + 6) sX [.d x,.d (~~~m)] z=↑(.ok (.d (.bl (oF x m))) z):=by
 refine W.ok (bg    rfl rfl (-0) ?_)
 cases x with
 |tup l =>
  refine ib  (λh=>?_) λh=>?_
  .refine sb (show false=(decide _&&_) from ?_);rw[Zx] at h;rw[ZA (Nat.not_le_of_lt (_f h))];rfl
  .rw[ZE] at h;refine ip (cV ∅) (j5 _ (λx _=>Wo (D5 k x m z) #[rfl,rfl]) ?_)
   refine(af (iO l _) ?_ :);refine ib  (λh=>?_) λb=>?_
   .exact sb (show false=(decide _&&(l.all _&&tE l)) by rw[ç] at h;rw[h,Bool.false_and,Bool.and_false])
   .rw[Wf] at b;have c:=Ó.mp b;have e:cutD l ↑1 none=l.drop 1:=lj l 1;refine ip  (â (ll _ _) (cV ∅)) (j5 _ (λx f=>?_) (af (iO _ SU) ?_ :))
    .let(u,g,v,n,rfl):=xN f;rw[e] at n;let(i,j,rfl,_):=vD (c u g);let(o,p,rfl,_):=vD (c v (List.mem_of_mem_drop n));exact#[rfl,rfl]
    .refine sb  ?_;show _=(decide _&&(l.all _&&tE l));rw[e,b,Zz (_V (Int.le_of_not_gt h)),Xx];rfl
 |_=>exact sb rfl
def J7(a t:D):Bool:=match a with
 |~~~m=>decide (1<=m)&&(decide (m<=6)&&oF t m)|_=>false
def jc(x:D):Bool:=match x with
 |.tup [a,t]=>J7 a t|_=>false
theorem vE(k:Nat)(x:D)(z:Z):au T (k + 7) zK [.d x] z=↑(.ok (.d (.bl (jc x))) z):=by
 refine W.ok (bg    rfl rfl (-0) ?_)
 cases x with
 |tup l =>
  match l with
  |[a,t] =>
   apply Wo (ig _ a _);cases a with
   |int m =>
    refine ib  (λb=>ib  (λc=>Wo (zP k t m _) ?_) λc=>?_) λb=>?_
    .exact sb (show oF t m=(decide _&&(decide _&&oF t m)) by rw[b,c];rfl)
    .exact sb (show false=(decide _&&(decide _&&oF t m)) by rw[b,c];rfl)
    .exact sb (show false=(decide _&&(decide _&&oF t m)) by rw[b];rfl)
   |_=>exact sb rfl
  |[]=>exact sb rfl|[_]=>exact sb rfl|_::_::_::_=>exact sb rfl
 |_=>exact sb rfl
theorem eX(k:Nat)(z:Z)(h:jc x):au T (k + 8) fZ [.d x] z=↑(.ok (.d .cD) z) :=
 W.ok (bg    rfl rfl (-0) (Wo (vE k x z) (ie  (by rw[h];rfl) (sd rfl))))
theorem xO(k:Nat)(z:Z)(h:jc x=false):au T (k + 8) fZ [.d x] z=some (.er 0 z) :=
 W.er (bg    rfl rfl (-0) (Wo (vE k x z) (it  (by rw[h];rfl) #[rfl,bx z])))
theorem oG(hj:0 < j):eR .mod (~~~i) (~~~j)=↑(.d (~~~(i % j))):=by
 show(if 0 < j then ↑_ else none)=_;rw[Zv hj]
def GT(n:Nat)(a b:Int):Prop:=0<=b/\((∃ k:Nat,n=2 * k + 1/\b < 2 ^ k)∨∃ k:Nat,n=2 * k/\b < a/\a < 2 ^ k)
theorem GT.step(h:GT n a b)(hb:0 < b):∃ m,m < n/\GT m b (a % b):=by
 obtain⟨h0,h⟩:=h;have r0:=W2 a (show b≠0 by omega)
 have r1:=VZ a hb;rcases h with ⟨k,rfl,hk⟩ | ⟨k,rfl,hba,hk⟩
 ·exact⟨_,Vs _,r0,.inr ⟨k,rfl,r1,hk⟩⟩
 ·cases k with
  |zero=>dsimp at hk;omega
  |succ k =>
   refine⟨_,Vs _,r0,.inl ⟨k,rfl,?_⟩⟩
   have e:=Int.emod_add_mul_ediv a b;have:b * 1<=b * (a / b):=V5 (Int.le_ediv_of_mul_le hb ∅) (Ww hb)
   grind
theorem qT(a b:Int):gcd b (a % b)=gcd a b:=by
 rw[Int.emod_def,Int.gcd_sub_mul_left_right,Int.gcd_comm]
def big(b:Int):Prop:=b < 2 ^ 4000
theorem xP(a:0<=b)(h:big b):b.natAbs < mP:=by
 have h:b < 2 ^ 4000:=h;show b.natAbs < 2 ^ 4000;omega
theorem gA(h:b<=2 ^ 64):big b:=Yd h (-0)
theorem ik(k:Nat)(a b:Int)(z:Z)(e:0 < b)(f:big b):au T (k + 3) dI [.d (~~~a),.d (~~~b)] z=↑(.ok (.d (~~~(gcd a b))) z):=by
 refine W.ok (bg    rfl rfl (-0) (CB (λn i j=>j=z/\∃ c d:Int,i=[↑(.d (~~~c)),↑(.d (~~~d))]/\GT n c d/\gcd c d=gcd a b/\(d=0->0<=c)) _ #[rfl,a,b,rfl,#[Ww e,.inl #[_,rfl,f]],rfl,λh=>by omega] (-0) ?_))
 rintro n i j ⟨rfl,c,d,rfl,g,l,o⟩;refine ib  (λhd=>?_) λhd=>?_
 .rw[Zx] at hd;let(m,p,q):=g.step hd;refine(af (oG  hd) ?_ :);exact#[m,p,rfl,d,_,rfl,q,(qT c d).trans l,λ_=>Ww hd]
 .have hz:d=0:=by have:=g.1;omega
  subst hz;rw[Ye] at l;apply sd 
  grind
def Em(t b:Int):Bool:=(decide (1<=b)&&decide (b<=1000))&&((decide (0<=t)&&decide (t<=b))&&(((gcd t b:Nat):Int) == 1))
def T7:D->D->Bool
 |~~~t,~~~b=>Em t b|_,_=>false
def CG:D->Bool
 |.tup [d,e]=>T7 d e|_=>false
theorem xQ(h:¬ (1<=u/\u<=1000/\0<=t/\t<=u)):false=Em t u:=by
 delta Em
 refine Eq.symm ?_;rw[Bool.eq_false_iff];intro q;rw[Á,Á,Á,Á,Zx,Zx,Zx,Zx] at q;exact h #[q.1.1,q.1.2,q.2.1.1,q.2.1.2]
theorem oH(k:Nat)(x:D)(z:Z):au T (k + 4) qg [.d x] z=↑(.ok (.d (.bl (CG x))) z):=by
 refine W.ok (bg    rfl rfl (-0) ?_)
 cases x with
 |tup l =>
  match l with
  |[a,b] =>
   apply Wo (ig k a z);cases a with
   |int t =>
    apply Wo (ig k b z);cases b with
    |int u =>
     refine ib  (λc=>ib  (λe=>?_) λe=>ib  (λf=>ib  (λg=>?_) λg=>?_) λf=>?_) λc=>?_
     .exact sb (xQ λq=>by rw[ç,ZE] at e;exact e q.2.1)
     .exact sb (xQ λq=>by rw[ç,ZE] at g;exact g q.2.2.2)
     .rw[Wf,Zx] at e g;rw[Zx] at c f;refine Wo (ik k t u z c (gA ∅)) (sb (show(((gcd t u):Int) == 1)=Em t u from ?_))
      delta Em
      rw[Zz c,Zz e,Zz f,Zz g];rfl
     .exact sb (xQ λq=>by rw[ZE] at f;exact f q.2.2.1)
     .exact sb (xQ λq=>by rw[ZE] at c;exact c q.1)
    |_=>exact sb rfl
   |_=>exact sb rfl
  |[]=>exact sb rfl|[_]=>exact sb rfl|_::_::_::_=>exact sb rfl
 |_=>exact sb rfl
def fI(n:Nat):D->Bool
 |.tup l=>(l.length == n)&&l.all CG|_=>false
theorem vF(h:jc x):∃ m b,x=.tup [~~~m,.tup b]/\1<=m/\m<=6/\b.length<=8/\(∀ t∈b,Bc t m)/\tE b:=by
 cases x with
 |tup l =>
  match l,h with
  |[a,t],h =>
   delta jc J7 at h
   cases a with
   |int m =>
    rw[Á,Á,Zx,Zx] at h;let(c,d,e):=h
    delta oF at e
    cases t with
    |tup b =>
     rw[Á,Á,Zx,Uq] at e;exact#[m,b,rfl,c,d,e.1,e.2.1,e.2.2]
    |_=>cases e
   |_=>cases h
 |_=>cases h
theorem lq(k:Nat)(hw:jc (.tup [.int m,.tup a]))(x:D)(z:Z):au T (k + 9) fO [.d (.tup [.int m,.tup a]),.d x] z=some (.ok (.d (.bl (fI a.length x))) z):=by
 let(c,f,e,_,_,g,_):=vF hw;cases e;refine W.ok (bg    rfl rfl (-0) (Wo (eX k z hw) ?_))
 cases x with
 |tup l =>
  have e:((l.length:Int) == (a.length))=(l.length == a.length):=by grind
  refine ib (b:=!((l.length:Int) == (a.length))) (λh=>?_) λh=>?_
  .rw[e,ç] at h;exact sb (show false=((l.length == a.length)&&_) by rw[h];rfl)
  .rw[e,Wf] at h;refine ip (cV (by grind)) (j5 _ (λx _=>Wo (oH _ x z) #[rfl,rfl]) (af (iO l CG) ?_ :))
   exact sb  (show _=((l.length == a.length)&&l.all CG) by rw[h];rfl)
 |_=>exact sb rfl
theorem cJ(k:Nat)(hw:jc (.tup [~~~m,.tup ts]))(z:Z)(h:fI ts.length x):au T (k + 10) cu [.d (.tup [~~~m,.tup ts]),.d x] z=↑(.ok (.d .cD) z) :=
 W.ok (bg    rfl rfl (-0) (Wo (lq k hw x z) (ie  (by rw[h];rfl) (sd rfl))))
theorem fJ(k:Nat)(hw:jc (.tup [~~~m,.tup ts]))(z:Z)(h:fI ts.length x=false):au T (k + 10) cu [.d (.tup [~~~m,.tup ts]),.d x] z=↑(.er 6 z) :=
 W.er (bg    rfl rfl (-0) (Wo (lq k hw x z) (it  (by rw[h];rfl) #[rfl,bx z])))
theorem tF(k:Nat)(hw:jc w=false)(x:D)(z:Z):au T (k + 9) fO [.d w,.d x] z=some (.er 0 z) :=
 W.er (bg    rfl rfl (-0) (We (xO k z hw) #[rfl,bx z]))
theorem fK(k:Nat)(hw:jc w=false)(x:D)(z:Z):au T (k + 10) cu [.d w,.d x] z=↑(.er 0 z) :=
 W.er (bg    rfl rfl (-0) (We (tF k hw x z) #[rfl,bx z]))
inductive ZI (z:Z):Prop where
 |mk (n b) (h0_:z=↑(n,b)) (h1_:0<=n) (h2_:(b=false->n < 2147483647)):ZI z
theorem uz{T:⇑Df}{k f ps ns:Nat}{b:Sm}{Q:S->Z->Prop}(hz:ZI z)(h:T[f]?=↑(.code ps ns b))(a:l.length=ps)(e:ps<=ns)(q:WS (jY T (k + 2)) false b (start ns (l.map n5)) z (λo g=>match o with
  |.nx _=>Q (.d .cD) g
  |.rt s=>Q s g) E):W (au T (k + 3) f l) z Q E:=by
 let(n,c,rfl,_):=hz;refine bg h a e (q.mono (λo g h=>?_) λ_ _ h=>h);cases o <;> exact h
theorem Bd{a:Int}{n:Nat}(h:a.natAbs < n)(b:n<=2 ^ 64:=by decide):a.natAbs < mP:=Ò h (â b (-0))
theorem vG{i j:Int}(a:i.natAbs < 2 ^ 64)(b:j.natAbs < 2 ^ 64):eR .mul (~~~i) (~~~j)=↑(.d (~~~(i * j))):=by
 show(if i.natAbs < mP/\j.natAbs < mP then ↑_ else none)=_;rw[Zv #[Bd a,Bd b]]
theorem QK(a:0 < j)(b:j.natAbs < 2 ^ 64):eR .fdiv (~~~i) (~~~j)=↑(.d (~~~(i / j))):=by
 show(if 0 < j/\j.natAbs < mP then ↑_ else none)=_;rw[Zv #[a,Bd b]]
def Drawn(m:Int)(s:S)(a:Z):Prop:=ZI a/\∃ r:Nat,s=.d (.int r)/\(r:Int) < m
theorem bE(k:Nat)(m:Int)(hz:ZI z)(m0:0 < m)(m1:m < 2 ^ 32):W (au T (k + 3) aD [.z,.d (~~~m)]) z (Drawn m) NE:=by
 have fin:∀ (a:Int) (z1:Z),ZI z1->Drawn m _ z1:=λa z1 h=>by
  have h0:=W2 a (show m≠0 by omega)
  exact⟨h,_,by rw[VO h0],by rw[VO h0];exact VZ _ m0⟩
 refine uz hz    rfl rfl (-0) ?_
 obtain⟨n,b,rfl,n0,n1⟩:=hz;cases b with
 |true =>
  refine(af (oG  m0) ?_ :);refine(af (QK  m0 ∅) ?_ :)
  exact fin n _ ⟨_,true,rfl,Int.ediv_nonneg n0 ∅,λh=>nomatch h⟩
 |false =>
  have n1:=n1 rfl;have e1:∀ a:Int,0<=a % 2147483647/\a % 2147483647 < 2147483647:=λa=>⟨emod_nonneg _ (-0),emod_lt_of_pos _ (-0)⟩
  have e2:∀ a:Int,0<=a % 2147483629/\a % 2147483629 < 2147483629:=λa=>⟨emod_nonneg _ (-0),emod_lt_of_pos _ (-0)⟩
  have s1:∀ a:Int,(a % 2147483647).natAbs < 2 ^ 64:=λa=>by have:=e1 a;omega
  have s2:∀ a:Int,(a % 2147483629).natAbs < 2 ^ 64:=λa=>by have:=e2 a;omega
  refine(af (vG (i:=n) (j:=48271) ∅ (-0)) ?_ :)
  have a1:=e1 (n * 48271 + 29);refine(af (vG (s1 (n * 48271 + 29)) (s1 (n * 48271 + 29))) ?_ :);refine(af (vG (i:=39373) (-0) (s1 (n * 48271 + 29))) ?_ :)
  refine(af (vG (s2 _) (s2 _)) ?_ :);refine(af (vG (i:=16807) (-0) (s2 _)) ?_ :)
  refine(af (oG m0) ?_ :);exact fin _ _ ⟨_,false,rfl,a1.1,λ_=>a1.2⟩
theorem Be(k:Nat)(a:Zi)(j:Nat)(z:Z):∃ c:Int,au T (k + 3) kN [.d (.lst (a.map D.int)),.d (~~~j)] z=↑(.ok (.d (~~~c)) z):=by
 by_cases h:j < a.length
 .refine#[a[j],W.ok (bg    rfl rfl (-0) (it  (by simp[h]) ?_))]
  refine(af (o:=mh (.lst (a.map D.int)) (~~~j)) (L2.lL (v:= ~~~a[j]) (by simp[h])) ?_ :)
  exact sd rfl
 .exact#[0,W.ok (bg    rfl rfl (-0) (ie  (by simp_all) (sd rfl)))]
theorem Hu(k:Nat)(a:Zi)(j:Nat)(z:Z):∃ (n:Int) (b:Bool),ZI ↑(n,b)/\au T (k + 4) oA [.d (.lst (a.map D.int)),.d (~~~j)] z=↑(.ok (.fr [~~~n,.bl b]) z):=by
 let(c,e):=Be k a j z;by_cases h:(10 ^ 18:Int)<=c
 .exact#[c - 10 ^ 18,true,#[_,_,rfl,by omega,λh=>nomatch h],W.ok (bg    rfl rfl (-0) (Wo e (it  (Zz h) (sd rfl))))]
 .refine#[_,false,#[_,_,rfl,W2 _ (-0),λ_=>VZ _ (-0)],W.ok (bg    rfl rfl (-0) (Wo e (ie  (ZA h) (sd rfl))))]
theorem jd(a:0<=m)(b:m < 100000):uy .rng1 [.int m]=some ((ë m.toNat).map λ(i:Nat)=>D.int i):=by
 show(if inR m=true then _ else none)=_;rw[Zv (jQ.mpr #[by omega,b])]
theorem ne_nil(h:g9 (.lst l)):f9 .ne (.lst l) (.lst [])=↑(!l.isEmpty):=by
 show(Me _ _).map _=_
 delta Me
 rw[h];cases l <;> rfl
theorem qU:∀ l:Zi,bt (l.map D.int)/\cL (l.map D.int)=0
 |[]=>#[rfl,rfl]
 |x::r=>by
  let(a,b):=qU r;refine#[a,?_];show X4 0 _=0;rw[b];rfl
theorem D6(l:Zi):g9 (.lst (l.map D.int)):=by
 let(a,b):=qU l;show(bt _&&decide (cL _ + 1<=40))=true;rw[a,b];rfl
theorem Hv(n:Nat):(ë n).map (λ(i:Nat)=>D.int i)=((ë n).map λ(i:Nat)=>(i:Int)).map D.int:=by
 rw[æ];rfl
theorem J8{l:Zi}{j:Nat}(h:j < l.length):(l.map D.int)[j]?=↑(~~~l[j]):=by rw[Ú,Õ h];rfl
theorem tG{j:Nat}(h:l[j]?=↑x):mh (.lst l) (~~~j)=↑x:=L2.lL h
theorem Hw{j:Nat}(h:l[j]?=some x):mh (.tup l) (.int j)=some x:=L2.lL h
def pr(p:Int × Int):D:=.tup [~~~p.1,~~~p.2]
def ky(p:Int × Int):Zi:=[p.1,p.2]
theorem QL(a b c d:Int):MySort.bh [a,b] [c,d]=if a=c then(if b=d then false else decide (b < d)) else decide (a < c):=rfl
def Ch:Za->Prop
 |a::b::r=>HT.leB (ky a) (ky b)=true/\Ch (b::r)|_=>True
theorem zQ(h:MySort.bh (ky p) (ky q)):HT.leB (ky p) (ky q):=by
 delta HT.leB
 delta ky at h ⊢
 rw[QL] at h ⊢
 grind
def uA(k:Int × Int):Za->Za
 |[]=>[k]|y::r=>if MySort.bh (ky y) (ky k) then y::uA k r else k::y::r
def tH:Za->Za
 |[]=>[]|k::r=>uA k (tH r)
theorem vH(k:Int × Int):∀ l,(uA k l).Perm (k::l)
 |[]=>.refl _
 |y::r=>by
  unfold uA;split
  .exact((vH k r).cons y).trans (.swap _ _ _)
  .exact .refl _
theorem ni:∀ l,(tH l).Perm l
 |[]=>.refl _|k::r=>(vH k _).trans ((ni r).cons k)
theorem CI(k:Int × Int):∀ l,Ch l->Ch (uA k l)
 |[],_=>trivial
 |[y],_=>by
  unfold uA;split
  .rename_i h;exact#[zQ h,trivial]
  .rename_i h;refine#[?_,trivial]
   delta HT.leB
   simpa using h
 |y::x::r,h=>by
  let(a,b):=h;have c:=CI k _ b;unfold uA;split
  .rename_i d;unfold uA at c ⊢;split at c
   .rename_i e;rw[Zv e];exact#[a,c]
   .rename_i e;rw[Zw e];exact#[zQ d,c]
  .rename_i d;refine#[?_,a,b]
   delta HT.leB
   simpa using d
theorem tJ:∀ l,Ch (tH l)
 |[]=>trivial|k::r=>CI k _ (tJ r)
theorem zR(k:Int × Int):∀ l:Za,n6 (pr k) (l.map pr)=(uA k l).map pr
 |[]=>rfl
 |y::r=>by
  unfold uA;show(if MySort.bh (ky y) (ky k) then pr y::n6 _ _ else pr k::pr y::r.map pr)=_;split
  .rw[zR k r];rfl
  .rfl
theorem pP:∀ l:Za,dh (l.map pr)=(tH l).map pr
 |[]=>rfl
 |k::r=>by
  show n6 _ _=_;rw[pP r,zR];rfl
theorem K6(p q:Int × Int):Jd (pr p) (pr q)=some (MySort.bh (ky p) (ky q)):=by
 show(if (p.1 == q.1)=true then(if (p.2 == q.2)=true then some false else some _) else some _)=some (if p.1=q.1 then(if p.2=q.2 then false else decide _) else decide _);simp only[Zy];split
 .split <;> rfl
 .rfl
theorem J9(p q:Int × Int):bH (pr p) (pr q):=by
 delta bH
 rw[K6];show(true&&((↑_ == ↑(MySort.bh (ky p) (ky q)))&&(((p.1 == q.1)&&((p.2 == q.2)&&true)) || !([p.1,p.2] == [q.1,q.2]))))=true
 grind
theorem vI(l:Za):bI (l.map pr):=by
 refine Ó.mpr λx a=>?_;let(p,_,rfl):=Ð.mp a;refine Ó.mpr λy b=>?_;let(q,_,rfl):=Ð.mp b;exact J9 p q
theorem vJ(h:l.length < 64):n9 .sorted [.lst (l.map pr)]=some (.fr ((tH l).map pr)):=by
 show(if (l.map pr).length < 64/\bI _=true then some _ else(FP _).map S.fr)=_;rw[Zv #[by simp_all,vI l],pP]
theorem tK:∀ {l:Za},Ch l->tE (l.map pr)
 |[],_=>rfl|[_],_=>rfl
 |a::b::r,h=>by
  show((fV (pr a::pr b::r.map pr) (pr b::r.map pr)).all SU)=true;have e:fV (pr a::pr b::r.map pr) (pr b::r.map pr)=.tup _::fV _ _:=rfl;rw[e,U7,Á];exact#[h.1,tK h.2]
theorem oI:∀ l:Za,dQ (l.map pr)
 |[]=>rfl
 |_::r=>by
  show(bare _&&dQ _)=true;rw[oI r];rfl
theorem Hx:∀ l:Za,bt (l.map pr)/\cL (l.map pr)<=1
 |[]=>#[rfl,by decide]
 |p::r=>by
  let(a,b):=Hx r;refine#[?_,?_]
  .show(eZ _&&bt _)=true;rw[a];rfl
  .show X4 _ _<=1;have:deep (pr p)=1:=rfl
   simp_all
theorem Ka(l:Za):g9 (.lst (l.map pr)):=by
 let(a,b):=Hx l
 delta g9
 rw[Á,Zx];refine#[a,?_];show cL _ + 1<=40;omega
theorem Kb(l:Za):g9 (.tup (l.map pr)):=Ka l
def de(m:Int)(ps:Za):D:=.tup [~~~m,.tup (ps.map pr)]
structure aW(m:Int)(ps:Za):Prop where
 m1:1<=m
 m6:m<=6
 len:ps.length<=8
 tie:∀ p∈ps,0<=p.1/\p.1 < p.2/\p.2 < m
 ch:Ch ps
theorem aW.Hy(g:aW m ps):jc (de m ps):=by
 delta de jc J7 oF
 simp only[Á,Zx,Uq,Æ];refine#[g.m1,g.m6,g.len,λt a=>?_,tK g.ch];let(p,b,rfl):=Ð.mp a;let(c,d,e):=g.tie p b
 delta pr Bc aS
 grind
theorem NG(a:0<=i)(b:i < 100)(c:-100 < m)(h:m < 100000):uy .rng2 [~~~i,~~~m]=↑((ë (m - i).toNat).map λ(k:Nat)=>D.int (i + k)):=by
 show(if inR i=true/\inR m=true then _ else none)=_;rw[Zv #[jQ.mpr ∅,jQ.mpr ∅]]
theorem qV{L:⇑D}{n:Nat}(f:D->Bool)(h:n < L.length)(a:L.all f):∃ x,L[n]?=↑x/\f x=true :=
 #[_,Õ h,Ó.mp a _ (UN h)]
def N1(a b:Int):D->Bool
 |.int i=>decide (a<=i)&&decide (i<=b)|_=>false
theorem Hz(h:N1 a b x):∃ i,x= ~~~i/\a<=i/\i<=b:=by
 cases x with
 |int i =>
  unfold N1 at h;rw[Á,Zx,Zx] at h;exact#[i,rfl,h]
 |_=>cases h
theorem xR(l:⇑D)(h:0<=n):cutD l none ↑n=l.take n.toNat:=by
 let(k,rfl):=VB h;show(l.drop 0).take (min k l.length - 0)=_
 simp_all
theorem tL{b:Type}{l:List b}{a:b}:(l++[a]).length=l.length + 1:=by simp
theorem HA(a b:Int):(if b < a then b else a)=min a b/\(if b > a then b else a)=max a b:=by grind
theorem lY{P:Int × Int->Prop}:∀ {a b:⇑D},PySem.Paired (λ_ y=>∃ c,y=pr c/\P c) a b->∃ e:Za,b=e.map pr/\e.length=a.length/\∀ c∈e,P c
 |[],_,h=>by cases h;simp_all
 |x::r,_,h=>by
  cases h with
  |cons f g =>
   let(c,rfl,i):=f;let(e,rfl,j,k):=lY g;refine#[c::e,rfl,by simp_all,λd hd=>?_]
   rcases ã.mp hd with rfl | hd
   .exact i
   .exact k d hd
def HB(m:Int)(p:Int × Int):Prop:=0<=p.1/\p.1 < p.2/\p.2 < m
abbrev HC(a m:Int)(b:Za)(c e f:Option S):Env:=[some .z,some (.d (.int a)),some (.d (.int m)),some (.fr (b.map pr)),c,e,f]
theorem NH:HC mo m (a++[p]) b c e=[↑.z,↑(.d (~~~mo)),↑(.d (~~~m)),↑(.fr (a.map pr++[pr p])),b,c,e]:=by rw[HC,Um];rfl
theorem HD{a m:Int}{b:Za}(c:1<=m)(d:m<=6)(e:0<=a)(f:a<=8)(g:∀ p∈b,HB m p)(h:b.length < 64):∃ i,n9 .sorted [.lst (cutD (b.map pr) none ↑a)]=↑(.fr (i.map pr))/\aW m i/\(i.length:Int)<=a:=by
 refine#[_,by rw[xR _ e,<-map_take];exact vJ (by grind),?_]
 have k:=ni (b.take a.toNat);have l:=k.length_eq;rw[US] at l;exact#[#[c,d,by grind,λq n=>g q (List.mem_of_mem_take (k.mem_iff.mp n)),tJ _],by grind]
theorem D7(k:Nat){mo:Int}{z:Z}(hz:ZI z)(h0:0<=mo)(h8:mo<=8):W (au T (k + 5) sZ [.z,.d (.int mo)]) z (λs z1=>ZI z1/\∃ m ps,s=.d (de m ps)/\aW m ps/\(ps.length:Int)<=mo) NE:=by
 refine uz hz    rfl rfl (-0) ?_
 refine(bE _ 8 hz (-0) (-0)).imp λs z1 ⟨hz1,n,e,hn⟩=>?_
 subst e;obtain⟨x,ex,hx⟩:=qV (L:=[D.int 6,.int 5,.int 4,.int 3,.int 4,.int 5,.int 2,.int 1]) (n:=n) (N1 1 6) (by simp only[Þ,UG];omega) (-0)
 obtain⟨m,rfl,m1,m6⟩:=Hz hx;refine(af (tG ex) ?_ :);refine(vC (.fr []) (HC mo m [] none none none) ?_ ?_ ?_ :)
 ·exact⟨rfl,rfl⟩
 ·rfl
 refine Cz (λρ z2=>ZI z2/\∃ ps:List _,ρ=HC mo m ps none none none/\(∀ p∈ps,HB m p)/\ps.length<=5) ?_ ?_
 ·refine ib  (λh=>?_) λh=>⟨hz1,[],rfl,(λp hp=>nomatch hp),by simp⟩
  have h:=ZC h;refine(bE (k + 1) 5 hz1 (-0) (-0)).imp λs z2 ⟨hz2,v,e,hv⟩=>?_
  subst e;refine ib (b:=decide (0 < (v:Int))) (λh1=>?_) λh1=>⟨hz2,[],rfl,(λp hp=>nomatch hp),by simp⟩
  refine(af (NG (i:=1) (m:=m) (-0) (-0) ∅ ∅) ?_ :)
  refine ip (by rw[Æ,ó];simp only[most];omega) (QJ (I:=ZI) (P:=λ_ y=>∃ c,y=pr c/\HB m c) hz2 (λx hx z3 hz3=>?_) λys z3 hz3 hys=>?_)
  ·obtain⟨i,hi,rfl⟩:=Ð.mp hx;have hi:=Uc.mp hi;refine(bE (k + 1) (1 + (i:Int)) hz3 ∅ ∅).imp λs z4 ⟨hz4,a,e,ha⟩=>?_
   subst e;exact⟨hz4,((a:Int),1 + (i:Int)),rfl,by show(0:Int)<=a;omega,ha,by show 1 + (i:Int) < m;omega⟩
  ·obtain⟨cs,rfl,hl,ha⟩:=lY hys;rw[Æ,ó] at hl;exact⟨hz3,cs,rfl,ha,by omega⟩
 ·rintro ρ z2 ⟨hz2,ps,rfl,hp,hl⟩;refine(bE (k + 1) (mo + 1) hz2 ∅ ∅).imp λs z3 ⟨hz3,t,e,ht⟩=>?_
  subst e;have hj:(if decide (1 < m)=true then(1:Int) else 0)=0∨((if decide (1 < m)=true then(1:Int) else 0)=1/\1 < m):=by
   by_cases h:1 < m
   ·exact .inr ⟨by rw[Zz h];rfl,h⟩
   ·exact .inl (by rw[ZA h];rfl)
  refine(af (vG (i:=(t:Int)) (j:=if decide (1 < m)=true then(1:Int) else 0) ∅ (by rcases hj with h | h <;> (first | rw[h] | rw[h.1]) <;> decide)) ?_ :)
  have hc:∃ c:Nat,(t:Int) * (if decide (1 < m)=true then(1:Int) else 0)=c/\c<=8/\(0 < c->1 < m):=by
   rcases hj with h | h
   ·exact⟨0,by rw[h,Int.mul_zero];rfl,by omega,λh=>absurd h ∅⟩
   ·exact⟨t,by rw[h.1,mul_one],by omega,λ_=>h.2⟩
  obtain⟨c,ec,hc8,hcm⟩:=hc;refine(af (o:=uy .rng1 [.int ((t:Int) * (if decide (1 < m)=true then(1:Int) else 0))]) (a:=(ë c).map λ(i:Nat)=>D.int i) (by rw[ec,jd ∅ ∅,UX]) ?_ :)
  refine jb (λxs ρ z=>ZI z/\(0 < xs.length->1 < m)/\∃ (ps:Za) (o4 o5 o6:Option S),ρ=HC mo m ps o4 o5 o6/\(∀ p∈ps,HB m p)/\ps.length + xs.length<=13) _ ⟨hz3,λh=>hcm (by rw[Æ,ó] at h;exact h),ps,_,_,_,rfl,hp,by rw[Æ,ó];omega⟩ ?_ ?_
  ·rintro x r ρ z4 ⟨hz4,hm,ps,o4,o5,o6,rfl,hp,hl⟩;have hm:=hm (by simp)
   refine(bE (k + 1) m hz4 ∅ ∅).imp λs z5 ⟨hz5,a,e,ha⟩=>?_
   subst e;refine(bE (k + 1) (m - 1) hz5 ∅ ∅).imp λs z6 ⟨hz6,b,e,hb⟩=>?_
   subst e;refine(af (oG (i:=(a:Int) + 1 + b) (j:=m) ∅) ?_ :)
   have hq:0<=((a:Int) + 1 + b) % m/\((a:Int) + 1 + b) % m < m/\((a:Int) + 1 + b) % m≠a:=by
    refine⟨W2 _ ∅,VZ _ ∅,?_⟩
    by_cases h:(a:Int) + 1 + b < m
    ·rw[WN ∅ h];omega
    ·rw[show(a:Int) + 1 + b=((a:Int) + 1 + b - m) + m from by omega,Int.add_emod_right,WN ∅ ∅];omega
   generalize ((a:Int) + 1 + b) % m=q at hq ⊢;refine ip ⟨rfl,by rw[Æ];simp only[most,Þ] at hl ⊢;omega⟩ ?_
   refine⟨hz6,λ_=>hm,ps++[(min (a:Int) q,max (a:Int) q)],some (.d x),some (.d (.int a)),some (.d (.int q)),?_,λp hp'=>?_,by rw[tL];simp only[Þ] at hl;omega⟩
   ·rw[NH,← (HA (a:Int) q).1,← (HA (a:Int) q).2];rfl
   ·rcases ù.mp hp' with h | h
    ·exact hp p h
    ·rw[Ô.mp h];show 0<=min (a:Int) q/\min (a:Int) q < max (a:Int) q/\max (a:Int) q < m;omega
  ·rintro ρ z4 ⟨hz4,_,ps,o4,o5,o6,rfl,hp,hl⟩;obtain⟨qs,e,g,hq⟩:=HD m1 m6 h0 h8 hp (by simp only[UG] at hl;omega)
   refine(af e ?_ :);exact⟨hz4,m,qs,rfl,g,hq⟩
theorem vK(a:0 < j)(b:big j):eR .fdiv (~~~i) (~~~j)=↑(.d (~~~(i / j))):=by
 show(if 0 < j/\j.natAbs < mP then ↑_ else none)=_;rw[Zv #[a,xP (Ww a) b]]
theorem CJ(a:0<=i)(b:big i)(c:0<=j)(e:big j):eR .mul (~~~i) (~~~j)=↑(.d (~~~(i * j))):=by
 show(if i.natAbs < mP/\j.natAbs < mP then ↑_ else none)=_;rw[Zv #[xP a b,xP c e]]
theorem iq(h:0 < b):0 < ((gcd t b:Nat):Int):=by
 exact Yd (_c _) (_k (Int.gcd_pos_of_ne_zero_right (a:=t)  ∅))
theorem lZ(h:0 < b)(hb:big b):big (gcd t b:Int):=Yd (Int.le_of_dvd h (Int.gcd_dvd_right t b)) hb
def cT(t b:Int):Int × Int:=(t / gcd t b,b / gcd t b)
theorem pQ(k:Nat)(t b:Int)(z:Z)(a:0 < b)(c:big b):au T (k + 4) oz [.d (~~~t),.d (~~~b)] z=↑(.ok (.d (pr (cT t b))) z):=by
 refine W.ok (bg    rfl rfl (-0) (Wo (ik k t b z a c) ?_))
 refine(af (vK  (iq  a) (lZ a c)) ?_ :);refine(af (vK  (iq  a) (lZ a c)) ?_ :);exact sd rfl
theorem ir(h:n<=3999)(a:i<=2 ^ n):big i:=by
 refine Yd a ?_;have b:(2:Nat) ^ n < 2 ^ 4000:=Nat.pow_lt_pow_right (-0) (_a h)
 have e :=Int.ofNat_lt.mpr b
 simp_all
theorem CK(a:0 < b):t=gcd t b * (cT t b).1/\b=gcd t b * (cT t b).2:=by
 constructor
 .exact(Int.mul_ediv_cancel' (Int.gcd_dvd_left t b)).symm
 .exact(Int.mul_ediv_cancel' (Int.gcd_dvd_right t b)).symm
theorem Kc(a:0 < b):gcd (cT t b).1 (cT t b).2=1:=Int.gcd_ediv_gcd_ediv_gcd_of_ne_zero_right ∅
theorem CL(a:0 < b):0 < (cT t b).2:=by
 let(_,e):=CK  a;refine Int.pos_of_mul_pos_right  ?_ (iq (t:=t) a);exact _s a (_C e)
theorem Kd(h0:0 < b)(h1:0<=t)(h2:t<=b):0<=(cT t b).1/\(cT t b).1<=(cT t b).2/\(cT t b).2<=b:=by
 have g0:=iq (t:=t) h0;have p0:=CL (t:=t) h0;let(e1,e2):=CK (t:=t) h0;refine#[Int.ediv_nonneg h1 (Ww g0),Int.le_of_mul_le_mul_left  (_o (_C (_b e1)) (_o h2 (_C e2))) g0,?_]
 have:1 * (cT t b).2<=(gcd t b:Int) * (cT t b).2:=Int.mul_le_mul_of_nonneg_right g0 (Ww p0)
 omega
def je(c:Int × Int):Prop:=1<=c.2/\c.2<=1000/\0<=c.1/\c.1<=c.2/\gcd c.1 c.2=1
theorem je.ch(h:je c):CG (pr c):=by
 let(a,b,d,e,f):=h;show Em c.1 c.2=true
 delta Em
 simp_all
theorem Ke(a:0 < b)(c:b<=1000)(d:0<=t)(e:t<=b):je (cT t b):=by
 let(f,g,h):=Kd a d e;have:=CL (t:=t) a;exact#[this,_o h c,f,g,Kc a]
theorem mG(k:Nat)(t b:Int)(z:Z)(h0:0 < b)(h1:big b):au T (k + 3) fS [.d (~~~t),.d (~~~b)] z=↑(.ok (.d (pr (cT t b))) z):=by
 refine W.ok (bg    rfl rfl (-0) (CB (λn ρ z1=>z1=z/\∃ c d:Int,ρ=[↑(.d _),↑(.d _),↑(.d (~~~c)),↑(.d (~~~d))]/\GT n c d/\gcd c d=gcd t b/\(d=0->0<=c)) _ #[rfl,_,b,rfl,#[Ww h0,.inl #[_,rfl,h1]],rfl,λh=>by omega] (-0) ?_))
 rintro n ρ z1 ⟨rfl,c,d,rfl,g,hg,hc⟩;refine ib (b:=!(d == 0)) (λhd=>?_) λhd=>?_
 .have hd':0 < d:=by have:=g.1;omega
  let(m,hm,g'):=g.step hd';refine(af (oG  hd') ?_ :);exact#[m,hm,rfl,d,_,rfl,g',(qT c d).trans hg,λ_=>Ww hd']
 .rw[Wf,Zy] at hd;subst hd;rw[Ye] at hg;have e:c=((gcd t b:Nat):Int):=by grind
  subst e;refine(af (vK (i:=t) (iq (t:=t) h0) (lZ h0 h1)) ?_ :);refine(af (vK (i:=b) (iq (t:=t) h0) (lZ h0 h1)) ?_ :);exact sd rfl
def HE:D->Bool
 |.tup [~~~t,~~~b]=>Em t b|_=>false
set_option tactic.hygienic true in
theorem Kg(h:HE x):∃ c,x=pr c/\je c:=by
 delta HE at h
 split at h
 .rename_i t b
  delta Em at h
  simp only[Á,Zx,Zy] at h;exact#[(t,b),rfl,h.1.1,h.1.2,h.2.1.1,h.2.1.2,by grind]
 .cases h
theorem xS(k:Nat)(hz:ZI z):W (au T (k + 4) mB [.z]) z (λs f=>ZI f/\∃ c,s=.d (pr c)/\je c) NE:=by
 apply uz hz    rfl rfl (-0)
 refine(bE k 16 hz (-0) (-0)).imp λs f #[g,v,e,v1]=>?_
 subst e;refine ib  (λh=>?_) λh=>?_
 .let(x,ex,i):=qV (L:=[pr (1,2),pr (2,3),pr (1,3),pr (3,4),pr (9,10),pr (0,1),pr (1,1),pr (1,1000),pr (999,1000)]) (n:=v) HE (by simp only[Þ,UG];omega) (by decide +kernel)
  let(c,rfl,j):=Kg i;refine(af (tG ex) ?_ :);exact#[g,c,rfl,j]
 .refine(bE k 2 g (-0) (-0)).imp λs l #[m,a,e,a1]=>?_
  subst e;let(x,ex,i):=qV (L:=[D.int 12,~~~1000]) (n:=a) (N1 1 1000) (by simp only[Þ,UG];omega) (-0)
  let(u,rfl,o,p):=Hz i;refine(af (tG ex) ?_ :);refine(bE k u m ∅ ∅).imp λs q #[r,b,e,y]=>?_
  subst e;refine(bE k (1 + (b:Int) + 1) r ∅ ∅).imp λs A #[B,t,e,t1]=>?_
  subst e;exact Wo (mG k _ _ _ ∅ (gA ∅)) #[B,cT t (1 + (b:Int)),rfl,Ke ∅ ∅ ∅ ∅]
theorem uB(k:Nat){m:Int}{ts:⇑D}(hz:ZI z)(a:ts.length<=8):W (au T (k + 5) kO [.z,.d (.tup [~~~m,.tup ts])]) z (λs b=>ZI b/\∃ f:Za,s=.d (.tup (f.map pr))/\f.length=ts.length/\∀ c∈f,je c) NE:=by
 refine uz hz    rfl rfl (-0) (ip (cV (â a (_e (Ui _)))) (QJ  (P:=λ_ y=>∃ c,y=pr c/\je c) hz (λx g b h=>?_) λi b h j=>?_))
 .refine(xS k h).imp λs l #[n,c,e,o]=>?_;subst e;exact#[n,c,rfl,o]
 .let(f,rfl,a,p):=lY j;exact#[h,f,rfl,a,p]
theorem tM{a:Za}{n:Nat}(h:a.length=n)(b:∀ c∈a,je c):fI n (.tup (a.map pr)):=by
 delta fI
 rw[Á,Zy,Æ,Uq];refine#[h,λd hd=>?_];let(c,e,rfl):=Ð.mp hd;exact(b c e).ch
theorem CM{n:Nat}(f:D->Bool)(h:n < L.length)(a:L.all f)(b:∀ x,f x->P x):bO (mh (.lst L) (~~~n)) P:=by
 let(x,e,c):=qV f h a;exact af (tG e) (b x c)
theorem D8(k:Nat)(hz:ZI z):W (au T (k + 4) kR [.z]) z (λs a=>ZI a/\∃ x,s=.d x/\jc x=false) NE:=by
 apply uz hz    rfl rfl (-0)
 refine(bE k 25 hz (-0) (-0)).imp λs a #[b,v,e,v1]=>?_
 subst e;refine(CM  (λx=>!jc x) ?_ ?_ ?_ :)
 .show v < 25;exact _f v1
 .decide +kernel
 .exact λx c=>#[b,x,rfl,by simpa using c]
def Tp:D->Bool
 |.tup [~~~a,~~~b]=>decide (a < b)|_=>false
def gM(l:List D):Bool:=(fV l (l.drop 1)).all Tp
def xT(m:Int):D->Bool
 |.tup l=>(l.all (λx=>aS x m)&&gM l)&&!l.isEmpty|_=>false
def short:D->Bool
 |.tup l=>decide (l.length<=1000)|_=>true
theorem HF(k:Nat)(h:∀ x∈l,aS x m)(a:l.length<=1000)(z:Z):au T (k + 3) CC [.d (.tup l)] z=some (.ok (.d (.bl (gM l))) z):=by
 have b:cutD l (some 1) none=l.drop 1:=lj l 1;refine W.ok (bg    rfl rfl (-0) (ip  (â (ll _ _) (cV a)) (j5 _ (λx c=>?_) (af (iO _ Tp) ?_ :))))
 .let(u,e,v,f,rfl):=xN c;rw[b] at f;let(i,rfl,_):=fH (h u e);let(j,rfl,_):=fH (h v (List.mem_of_mem_drop f));exact#[rfl,rfl]
 .exact sb  (by rw[b];rfl)
theorem gx(k:Nat)(m:Int)(hs:short x)(z:Z):au T (k + 5) eV [.d x,.d (~~~m)] z=↑(.ok (.d (.bl (match x with | .tup l=>l.all (λx=>aS x m)&&gM l | _=>false))) z):=by
 refine W.ok (bg    rfl rfl (-0) ?_)
 cases x with
 |tup l =>
  have a :=ZC hs;refine ip (cV a) (j5 _ (λx _=>Wo (lh k x m z) #[rfl,rfl]) (af (iO l _) ?_ :));refine ib  (λh=>?_) λh=>sb (show false=(l.all _&&gM l) by rw[h];rfl)
  exact Wo (HF _ (Ó.mp h) a z) (sb (show gM l=(l.all _&&gM l) by rw[h];rfl))
 |_=>exact sb rfl
theorem gn(k:Nat)(z:Z)(h:xT m x)(hs:short x):au T (k + 6) eW [.d (.tup [~~~m,t]),.d x] z=↑(.ok (.d .cD) z):=by
 refine W.ok (bg    rfl rfl (-0) (Wo (gx k m hs z) ?_))
 cases x with
 |tup l =>
  have h:((l.all _&&gM l)&&!l.isEmpty)=true:=h;rw[Á] at h;apply ie (b:=!(l.all _&&gM l)) (by rw[h.1];rfl)
  cases l with
  |nil=>cases h.2
  |cons y r=>exact sd rfl
 |_=>cases h
theorem qz(k:Nat)(z:Z)(h:xT m x=false)(hs:short x):au T (k + 6) eW [.d (.tup [~~~m,t]),.d x] z=↑(.er 2 z):=by
 refine W.er (bg    rfl rfl (-0) (Wo (gx k m hs z) ?_))
 cases x with
 |tup l =>
  have h:((l.all _&&gM l)&&!l.isEmpty)=false:=h;refine ib (b:=!(l.all _&&gM l)) (λ_=>#[rfl,bx z]) λa=>?_;rw[Wf] at a;rw[a] at h;cases l with
  |nil=>exact#[rfl,bx z]|cons y r=>cases h
 |_=>exact#[rfl,bx z]
def ah(n:Nat):D:=.int n
structure cF(m:Int)(l:⇑Nat):Prop where
 ne:l≠[]
 up:l.Pairwise (· < ·)
 lt:∀ p∈l,(p:Int) < m
theorem tO:∀ {l:Zh},l.Pairwise (· < ·)->gM (l.map ah)
 |[],_=>rfl|[_],_=>rfl
 |a::b::r,h=>by
  have c:=tO (List.Pairwise.of_cons h);show(decide _&&gM _)=true
  simp_all
theorem cF.SV(g:cF m l):xT m (.tup (l.map ah)):=by
 show(((l.map ah).all _&&gM _)&&!(l.map ah).isEmpty)=true;rw[tO g.up,Xy,Á];refine#[Ó.mpr λx a=>?_,?_]
 .let(p,b,rfl):=Ð.mp a;have:=g.lt p b;show(decide (0<=(p:Int))&&decide _)=true
  grind
 .cases l with
  |nil=>exact absurd rfl g.ne|cons _ _=>rfl
theorem cF.len(g:cF m l)(b:m<=6):l.length<=6:=by
 have:l.Sublist (ë 6):=by
  rw[(by
   refine UB  ?_ g.up (UR _ Vc) ?_
   .grind
   .refine(Vm (g.up.imp λh e=>by omega) (UR _ nodup_range)).mpr λa=>?_
    rw[mem_filter,XA,V0];exact#[λh=>#[by exact _W (g.lt a h) b,h],λh=>h.2]:l=(ë 6).filter λx=>l.contains x)];exact List.filter_sublist
 exact this.length_le
theorem zS:∀ {a:⇑D}{l:Zh},a.Sublist (l.map ah)->∃ b:Zh,a=b.map ah/\b.Sublist l:=λ{a l} h=>by
 let(b,c,d):=List.sublist_map_iff.mp h;exact#[b,d,c]
theorem CN(n:Nat):((ë n).map λ(i:Nat)=>D.int i)=(ë n).map ah:=rfl
theorem HG(a b:Int):MySort.bh [a] [b]=decide (a < b):=by
 show(if a=b then false else decide _)=_;by_cases h:a=b
 .rw[Zv h,h];simp
 .rw[Zw h]
theorem jf(a b:Nat):bH (ah a) (ah b):=by
 show(true&&((↑_ == ↑(MySort.bh [(a:Int)] [(b:Int)]))&&(((a:Int) == b) || !([(a:Int)] == [(b:Int)]))))=true;rw[HG]
 simp_all
theorem tP(x y:Nat):n9 .sorted [.lst [ah x,ah y]]=↑(.fr [ah (min x y),ah (max x y)]):=by
 show(if [ah x,ah y].length < 64/\bI _=true then ↑_ else _)=_;rw[Zv #[by show 2 < 64;decide,by
  refine Ó.mpr λu b=>?_;have one :=λa=>by
   show(bH (ah a) (ah x)&&(bH (ah a) (ah y)&&true))=true;rw[jf,jf];rfl
  simp[Ur,Ub,ZF] at b;rcases b with rfl | rfl
  .exact one x
  .exact one y],(by
  show(if MySort.bh [(y:Int)] [(x:Int)] then [ah y,ah x] else [ah x,ah y])=_;rw[HG]
  grind:dh _=[ah (min x y),ah (max x y)])]
theorem xU(k:Nat)(m1:1<=m)(m6:m<=6)(hz:ZI z):W (au T (k + 4) iG [.z,.d (.tup [.int m,t])]) z (λs z1=>ZI z1/\∃ l,s=.d (.tup (l.map ah))/\cF m l) NE:=by
 have g2:cF m (ë m.toNat):=⟨by grind,Vc,λp hp=>by grind⟩
 refine uz hz    rfl rfl (-0) ?_
 refine(bE k 4 hz (-0) (-0)).imp λs z1 ⟨hz1,v,e,v1⟩=>?_
 subst e;refine Cz (λρ z2=>z2=z1/\1 < m/\ρ=[some .z,some (.d (.tup [.int m,t])),some (.d (.int v)),none]) ?_ ?_
 ·refine ib  (λh=>?_) λh=>?_
  ·refine(af (jd (m:=m) ∅ ∅) ?_ :)
   exact⟨hz1,_,rfl,g2⟩
  ·refine ib (b:=m == 1) (λh=>?_) λh=>?_
   ·refine(af (jd (m:=m) ∅ ∅) ?_ :)
    exact⟨hz1,_,rfl,g2⟩
   ·have h:=ne_of_beq_false h;exact⟨rfl,by omega,rfl⟩
 ·rintro ρ z2 ⟨rfl,hm,rfl⟩;refine ib (b:=(v:Int) == 2) (λh=>?_) λh=>?_
  ·refine(bE k m hz1 ∅ ∅).imp λs z3 ⟨hz3,a,e,ha⟩=>?_
   subst e;refine(bE k (m - 1) hz3 ∅ ∅).imp λs z4 ⟨hz4,b,e,hb⟩=>?_
   subst e;refine(af (oG (i:=(a:Int) + 1 + b) (j:=m) ∅) ?_ :)
   have hq:0<=((a:Int) + 1 + b) % m/\((a:Int) + 1 + b) % m < m/\((a:Int) + 1 + b) % m≠a:=by
    refine⟨W2 _ ∅,VZ _ ∅,?_⟩
    by_cases h:(a:Int) + 1 + b < m
    ·rw[WN ∅ h];omega
    ·rw[show(a:Int) + 1 + b=((a:Int) + 1 + b - m) + m from by omega,Int.add_emod_right,WN ∅ ∅];omega
   generalize ((a:Int) + 1 + b) % m=q at hq ⊢;obtain⟨q,rfl⟩:=VB hq.1;refine(af (tP a q) ?_ :);refine⟨hz4,[min a q,max a q],rfl,by simp,?_,λp hp=>?_⟩
   ·refine .cons (λx hx=>?_) (.cons (λ_ h=>nomatch h) .nil);rw[Ô.mp hx];omega
   ·simp only[Ur,Ub,ZF] at hp;rcases hp with rfl | rfl <;> omega
  ·refine(af (jd (m:=m) ∅ ∅) ?_ :)
   refine ip (by rw[Æ,ó];simp only[most];omega) (Ht (I:=ZI) (λx=>x) hz1 (λx hx z3 hz3=>?_) λys z3 hz3 hs=>?_)
   ·refine(bE k 2 hz3 (-0) (-0)).imp λs z4 ⟨hz4,a,e,a1⟩=>?_
    subst e;exact⟨hz4,(a:Int) == 1,rfl,λ_=>⟨rfl,rfl⟩⟩
   ·rw[map_id',CN] at hs;obtain⟨l,rfl,hl⟩:=zS hs;cases l with
    |nil =>
     refine⟨hz3,[m.toNat - 1],?_,by simp,.cons (λ_ h=>nomatch h) .nil,λq hq=>by rw[Ô.mp hq];omega⟩
     show S.d (.tup [.int (m - 1)])=S.d (.tup [.int ((m.toNat - 1:Nat):Int)]);rw[show(m - 1)=((m.toNat - 1:Nat):Int) by omega]
    |cons p r=>exact⟨hz3,p::r,rfl,by simp,List.Pairwise.sublist hl Vc,λq hq=>by have:=Uc.mp (hl.mem hq);omega⟩
section
variable (ps:Za)
abbrev tA(n:Nat):Nat:=(ps.getD n (0,0)).1.toNat
abbrev tB(n:Nat):Nat:=(ps.getD n (0,0)).2.toNat
def jg(mk:Zi)(n:Nat):Zi:=mk.map λx=>if x=mk.getD (tB ps n) 0 then mk.getD (tA ps n) 0 else x
def aI(m:Nat)(aq:Zh):Zi:=aq.foldl (jg ps) ((ë m).map λ(i:Nat)=>(i:Int))
def HH(mk:Zi)(pl:Zh):Bool:=pl.all λp=>mk.getD p 0 == mk.getD (pl.getD 0 0) 0
def dU(m:Nat)(pl aq:Zh):Bool:=HH (aI ps m aq) pl
variable {ps}
theorem tQ(mk:Zi)(n:Nat):(jg ps mk n).length=mk.length:=Æ _
theorem step_get(h:x < mk.length):(jg ps mk n).getD x 0=if mk.getD x 0=mk.getD (tB ps n) 0 then mk.getD (tA ps n) 0 else mk.getD x 0:=by
 delta jg
 simp_all
theorem eG:(aI ps m aq).length=m:=by
 delta aI
 rw[(by
  intro l
  induction l with
  |nil=>intro mk;rfl|cons n r a=>intro mk;rw[foldl_cons,a,tQ]:∀ (l:Zh) (mk:Zi),(l.foldl _ mk).length=mk.length)];simp
theorem Bg(a:∀ n < ps.length,tA ps n < m/\tB ps n < m):∀ (b:Zh) (mk:Zi),mk.length=m->(∀ n∈b,n < ps.length) ->
  (∀ x y,x < m->y < m->mk.getD x 0=mk.getD y 0->(b.foldl (jg ps) mk).getD x 0=(b.foldl (jg ps) mk).getD y 0)/\(∀ n∈b,(b.foldl (jg ps) mk).getD (tA ps n) 0=(b.foldl (jg ps) mk).getD (tB ps n) 0) /\
  ∀ f:Nat->Int,(∀ x y,x < m->y < m->mk.getD x 0=mk.getD y 0->f x=f y)->(∀ n∈b,f (tA ps n)=f (tB ps n))->∀ x y,x < m->y < m->(b.foldl (jg ps) mk).getD x 0=(b.foldl (jg ps) mk).getD y 0->f x=f y:=by
 intro b
 induction b with
 |nil=>exact λmk _ _=>#[λ_ _ _ _ h=>h,(λ_ h=>nomatch h),λf h _=>h]
 |cons n r c =>
  intro mk d g;let(i,j):=a n (g n Í);let(l,o,p):=c (jg ps mk n) (by rw[tQ];exact d) λk q=>g k (É _ q)
  have s:∀ x,x < m->(jg ps mk n).getD x 0=if mk.getD x 0=mk.getD _ 0 then mk.getD _ 0 else mk.getD x 0:=λx u=>step_get (_l u (_b d))
  refine#[λx y u v h=>l x y u v (by rw[s x u,s y v,h]),λk q=>?_,λf z A=>?_]
  .rcases ã.mp q with rfl | q
   .refine l _ _ i j ?_;rw[s _ i,s _ j,Zv rfl];split <;> rfl
   .exact o k q
  .refine p f (λx y u v h=>?_) λk q=>A k (É _ q);have e:=A n Í;rw[s x u,s y v] at h;split at h
   .rename_i B;have C:=z _ _ u j B;split at h
    .rename_i E;rw[C,z _ _ v j E]
    .rw[C,<-e];exact z _ _ i v h
   .split at h
    .rename_i E;rw[z _ _ v j E,<-e];exact z _ _ u i h
    .exact z _ _ u v h
theorem vL(h:x < m):(((ë m).map λ(i:Nat)=>(i:Int))).getD x 0=(x:Int):=by simp_all
theorem tR(a:∀ n < ps.length,tA ps n < m/\tB ps n < m){pl aq:Zh}(b:∀ p∈pl,p < m)(c:∀ n∈aq,n < ps.length):dU ps m pl aq↔∀ f:Nat->Int,(∀ n∈aq,f (tA ps n)=f (tB ps n))->∀ p∈pl,f p=f (pl.getD 0 0):=by
 let(_,d,g):=Bg a aq ((ë m).map λ(i:Nat)=>(i:Int)) ⋯ c
 delta dU HH
 rw[Uq];constructor
 .intro h f l p k;refine g f (λx y o s e=>?_) l p _ (b p k) ((λp k=>by
  cases pl with
  |nil=>cases k
  |cons q r=>exact b q Í) p k) (Zy.mp (h p k));rw[vL o,vL s] at e;rw[Int.ofNat_inj.mp e]
 .intro h p k;rw[Zy];exact h (λx=>(aI ps m aq).getD x 0) d p k
end
section
variable (g:Zh->Bool) (c:Nat->Int × Int)
variable {g c}
def dB:Nat->List Zh
 |0=>[[]]|j + 1=>dB j++(dB j).map (·++[j])
def l9(c:Nat->Int × Int)(j:Nat)(aq:Zh):Int:=(ë j).foldl (λa n=>a * (if n∈aq then(c n).1 else(c n).2 - (c n).1)) 1
theorem tS:l9 c (j + 1) a=l9 c j a * (if j∈a then(c j).1 else(c j).2 - (c j).1):=by
 unfold l9;rw[List.range_succ,List.foldl_append];rfl
theorem ma:∀ {j:Nat}{a:Zh},a∈dB j->∀ n∈a,n < j
 |0,a,h,n,b=>by rw[Ô.mp h] at b;cases b
 |j + 1,a,h,n,b=>by
  rcases ù.mp h with h | h
  .exact Uw (ma h n b)
  .let(l,d,rfl):=Ð.mp h;rcases ù.mp b with b | b
   .exact Uw (ma d n b)
   simp_all
def gO(l:List Zh)(f:Zh->Int):Int:=(l.map f).foldr (· + ·) 0
theorem HI:gO (a++b) f=gO a f + gO b f:=by
 unfold gO;induction a with
 |nil=>simp|cons x r d=>simp only[Ux,cons_append,List.foldr_cons,d,Int.add_assoc]
end
theorem K7{it:It}{l:List S}(h:sh l):BW it e l a=sj it e l a:=by delta BW;rw[h,rZ];rfl
theorem jH:∀ l:Zh,dQ (l.map ah)
 |[]=>rfl|_::r=>jH r
structure Row(x:D)(aq:⇑Nat):Prop where
 sq:mf x=↑(aq.map ah)
 br:FV x=true
theorem Row.t(a:Zh):Row (.tup (a.map ah)) a:=#[rfl,jH a]
theorem Row.ba(h:Row x a):sh [.d x]:=by
 show(FV x&&true)=true;rw[h.br];rfl
theorem xV{mk:Zi}{a:Int}(b:0<=a)(h:a.toNat < mk.length):mh (.lst (mk.map D.int)) (~~~a)=↑(~~~(mk.getD a.toNat 0)):=by
 let(n,rfl):=VB b;rw[Ñ,Õ h];exact tG (J8 h)
theorem HJ{a:Za}{n:Nat}(h:n < a.length):mh (.tup (a.map pr)) (~~~n)=↑(pr (a.getD n (0,0))):=by
 rw[Ñ];exact Hw (by rw[Ú,Õ h];rfl)
theorem getD_mem{a:Za}{n:Nat}(h:n < a.length):a.getD n (0,0)∈a:=by simp_all
theorem aW.D9{ps:Za}(g:aW m ps):∀ n < ps.length,tA ps n < m.toNat/\tB ps n < m.toNat:=λn a=>by
 have:=g.tie _ (getD_mem a)
 omega
def Kh(a b:Int):D->D
 |~~~v=>~~~(if v=b then a else v)|x=>x
theorem Ki{F:FT}{z:Z}{mk:Zi}(a b:Int){Q:⇑D->Z->Prop}{E:Nat->Z->Prop}(q:Q ((mk.map λx=>if x=b then a else x).map D.int) z):W (turns (jR (ev F .nil) (ev F (.ite (.cmp .eq (.var 0) (.var 2)) (.var 1) (.var 0))) (.v 0) [none,↑(.d (~~~a)),↑(.d (~~~b))]) (mk.map D.int)) z Q E:=by
 refine j5 (Kh a b) (λx c=>?_) ?_
 .let(v,_,rfl):=Ð.mp c;refine ib (b:=v == b) (λh=>#[?_,rfl]) λh=>#[?_,rfl]
  .show D.int a= ~~~_
   simp_all
  .show D.int v= ~~~_
   simp_all
 .rw[(by rw[æ,æ];rfl:(mk.map D.int).map _=(mk.map _).map D.int)];exact q
theorem lu(k:Nat)(g:aW m b)(c:Row x f)(h:∀ n∈f,n < b.length)(z:Z):au T (k + 3) mX [.d (de m b),.d x] z=some (.ok (.fr ((aI b m.toNat f).map D.int)) z):=by
 have i:=g.m6;have j:=g.m1;refine W.ok (bg    rfl rfl (-0) ?_)
 refine(af (o:=O1 [.int m]) (jd ∅ ∅) ?_)
 refine af (o:=mf x) c.sq ?_;refine jb (λl p q=>q=z/\∃ (s:Zh) (mk:Zi) (u v A B C:Option S),l=s.map ah/\(∀ n∈s,n < b.length)/\mk.length=m.toNat/\s.foldl _ mk=aI b m.toNat f/\p=[some (.d (de m b)),some (.d x),some (.d (.int m)),some (.d (.tup (b.map pr))),some (.fr (mk.map D.int)),u,v,A,B,C]) _ #[rfl,f,_,none,none,none,none,none,rfl,h,by simp,rfl,(K7 c.ba).trans ?_] ?_ ?_
 .rw[<-Hv];rfl
 .rintro y r p q ⟨rfl,s,mk,u,v,A,B,C,e,E,hm,hf,rfl⟩;cases s with
  |nil=>cases e
  |cons n s =>
   cases e;have F:=E n Í;have G:=g.tie _ (getD_mem F);refine(af (HJ F) ?_ :);refine(af (xV (mk:=mk) G.1 ∅) ?_ :)
   refine(af (xV (mk:=mk) (a:=(b.getD n (0,0)).2) ∅ ∅) ?_ :)
   refine ip (by rw[Æ];simp only[most];omega) (Ki _ _ ?_)
   exact#[rfl,s,_,_,_,_,_,_,rfl,λk H=>E k (É _ H),by rw[tQ];exact hm,hf,rfl]
 .rintro p q ⟨rfl,s,mk,u,v,A,B,C,e,E,hm,hf,rfl⟩;cases s with
  |nil=>exact sd (by rw[<-hf];rfl)|cons _ _=>cases e
section
variable {m:Int}{ps:Za}{pl aq:Zh}
theorem CO{mk:Zi}{p:Nat}(h:p < mk.length):mh (.lst (mk.map D.int)) (.int p)=some (.int (mk.getD p 0)):=xV  (_c _) (by simp_all)
theorem xW(h:pl≠[]):mh (.tup (pl.map ah)) (~~~0)=↑(ah (pl.getD 0 0)):=by
 cases pl with
 |nil=>exact absurd rfl h|cons p r=>exact Hw  rfl
theorem cF.p0(a:cF m pl):pl.getD 0 0 < m.toNat:=by
 have b:=a.lt;cases pl with
 |nil=>exact absurd rfl (a.ne)|cons p r=>simp_all
def N2(mk:Zi)(p0:Nat):D->Bool
 |~~~p=>mk.getD p.toNat 0 == mk.getD p0 0|_=>false
theorem CP(l:Zh):(l.map ah).all (N2 mk p0)=l.all λp=>mk.getD p 0 == mk.getD p0 0:=by rw[List.all_map];rfl
theorem mH(k:Nat)(g:aW m ps)(a:cF m pl)(c:Row x aq)(e:∀ n∈aq,n < ps.length)(z:Z):au T (k + 4) jD [.d (de m ps),.d x,.d (.tup (pl.map ah))] z=↑(.ok (.d (.bl (dU ps m.toNat pl aq))) z):=by
 have f:=a.len g.m6;refine W.ok (bg    rfl rfl (-0) (Wo (lu k g c e z) ?_))
 have h:(aI ps m.toNat aq).length=m.toNat:=eG;generalize i:aI ps m.toNat aq=mk at h;refine ip (by grind) (j5 _ (λy j=>?_) (af (iO _ (N2 mk (pl.getD 0 0))) ?_ :))
 .let(p,l,rfl):=Ð.mp j;have:=a.lt p l;refine(af (CO (mk:=mk) (p:=p) ∅) ?_ :)
  refine(af (xW a.ne) ?_ :);refine(af (CO  (by rw[h];exact a.p0)) ?_ :)
  exact#[rfl,rfl]
 .refine sb (b:=(pl.map ah).all (N2 mk (pl.getD 0 0))) ?_;rw[CP,<-i];rfl
theorem CQ(h:g9 (.lst l)):f9 .eq (.lst l) (.lst [])=↑l.isEmpty:=by
 show(if g9 _&&g9 _ then ↑_ else Mf _ _)=_;rw[h];cases l <;> rfl
theorem oJ(l:Zh):g9 (.lst (l.map ah)):=by
 have e:l.map ah=(l.map λ(n:Nat)=>(n:Int)).map D.int:=by rw[æ];rfl
 rw[e];exact D6 _
end
def aQ(l:Zh):D:=.tup (l.map ah)
theorem tU:∀ {j:Nat}{a:Zh},a∈dB j->a.length<=j
 |0,a,h=>by rw[Ô.mp h];exact Î _
 |j + 1,a,h=>by
  rcases ù.mp h with h | h
  .exact Nat.le_succ_of_le (tU h)
  .let(l,b,rfl):=Ð.mp h;rw[tL];exact Xe (tU b)
theorem lx:∀ j:Nat,(dB j).length=2 ^ j
 |0=>rfl
 |j + 1=>by
  show(dB j++(dB j).map _).length=_;rw[õ,Æ,lx j];omega
theorem CS(h:j<=8):2 ^ j<=256:=Nat.pow_le_pow_right  (-0) h
theorem add_l(h:a.length + b.length<=1000):eR .add (.lst a) (.lst b)=↑(.fr (a++b)):=by
 show(if a.length + b.length<=most then ↑_ else none)=_;rw[Zv (cV h)]
theorem jW(h:a.length + b.length<=1000):eR .add (.tup a) (.tup b)=some (.d (.tup (a++b))):=by
 show(if a.length + b.length<=most then some _ else none)=_;rw[Zv (cV h)]
def QM(j:Nat):D->D
 |.tup l=>.tup (l++[ah j])|x=>x
theorem HK:((dB j).map aQ).map (QM j)=((dB j).map (·++[j])).map aQ:=by
 rw[æ,æ];refine Uo λl _=>?_;show D.tup _=.tup _;rw[Um];rfl
theorem CT{n:Nat}(h:n < 100000):uy .rng1 [~~~n]=↑((Vw 0 n).map ah):=by
 rw[jd (_c _) (_s (_k h) (_x _)),List.range_eq_range'];rfl
abbrev cf(cs:Za)(n:Nat):Int × Int:=cs.getD n (0,1)
def b9(a:Za):Int:=(a.map (·.2)).foldr (· * ·) 1
theorem iw:∀ {a:Za},(∀ c∈a,je c)->0 < b9 a/\b9 a<=2 ^ (10 * a.length)
 |[],_=>by decide
 |c::r,h=>by
  let(b,e):=iw λd hd=>h d (É _ hd);let(c1,c2,_):=h c Í;refine#[mul_pos (show(0:Int) < c.2 by exact c1) b,?_]
  show c.2 * b9 r<=_;rw[Þ,Nat.mul_add,Int.pow_add,Int.mul_comm];exact Int.mul_le_mul e ∅ (Ww c1) (by exact (Int.le_trans (Ww b) e))
theorem je.w(h:je c)(b:Prop)[Decidable b]:0<=(if b then c.1 else c.2 - c.1)/\(if b then c.1 else c.2 - c.1)<=1000:=by
 let(c1,c2,c3,c4,_):=h;split <;> omega
theorem HL(a:∀ c∈cs,je c)(h:n < cs.length):je (cf cs n):=a _ (by rw[cf,Ñ,Õ h];exact UN h)
theorem Bh(a:∀ c∈cs,je c):∀ {j:Nat},j<=cs.length->0<=l9 (cf cs) j aq/\l9 (cf cs) j aq<=2 ^ (10 * j)
 |0,_=>by exact ⟨_o (_c _) (_x _),_x _⟩
 |j + 1,h=>by
  let(b,d):=Bh  a  (Vb h)
  let(w1,w2):=(HL a  h).w (j∈aq)
  rw[tS];refine#[Int.mul_nonneg b w1,?_];rw[Nat.mul_add,Int.pow_add];exact Int.mul_le_mul d ∅ w1 (by exact (Int.le_trans b d))
theorem tV(n:Nat):∀ l:Zh,memD (ah n) (l.map ah)=decide (n∈l)
 |[]=>rfl
 |x::r=>by
  show((x:Int) == (n:Int) || memD _ _)=_;rw[tV n r,UY,Vd,Zy,Zx,Zx]
  grind
theorem jh(l:Zh):fz (l.map ah):=by
 have e:l.map ah=(l.map λ(n:Nat)=>(n:Int)).map D.int:=by rw[æ];rfl
 let(a,b):=qU _
 delta fz
 rw[e,a,b];rfl
theorem oK{n:Nat}{l:Zh}:rW (ah n) (l.map ah)=↑(decide (n∈l)):=by
 delta rW
 rw[jh,tV];rfl
theorem NI{n:Nat}(h:n < cs.length):mh (.tup (cs.map pr)) (~~~n)=↑(pr (cf cs n)):=by
 rw[cf,Ñ];exact Hw (by rw[Ú,Õ h];rfl)
section
variable {m:Int}{ps cs:Za}{pl:Zh}
def tW(m:Int)(ps cs:Za)(pl:Zh):Int × Int:=cT (gO (dB ps.length) λa=>if dU ps m.toNat pl a then l9 (cf cs) ps.length a else 0) (b9 cs)
end
def bG(k:Nat):List Zh:=(TS.sN k).map (TS.kq k 0)
theorem vM(h:k<=8):dB k=(ë (2 ^ k)).map (TS.kq k 0):=by
 exact (by decide +kernel:∀ k,k < 9->dB k=(ë _).map (TS.kq k 0)) k (_a h)
theorem eI(h:k<=8):(bG k).Perm (dB k):=by
 rw[vM h];exact(List.isPerm_iff.mp ((by decide +kernel:∀ k,k < 9->(TS.sN k).isPerm (ë _)=true) k (_a h))).map _
theorem NJ(h:k<=8):(dB k).map aQ=cS k:=by
 rw[vM h];rw[æ];rfl
theorem zT(h:k<=8):n9 .sorted [.lst ((dB k).map aQ)]=↑(.fr ((bG k).map aQ)):=by
 rw[NJ h];show(if (cS k).length < 64/\bI _=true then ↑(S.fr _) else(FP _).map S.fr)=_;rw[Zw (λq=>by rw[(by decide +kernel:∀ k,k < 9->bI (cS k)=false) k (_a h)] at q;cases q.2)]
 have e:FP (cS k)=↑(yP k):=by
  show(((ë 9).find? λj=>jx (cS k) (cS j)).map yP)=_;rw[(by decide +kernel:∀ k,k < 9->((ë 9).find? λj=>jx (cS k) (cS j))=↑k) k (_a h)];rfl
 rw[e];show ↑(S.fr (yP k))=↑(S.fr ((bG k).map aQ));rw[bG,æ];rfl
theorem zU{i:Nat}(hi:T[i]?=↑(.code 1 3 mZ))(k:Nat){m:Int}{ts:⇑D}(h8:ts.length<=8)(z:Z):au T (k + 3) i [.d (.tup [~~~m,.tup ts])] z=↑(.ok (.fr ((bG ts.length).map aQ)) z):=by
 refine W.ok (bg    hi rfl (-0) ?_)
 refine(af (CT (n:=ts.length) ∅) ?_ :)
 refine jb (λxs ρ z1=>z1=z/\∃ (j r:Nat) (o2:Option S),j + r=ts.length/\xs=(Vw j r).map ah/\ρ=[↑(.d _),↑(.fr ((dB j).map aQ)),o2]) _ #[rfl,0,ts.length,none,X3 _,rfl,rfl] ?_ ?_
 .rintro x r ρ z1 ⟨rfl,j,r',o2,hj,e,rfl⟩;cases r' with
  |zero=>cases e
  |succ r' =>
   cases e;have hp:=CS (j:=j) ∅
   refine ip (by rw[Æ,lx];omega) (j5 (QM j) (λy hy=>?_) ?_)
   .let(l,hl,rfl):=Ð.mp hy;have:=tU hl;refine(af (jW (a:=l.map ah) (b:=[ah j]) (by rw[Æ];show _ + 1<=_;omega)) ?_ :)
    exact#[rfl,rfl]
   .rw[HK];refine(af (add_l (a:=(dB j).map aQ) (b:=((dB j).map (·++[j])).map aQ) (by rw[Æ,Æ,Æ,lx];omega)) ?_ :)
    refine#[rfl,j + 1,r',↑(.d (ah j)),by omega,rfl,?_]
    exact congrArg (λl=>[↑(S.d (.tup [~~~m,.tup ts])),↑(.fr l),↑(.d (ah j))]) Um.symm
 .rintro ρ z1 ⟨rfl,j,r',o2,hj,e,rfl⟩;cases r' with
  |zero =>
   have hj:j=ts.length:=hj;subst hj;refine(af (zT h8) ?_ :);exact sd rfl
  |succ r'=>rw[Xn] at e;cases e
theorem lB(k:Nat)(a:ts.length<=8)(z:Z):au T (k + 3) mY [.d (.tup [~~~m,.tup ts])] z=↑(.ok (.fr ((bG ts.length).map aQ)) z):=zU rfl k a z
def fo:D->Zh
 |.tup l=>l.map λx=>match x with | .int i=>i.toNat | _=>0
 |_=>[]
theorem cW(l:Zh):fo (aQ l)=l:=by
 show(l.map ah).map _=l;rw[æ];exact map_id l
theorem jI(h:k<=8)(a:aq∈bG k):∀ n∈aq,n < k:=ma ((eI h).mem_iff.mp a)
theorem f6(h:k<=8):(bG k).length<=256:=by rw[(eI h).length_eq,lx];exact CS h
section
variable {m:Int}{ps cs:Za}{pl:Zh}
abbrev nj(m:Int)(ps:Za)(pl:Zh):⇑Zh:=(bG ps.length).filter (dU ps m.toNat pl)
theorem xX(k:Nat)(g:aW m ps)(a:cF m pl)(z:Z):au T (k + 9) kM [.d (de m ps),.d (.tup (pl.map ah))] z=some (.ok (.fr ((nj m ps pl).map aQ)) z):=by
 have b:=g.len;have c:=a.len g.m6;refine W.ok (bg    rfl rfl (-0) (Wo (eX k z g.Hy) (Wo (gn _  z a.SV (Zz (by grind))) (Wo (lB _   (by simp_all) z) ?_))))
 rw[Æ];refine ip (by rw[Æ];exact cV (â (f6 b) (-0))) (qy (λx=>dU ps m.toNat pl (fo x)) id (λx e=>?_) ?_)
 .let(l,f,rfl):=Ð.mp e;refine Wo (mH _ g a (Row.t l) (jI b f) z) #[?_,rfl,λ_=>#[rfl,rfl]];rw[cW]
 .refine sd ?_;rw[map_id,Yj];have:(bG ps.length).filter ((λx=>dU ps m.toNat pl (fo x)) ∘ aQ)=nj m ps pl:=Xh λl _=>by show dU ps m.toNat pl (fo (aQ l))=_;rw[cW]
  rw[this]
theorem nk(k:Nat)(a:cs.length<=8)(f:∀ c∈cs,je c)(g:Zh)(z:Z):au T (k + 3) lW [.d (.tup (cs.map pr)),.d (aQ g)] z=↑(.ok (.d (~~~(l9 (cf cs) cs.length g))) z):=by
 refine W.ok (bg    rfl rfl (-0) ?_)
 refine jb (λi o p=>p=z/\∃ (j:Nat) (q s u:Option S),j<=cs.length/\i=fh ((cs.drop j).map pr) j/\o=[↑(.d _),↑(.d _),↑(.d (~~~(l9 (cf cs) j g))),q,s,u]) _ #[rfl,0,none,none,none,Vl _,rfl,(K7 (by show(dQ _&&true)=true;rw[oI];rfl)).trans rfl] ?_ ?_
 .rintro x r o p ⟨rfl,j,q,s,u,v,e,rfl⟩;by_cases h:j < cs.length
  .rw[UO h] at e;cases e;rw[(by rw[cf,Ñ,Õ h];rfl:cs[j]=cf cs j)];let(A,B):=Bh  f  (Vb h)
   refine(af (oK  ) ?_ :);have C:∀ w:Int,0<=w->w<=1000->w=(if j∈g then(cf cs j).1 else(cf cs j).2 - (cf cs j).1)->eR .mul (~~~(l9 (cf cs) j g)) (~~~w)=↑(.d (~~~(l9 (cf cs) (j + 1) g))):=λw E w1 e=>by
    rw[CJ A (ir (n:=10 * j) ∅ B) E (gA ∅),tS,e]
   let(w1,w2):=(HL f h).w (j∈g);refine ib (b:=decide (j∈g)) (λF=>?_) λF=>?_
   .rw[Zx] at F;rw[Zv F] at w1 w2;refine(af (C _ w1 w2 (by rw[Zv F])) ?_ :)
    exact#[rfl,j + 1,_,_,_,h,rfl,rfl]
   .rw[ZE] at F;rw[Zw F] at w1 w2;refine(af (C _ w1 w2 (by rw[Zw F])) ?_ :)
    exact#[rfl,j + 1,_,_,_,h,rfl,rfl]
  .rw[W6 (_g h)] at e;cases e
 .rintro o p ⟨rfl,j,q,s,u,v,e,rfl⟩;by_cases h:j < cs.length
  .rw[UO h] at e;cases e
  .have v:j=cs.length:=_i v (_g h)
   subst v;exact sd rfl
theorem gQ(k:Nat)(a:cs.length<=8)(f:∀ c∈cs,je c)(z:Z):au T (k + 3) fQ [.d (.tup (cs.map pr))] z=↑(.ok (.d (~~~(b9 cs))) z):=by
 let(g,h):=iw f;refine W.ok (bg    rfl rfl (-0) ?_)
 refine jb (λl p q=>q=z/\∃ (s:Za) (b:Int) (o:Option S),l=s.map pr/\(∀ c∈s,je c)/\0 < b/\b * b9 s=b9 cs/\p=[↑(.d _),↑(.d (~~~b)),o]) _ #[rfl,cs,1,none,rfl,f,by decide,Int.one_mul _,(K7 (by show(dQ _&&true)=true;rw[oI];rfl)).trans rfl] ?_ ?_
 .rintro x r p q ⟨rfl,s,b,o,e,u,v,y,rfl⟩;cases s with
  |nil=>cases e
  |cons c s =>
   cases e;have A:=u c Í;have B:=λd hd=>u d (É _ hd);have C:b * (c.2 * b9 s)=b9 cs:=y;refine(af (CJ   (Ww v) (ir  ∅ (Int.le_trans (by
    have F:0 < c.2 * b9 s:=mul_pos (by have:=A.1;exact this) ((iw B).1)
    have:b * 1<=b * (c.2 * b9 s):=V5 F (Ww v)
    omega) h)) (by have:=A.1;exact Ww this) (gA (by have:=A.2.1;omega))) ?_ :)
   exact#[rfl,s,b * c.2,_,rfl,B,mul_pos v (by have:=A.1;exact this),by rw[Int.mul_assoc];exact C,rfl]
 .rintro p q ⟨rfl,s,b,o,e,u,v,y,rfl⟩;cases s with
  |cons _ _=>cases e
  |nil =>
   have y:b * 1=b9 cs:=y;rw[mul_one] at y;subst y;exact sd rfl
theorem sum_ints(f:Zh->Int):∀ a:List Zh,rX ((a.map aQ).map λx=>.int (f (fo x)))=some (gO a f)
 |[]=>rfl
 |l::r=>by
  show(rX ((r.map aQ).map λx=>.int (f (fo x)))).map (f (fo (aQ l)) + ·)=_;rw[sum_ints f r,cW];rfl
theorem uC(k:Nat)(e:cs.length<=8)(f:∀ c∈cs,je c)(g:ls.length<=256)(z:Z):au T (k + 5) jE [.d (.tup (cs.map pr)),.d (.lst (ls.map aQ))] z=↑(.ok (.d (pr (cT (gO ls (l9 (cf cs) cs.length)) (b9 cs)))) z):=by
 let(h,i):=iw f;refine W.ok (bg    rfl rfl (-0) ?_)
 refine ip (by rw[Æ];exact cV (â g (_e (Ui _)))) (j5 (λx=>~~~(l9 (cf cs) cs.length (fo x))) (λx j=>?_) ?_)
 .let(l,_,rfl):=Ð.mp j;refine Wo (nk (k + 1) e f l z) #[?_,rfl];rw[cW]
 .refine(af (o:=n9 .sum [.lst _]) (a:=.d (~~~(gO ls (l9 (cf cs) cs.length)))) (by show(((mf (.lst _)).bind rX).map _)=_;show(rX _).map _=_;rw[sum_ints];rfl) ?_ :)
  exact Wo (gQ (k + 1) e f z) (Wo (pQ k _ _ z h (ir (n:=10 * cs.length) ∅ i)) (sd rfl))
theorem vN(h:a.Perm b):gO a f=gO b f:=by
 exact(h.map f).foldr_eq' (λx _ y _ z=>by omega) 0
theorem md(g:Zh->Bool)(f:Zh->Int):∀ a:⇑Zh,gO (a.filter g) f=gO a λl=>if g l then f l else 0
 |[]=>rfl
 |x::r=>by
  show _=(if g x=true then f x else 0) + gO r _;rw[YC,<-(md g f r)];cases g x with
  |true=>rfl|false=>simp_all
theorem uD(k:Nat)(g:aW m ps)(a:cs.length=ps.length)(b:∀ c∈cs,je c)(z:Z):au T (k + 5) jE [.d (.tup (cs.map pr)),.d (.lst ((nj m ps pl).map aQ))] z=some (.ok (.d (pr (tW m ps cs pl))) z):=by
 have e:=g.len;rw[uC k (â (Y5 a) e) b (â (U6 _ _) (f6 e)) z,md,vN (eI e),a]
 rfl
theorem HM(k:Nat)(g:aW m ps)(a:cF m pl)(e:cs.length=ps.length)(f:∀ c∈cs,je c)(z:Z):au T (k + 11) hY [.d (de m ps),.d (.tup (cs.map pr)),.d (.tup (pl.map ah))] z=↑(.ok (.d (pr (tW m ps cs pl))) z):=by
 exact W.ok (bg    rfl rfl (-0) (Wo (cJ k   g.Hy z (tM (by simp_all) f)) (Wo (gn _  z a.SV (Zz (by rw[Æ];exact â (a.len g.m6) (_e (Ui _))))) (Wo (xX _ g a z) (Wo (uD (k + 5) g e f z) (sd rfl))))))
end
def tl:Sm->Sm
 |.seq _ r=>r|s=>s
theorem Ea{n K:Nat}(h:n < K):aS (~~~n) K:=by
 show(decide (0<=(n:Int))&&decide _)=true;simp_all
theorem ji:∀ {j:Nat}{aq:Zh},aq∈dB j->aq.Pairwise (· < ·)
 |0,aq,h=>by
  have :=by simpa [dB] using h
  subst this;exact .nil
 |j + 1,aq,h=>by
  rcases ù.mp (show aq∈dB j++(dB j).map _ from h) with h | h
  .exact ji h
  .let(x,c,rfl):=Ð.mp h;rw[List.pairwise_append];refine#[ji c,YL _ _,λa d b e=>?_];rw[Ô] at e;subst e;exact ma c a d
theorem zV:∀ {K:Nat}{a:Zh},a.Pairwise (· < ·)->(∀ n∈a,n < K)->a.length<=K:=λ{K a} b c=>by
 have:=(List.Nodup.length_le_of_subset (b.imp λh=>Ù h) (λn d=>Uc.mpr (c n d):a ⊆ ë K))
 rwa [ó] at this
theorem tY:∀ a:Zi,gq (a.map D.int)=some a
 |[]=>rfl
 |n::r=>by
  show(gq _).map _=_;rw[tY r];rfl
theorem HN(h:a.length < 1000):AN [.lst (a.map D.int)]=↑(.fr (iE a)):=by
 show(match gq _ with | ↑a=>if a.length < 1000 then ↑(S.fr _) else none | none=>none)=_
 rw[tY];exact Zv h
section
variable {m:Int}{ps cs:Za}{pl aq:Zh}
theorem oM(k:Nat)(a:ps.length<=8)(c:aq.Pairwise (· < ·))(f:∀ n∈aq,n < ps.length)(z:Z):au T (k + 7) hW [.d (de m ps),.d (aQ aq)] z=↑(.ok (.d .cD) z):=by
 have g:=zV c f;refine W.ok (bg    rfl rfl (-0) ?_)
 exact Wo (by
  refine W.ok (bg    rfl rfl (-0) (Wo (gx k _ (x:=aQ aq) (Zz (by rw[Æ];omega)) z) (sd ?_)))
  show S.d (.bl ((aq.map ah).all _&&gM _))=_;rw[(by
  rw[Uq];intro x i;let(n,j,rfl):=Ð.mp i;exact Ea (by rw[Æ];exact f n j):(aq.map ah).all (λx=>aS x ((ps.map pr).length:Nat))=true),tO c];rfl:au T (k + 6) sY [.d (de m ps),.d (aQ aq)] z=↑(.ok (.d (.bl true)) z)) (sd rfl)
theorem uE(k:Nat)(g:aW m ps)(a:cs.length=ps.length)(e:∀ c∈cs,je c)(f:aq.Pairwise (· < ·))(h:∀ n∈aq,n < ps.length)(z:Z):au T (k + 11) cA [.d (de m ps),.d (.tup (cs.map pr)),.d (aQ aq)] z=↑(.ok (.d (pr (cT (l9 (cf cs) ps.length aq) (b9 cs)))) z):=by
 have i:=g.len;let(j,l):=iw e;refine W.ok (bg    rfl rfl (-0) (Wo (cJ k   g.Hy z (tM (by simp_all) e)) (Wo (oM _ i f h z) (Wo (nk _ (â (Y5 a) i) e aq z) (Wo (gQ _ (â (Y5 a) i) e z) (Wo (pQ _ _ _ z j (ir  ∅ l)) (sd ?_)))))))
 rw[a]
theorem xY(k:Nat)(g:aW m ps)(a:aq.Pairwise (· < ·))(e:∀ n∈aq,n < ps.length)(z:Z):au T (k + 9) qf [.d (de m ps),.d (aQ aq)] z=↑(.ok (.fr (iE (aI ps m.toNat aq))) z):=by
 refine W.ok (bg    rfl rfl (-0) (Wo (eX k z g.Hy) (Wo (oM _ (g.len) a e z) ?_)))
 refine ip (B:=False) (c:=2 < 5/\3 < 5/\4 < 5) (-0) (Wo (lu _ g (Row.t aq) e z) ?_)
 refine(af (o:=AN [.lst ((aI ps m.toNat aq).map D.int)]) (HN (by rw[eG];have:=g.m6;omega)) ?_ :)
 exact sd rfl
end
open L2 (D gW)
def oN(a:Zi)(m:Int):Zi:=if m∈a then a else a++[m]
theorem zW:∀ (a:List (Int × Zi)) (m p:Int),(gW a m p).map (·.1)=oN (a.map (·.1)) m
 |[],_,_=>rfl
 |g::r,m,p=>by
  unfold gW oN;by_cases h:g.1=m
  .rw[Zv h,Ux,Zv (by rw[<-h];exact Í)];rfl
  .rw[Zw h,Ux,zW r m p];unfold oN;rw[Ux];by_cases q:m∈r.map (·.1)
   .rw[Zv q,Zv (É _ q)]
   .rw[Zw q,Zw (λz=>(ã.mp z).elim (λz=>h z.symm) q)];rfl
theorem zX:∀ (a:Zi) (b:⇑(Int × Zi)) (p:Nat),(kA b p a).map (·.1)=a.foldl oN (b.map (·.1))
 |[],_,_=>rfl
 |m::r,b,p=>by
  show(kA _ _ r).map _=r.foldl oN _;rw[zX r,zW]
theorem HP(a:Zi)(m:Int):a.length<=(oN a m).length/\(oN a m).length<=a.length + 1:=by
 unfold oN;split
 .exact#[Î _,le_succ _]
 simp_all
theorem tZ:∀ (a b:Zi),b.length<=(a.foldl oN b).length/\(a.foldl oN b).length<=b.length + a.length
 |[],b=>#[Î _,Î _]
 |m::r,b=>by
  have h:=tZ r (oN b m);have k:=HP b m;rw[foldl_cons,Þ];omega
def iP(ns:Zi):Nat:=(kA [] 0 ns).length
theorem HQ(a:Zi):iP a=(a.foldl oN []).length:=by
 have:=congrArg List.length (zX a [] 0);rw[Æ] at this;exact this
theorem CU(a:Zi):iP a<=a.length:=by
 rw[HQ];have:=(tZ a []).2;simp_all
theorem zY{a:Int}:1<=iP (a::r):=by
 rw[HQ];exact(tZ r (oN [] a)).1
theorem zZ(ns:Zi):(iE ns).length=iP ns:=by unfold iE iP;rw[Æ]
section
variable {m:Int}{ps cs:Za}
def dW(m:Int)(ps cs:Za)(a:List Zh):Zi:=(ë m.toNat).map λp=>gO a λl=>if iP (aI ps m.toNat l)=p + 1 then l9 (cf cs) cs.length l else 0
theorem jj:(dW m ps cs ls).length=m.toNat:=by unfold dW;rw[Æ,ó]
theorem HR:dW m ps cs []=ì m.toNat 0:=by
 unfold dW;rw[List.eq_replicate_iff];exact#[by simp,λb a=>by let(_,_,rfl):=Ð.mp a;rfl]
def xZ(m:Int)(ps cs:Za)(a:List Zh)(p:Nat):Int:=gO a λl=>if iP (aI ps m.toNat l)=p + 1 then l9 (cf cs) cs.length l else 0
theorem t9(h:i < m.toNat):(dW m ps cs ls)[i]?=↑(xZ m ps cs ls i):=by
 unfold dW;rw[Ú,Wz h];rfl
theorem Eb:xZ m ps cs (ls++[l]) p=xZ m ps cs ls p + (if iP (aI ps m.toNat l)=p + 1 then l9 (cf cs) cs.length l else 0):=by
 unfold xZ;rw[HI]
 congr 1
 show(if iP _=p + 1 then l9 _ cs.length l else 0) + 0=_;rw[add_zero]
theorem Ec(a:iP (aI ps m.toNat l)=q + 1)(b:q < m.toNat):dW m ps cs (ls++[l])=(dW m ps cs ls).set q (xZ m ps cs ls q + l9 (cf cs) cs.length l):=by
 refine ext_getElem? λi=>?_;by_cases h:i < m.toNat
 .rw[t9 h,Eb,List.getElem?_set];by_cases e:q=i
  .subst e;rw[Zv rfl,Zv a,Zv (by rw[jj];exact b)]
  .rw[Zw e,Zw ∅,add_zero,t9 h]
 .rw[Xm (by rw[jj];exact _g h),Xm (by rw[ô,jj];exact _g h)]
theorem NK(h:j < n):L2.Ek n (j:Int)=some j:=by
 unfold L2.Ek;rw[Zv (_c _),Zv (_k h),UX]
theorem NL{j:Nat}(h:j < xs.length):sg xs (j:Int) y=↑(xs.set j y):=by
 unfold sg;rw[NK h];rfl
theorem nq:∀ a:⇑Zh,dQ (a.map aQ)
 |[]=>rfl
 |l::r=>by
  show(dQ _&&dQ _)=true;rw[nq r,jH l];rfl
theorem pR(k:Nat)(g:aW m ps)(hc:cs.length=ps.length)(ha:∀ c∈cs,je c)(z:Z):au T (k + 11) cw [.d (de m ps),.d (.tup (cs.map pr))] z=some (.ok (.fr ((dW m ps cs (bG ps.length)).map λt=>pr (cT t (b9 cs)))) z):=by
 have h8:=g.len;have m6:=g.m6;let(b0,b1):=iw ha;refine W.ok (bg (ps:=2) (ns:=5) (b:=cU) rfl rfl (-0) (Wo (cJ k (m:=m) (ts:=ps.map pr) g.Hy z (tM (by rw[Æ];exact hc) ha)) ?_))
 refine(af (o:=eR .mul (.lst [.int 0]) (.int m)) (a:=.fr ((dW m ps cs []).map D.int)) (by
  show(if 0<=m/\m.toNat * 1<=most/\m < 1000000 then some (S.fr (ì m.toNat [D.int 0]).flatten) else none)=_;rw[Zv #[by have:=g.m1;omega,by simp only[most];omega,by omega],HR,List.map_replicate]
  congr 2
  induction m.toNat with
  |zero=>rfl
  |succ n ih=>rw[Wt,Wt,flatten_cons,ih];rfl) ?_ :)
 refine Wo (lB (k + 7) (m:=m) (ts:=ps.map pr) (by rw[Æ];exact h8) z) ?_
 rw[Æ];refine jb (λxs ρ z2=>z2=z/\∃ (dn rest:List Zh) (o:Option S),dn++rest=bG ps.length/\xs=rest.map aQ/\ρ=[some (.d (de m ps)),some (.d (.tup (cs.map pr))),some (.fr ((dW m ps cs dn).map D.int)),o,none]) _ #[rfl,[],bG ps.length,none,rfl,rfl,(K7 (by show(dQ _&&true)=true;rw[nq];rfl)).trans rfl] ?_ ?_
 .rintro x r ρ z2 ⟨rfl,dn,rest,o,hd,e,rfl⟩;cases rest with
  |nil=>cases e
  |cons l rest =>
   cases e;have hl:l∈bG ps.length:=by rw[<-hd];exact ÿ _ Í
   have h2:=jI h8 hl;have h1:=ji ((eI h8).mem_iff.mp hl);obtain⟨q,hq,hm⟩:∃ q,iP (aI ps m.toNat l)=q + 1/\q < m.toNat:=by
    have a1:=CU (aI ps m.toNat l);rw[eG] at a1;have a2:1<=iP (aI ps m.toNat l):=by
     cases e:aI ps m.toNat l with
     |nil=>have:=eG (ps:=ps) (m:=m.toNat) (aq:=l);rw[e] at this;have:=g.m1;simp at *;omega|cons _ _=>exact zY
    exact#[iP (aI ps m.toNat l) - 1,by omega,by omega]
   have eq:(((iE (aI ps m.toNat l)).length:Nat):Int) - 1=(q:Int):=by rw[zZ,hq];omega
   refine Wo (xY (k + 1) g h1 h2 z2) ?_;refine(af (o:=L2.Ai ((dW m ps cs dn).map D.int) ((((iE (aI ps m.toNat l)).length:Nat):Int) - 1)) (a:=.int (xZ m ps cs dn q)) (by rw[eq];exact L2.lL (by rw[Ú,t9 hm];rfl)) ?_ :)
   refine Wo (nk (k + 7) ∅ ha l z2) ?_
   refine(af (o:=sg ((dW m ps cs dn).map D.int) ((((iE (aI ps m.toNat l)).length:Nat):Int) - 1) (.int (xZ m ps cs dn q + l9 (cf cs) cs.length l))) (a:=(dW m ps cs (dn++[l])).map D.int) (by
    rw[eq,NL (by rw[Æ,jj];exact hm),Ec hq hm,List.map_set]) ?_ :)
   exact#[rfl,dn++[l],rest,_,by rw[Vt];exact hd,rfl,rfl]
 .rintro ρ z2 ⟨rfl,dn,rest,o,hd,e,rfl⟩;cases rest with
  |cons _ _=>cases e
  |nil =>
   rw[Wa] at hd;subst hd;refine Wo (gQ (k + 7) ∅ ha z2) ?_
   refine ip (by rw[Æ,jj];exact cV ∅) (j5 (λx=>match x with | .int t=>pr (cT t (b9 cs)) | _=>x) (λx hx=>?_) ?_)
   .let(t,_,rfl):=Ð.mp hx;exact Wo (pQ (k + 6) _ _ z2 b0 (ir (n:=10 * cs.length) ∅ b1)) #[rfl,rfl]
   .rw[æ];exact sd rfl
end
theorem vO:∀ {a b:⇑D},bt (a++b)=(bt a&&bt b)
 |[],b=>rfl
 |x::a,b=>by
  show(eZ x&&bt (a++b))=((eZ x&&bt a)&&bt b);rw[vO,Bool.and_assoc]
theorem vP:∀ {a b:⇑D},cL (a++b)=X4 (cL a) (cL b)
 |[],b=>(Nat.zero_max _).symm
 |x::a,b=>by
  show X4 _ (cL (a++b))=X4 _ _;rw[vP];exact(Nat.max_assoc _ _ _).symm
theorem z9(c:fz a)(d:fz b):fz (a++b):=by
 delta fz at c d ⊢
 rw[Á,Zx] at c d ⊢;rw[vO,vP,c.1,d.1];exact#[rfl,Nat.max_le.mpr #[c.2,d.2]]
theorem QN(h:fz l):g9 (.tup l):=by
 delta fz at h
 delta g9
 rw[Á,Zx] at h ⊢;exact#[h.1,by exact Xe h.2]
theorem HS(h:eZ x)(a:deep x<=39):fz [x]:=by
 delta fz
 rw[Á,Zx];refine#[by show(eZ x&&true)=true;rw[h];rfl,?_]
 show X4 _ 0<=39
 simp_all
theorem CV(h:l.length≠n):fI n (.tup l)=false:=by
 delta fI
 simp_all
theorem x6{a b:⇑D}(h:CG x=false):fI n (.tup (a++[x]++b))=false:=by
 delta fI
 simp_all
theorem Kj{l:Za}:f9 .ne (.tup (l.map pr)) (.tup [])=↑(!(l.map pr).isEmpty):=by
 show(Me _ _).map _=_
 delta Me
 rw[Kb];cases l <;> rfl
abbrev pf(a:Za)(i:Nat):Int × Int:=a.getD i (0,0)
section
variable {m:Int}{ps cs:Za}{pl:Zh}
theorem NM(h:i < ps.length):pf ps i∈ps:=by
 rw[pf,Ñ,Õ h];exact UN h
theorem aW.ab(g:aW m ps)(a:n < ps.length):tA ps n < tB ps n/\tB ps n < m.toNat/\pf ps n=((tA ps n:Int),(tB ps n:Int)):=by
 have:=g.tie _ (NM a);refine#[by show(pf ps n).1.toNat < (pf ps n).2.toNat;omega,by show(pf ps n).2.toNat < _;omega,Prod.ext ?_ ?_]
 .show(pf ps n).1=((pf ps n).1.toNat:Int);omega
 .show(pf ps n).2=((pf ps n).2.toNat:Int);omega
end
def gR(F:Zh)(a b:Nat):Zh:=if a∈F/\b ∉ F then F++[b] else F
theorem Aa(h:x∈F):x∈gR F a b:=by
 delta gR
 split
 .exact Vi _ h
 .exact h
theorem x8(F:Zh)(a b:Nat):(gR F a b=F/\(a∈F->b∈F))∨F.length < (gR F a b).length:=by
 delta gR
 split
 .simp_all
 simp_all
def Ed(m:Nat)(F:Zh):Prop:=F.Nodup/\∀ x∈F,x < m
theorem eJ:∀ {m:Nat}{F:Zh},Ed m F->F.length<=m
 |0,[],_=>Î _|0,x::_,h=>absurd (h.2 x Í) (Yx _)
 |m + 1,F,h=>by
  have a:=eJ #[h.1.erase m,λx b=>by
   exact _m (_h (h.2 x (List.mem_of_mem_erase b))) ((List.Nodup.mem_erase_iff h.1).mp b |>.1)]
  grind
theorem oO(h:Ed m F)(c:b < m):Ed m (gR F a b):=by
 delta gR
 split
 .rename_i d;refine#[Yo.mpr #[h.1,by simp,λx f y g=>?_],λx f=>?_]
  .rw[Ô.mp g];exact λe=>d.2 (e ▸ f)
  .rcases ù.mp f with f | f
   .exact h.2 x f
   simp_all
 .exact h
theorem HU{F:Zh}{a b:Nat}{f:Nat->Int}{v:Int}(h:∀ x∈F,f x=v)(e:f a=f b):∀ x∈gR F a b,f x=v:=by
 delta gR
 split
 .intro x c;rcases ù.mp c with c | c
  .exact h x c
  simp_all
 .exact h
section
variable (ps:Za)
def Kk(F:Zh)(n:Nat):Zh:=gR (gR F (tA ps n) (tB ps n)) (tB ps n) (tA ps n)
def Ee(a:Zh)(F:Zh):Zh:=a.foldl (Kk ps) F
def bW(aq:Zh):Nat->Zh->Zh
 |0,F=>F|j + 1,F=>bW aq j (Ee ps aq F)
variable {ps:Za}
theorem NN(F:Zh)(n:Nat):(Kk ps F n=F/\(tA ps n∈F↔tB ps n∈F))∨F.length < (Kk ps F n).length:=by
 delta Kk
 rcases x8 F _ _ with ⟨a,b⟩ | a
 .rw[a];rcases x8 F _ _ with ⟨c,d⟩ | c
  .exact .inl #[c,b,d]
  .exact .inr c
 .rcases x8 _ _ _ with ⟨c,_⟩ | c
  .rw[c];exact .inr a
  .exact .inr (Nat.lt_trans a c)
theorem Bj:∀ (a F:Zh),(Ee ps a F=F/\∀ n∈a,(tA ps n∈F↔tB ps n∈F))∨F.length < (Ee ps a F).length
 |[],F=>.inl #[rfl,λ_ h=>nomatch h]
 |n::r,F=>by
  show(Ee ps r _=F/\_)∨F.length < (Ee ps r _).length;rcases NN  F n with ⟨b,c⟩ | b
  .rw[b];rcases Bj r F with ⟨d,e⟩ | d
   .simp_all
   .exact .inr d
  .rcases Bj r _ with ⟨d,_⟩ | d
   .rw[d];exact .inr b
   .exact .inr (Nat.lt_trans b d)
theorem CW:∀ {a F:Zh},Ed m F->(∀ n∈a,tA ps n < m/\tB ps n < m)->Ed m (Ee ps a F)
 |[],_,h,_=>h|n::r,F,h,b=>CW  (F:=Kk ps F n) (oO (oO h (b n Í).2) (b n Í).1) λk c=>b k (É _ c)
theorem K8{f:Nat->Int}{v:Int}:∀ {a F:Zh},(∀ x∈F,f x=v)->(∀ n∈a,f (tA ps n)=f (tB ps n))->∀ x∈Ee ps a F,f x=v
 |[],_,h,_=>h|n::r,F,h,b=>K8  (F:=Kk ps F n) (HU (HU h (b n Í)) (b n Í).symm) λk c=>b k (É _ c)
theorem CY:∀ {a F:Zh}{x:Nat},x∈F->x∈Ee ps a F
 |[],_,_,h=>h|n::r,F,x,h=>CY  (F:=Kk ps F n) (Aa (Aa h))
theorem lC(a:∀ n∈b,tA ps n < m/\tB ps n < m):∀ {j:Nat}{F:Zh},Ed m F->Ed m (bW ps b j F)
 |0,_,h=>h|j + 1,_,h=>lC a (j:=j) (CW h a)
theorem x9{f:Nat->Int}{v:Int}{aq:Zh}(a:∀ n∈aq,f (tA ps n)=f (tB ps n)):∀ {j:Nat}{F:Zh},(∀ x∈F,f x=v)->∀ x∈bW ps aq j F,f x=v
 |0,_,h=>h|j + 1,_,h=>x9 a (j:=j) (K8 h a)
theorem oP:∀ {j:Nat}{F:Zh}{x:Nat},x∈F->x∈bW ps a j F
 |0,_,_,h=>h|j + 1,_,_,h=>oP (j:=j) (CY h)
theorem qW:∀ (j:Nat) (F:Zh),(∀ n∈aq,(tA ps n∈bW ps aq j F↔tB ps n∈bW ps aq j F))∨F.length + j<=(bW ps aq j F).length
 |0,F=>.inr (Î _)
 |j + 1,F=>by
  show(∀ n∈aq,(tA ps n∈bW ps aq j _↔tB ps n∈bW ps aq j _))∨F.length + (j + 1)<=(bW ps aq j _).length;rcases Bj  aq F with ⟨h1,h2⟩ | h1
  .refine .inl ?_;rw[h1,(λi=>by
    induction i with
    |zero=>rfl|succ i ih=>show bW ps aq i _=F;rw[h1];exact ih:∀ i,bW ps aq i F=F)];exact h2
  .rcases qW  j _ with h2 | h2
   .exact .inl h2
   .exact .inr (â (Nat.le_of_lt_add_one (Nat.add_lt_add_right h1 _)) h2)
theorem vQ{pl a:Zh}(g:aW m ps)(b:cF m pl)(c:∀ n∈a,n < ps.length):(∀ p∈pl,p∈bW ps a m.toNat [pl.getD 0 0])↔dU ps m.toNat pl a:=by
 have i:∀ p∈pl,p < m.toNat:=λp h=>by have:=b.lt p h;omega
 rw[tR g.D9 i c];constructor
 .exact λh f k p l=>x9 k (λx o=>by rw[Ô.mp o]) p (h p l)
 .intro h p l;have q:∀ n∈a,(tA ps n∈bW ps a m.toNat [pl.getD 0 0]↔tB ps n∈bW ps a m.toNat [pl.getD 0 0]):=by
   rcases qW   m.toNat _ with r | r
   .exact r
   .have:=eJ (lC (λn e=>g.D9 n (c n e)) (j:=m.toNat) (F:=[pl.getD 0 0]) #[⋯,λx o=>by rw[Ô.mp o];exact (b.p0)])
    simp only[Þ,UG] at r;omega
  have s:=h (λx=>if x∈bW ps a m.toNat _ then 1 else 0) (λn e=>by
   by_cases o:tA ps n∈bW ps a m.toNat [pl.getD 0 0]
   .rw[Zv o,Zv ((q n e).mp o)]
   .rw[Zw o,Zw λu=>o ((q n e).mpr u)]) p l
  rw[Zv (oP (Ô.mpr rfl))] at s
  grind
end
def ua(k:Nat):Zh->Zh
 |[]=>[k]|y::r=>if y < k then y::ua k r else k::y::r
def iy:Zh->Zh
 |[]=>[]|k::r=>ua k (iy r)
theorem pS(k:Nat):∀ l,(ua k l).Perm (k::l)
 |[]=>.refl _
 |y::r=>by
  unfold ua;split
  .exact((pS k r).cons y).trans (.swap _ _ _)
  .exact .refl _
theorem jJ:∀ l,(iy l).Perm l
 |[]=>.refl _|k::r=>(pS k _).trans ((jJ r).cons k)
theorem ub(k:Nat):∀ l:Zh,n6 (ah k) (l.map ah)=(ua k l).map ah
 |[]=>rfl
 |y::r=>by
  unfold ua;show(if MySort.bh [(y:Int)] [(k:Int)] then ah y::n6 _ _ else ah k::ah y::r.map ah)=_;rw[HG,ub k r]
  grind
theorem pT:∀ l:Zh,dh (l.map ah)=(iy l).map ah
 |[]=>rfl
 |k::r=>by
  show n6 _ _=_;rw[pT r,ub];rfl
theorem Ab(h:l.length < 64):n9 .sorted [.lst (l.map ah)]=some (.fr ((iy l).map ah)):=by
 have ok:bI (l.map ah)=true:=by
  refine Ó.mpr λx a=>?_;let(p,_,rfl):=Ð.mp a;refine Ó.mpr λy b=>?_;let(q,_,rfl):=Ð.mp b;exact jf p q
 show(if (l.map ah).length < 64/\bI _=true then some _ else _)=_;rw[Zv #[by simp_all,ok],pT]
theorem oQ{n:Nat}{l:Zh}:(rW (ah n) (l.map ah)).map (!·)=↑(!decide (n∈l)):=by rw[oK];rfl
def CZ:D->Nat
 |~~~i=>i.toNat|_=>0
section
variable {m:Int}{ps:Za}{pl aq:Zh}
abbrev N3(m:Int)(ps:Za)(aq:Zh)(p0:Nat)(F:Zh)(a b c e:Option S):Env:=[↑(.d (de m ps)),↑(.d (.tup (aq.map ah))),↑(.d (ah p0)),↑(.fr (F.map ah)),a,b,c,e]
theorem Ac:F.map ah++[ah b]=(F++[b]).map ah:=⋯
theorem lD(k:Nat)(g:aW m ps)(hl:∀ n∈aq,n < ps.length){p0:Nat}(h0:p0 < m.toNat)(z:Z):au T (k + 3) kP [.d (de m ps),.d (.tup (aq.map ah)),.d (ah p0)] z=some (.ok (.d (.tup ((iy (bW ps aq m.toNat [p0])).map ah))) z):=by
 have m6:=g.m6;have m1:=g.m1;refine W.ok (bg    rfl rfl (-0) ?_)
 refine(vC (.fr [ah p0]) (N3 m ps aq p0 [p0] none none none none) ?_ ?_ ?_)
 .exact#[rfl,rfl]
 .rfl
 refine(af (jd (m:=m) (Ww m1) ∅) ?_)
 refine jb (λc f i=>i=z/\∃ (F:Zh) (j o p q:Option S),Ed m.toNat F/\bW ps aq c.length F=bW ps aq m.toNat _/\f=N3 m ps aq p0 F j o p q) _ #[rfl,_,none,none,none,none,#[by simp,λx hx=>by rw[Ô.mp hx];exact h0],by rw[Æ,ó],rfl] ?_ ?_
 .rintro x r f i ⟨rfl,F,j,o,p,q,s,e,rfl⟩;refine jb (λc f u=>u=i/\∃ (l G:Zh) (j o p q:Option S),c=l.map ah/\(∀ n∈l,n < ps.length)/\Ed m.toNat G/\Ee ps l G=Ee ps aq F/\f=N3 m ps aq p0 G j o p q) _ #[rfl,aq,F,_,o,p,q,rfl,hl,s,rfl,(K7 (Row.t aq).ba).trans rfl] ?_ ?_
  .rintro y r' f u ⟨rfl,l,G,j,o,p,q,v,A,B,C,rfl⟩;cases l with
   |nil=>cases v
   |cons n l =>
    cases v;have E:=A n Í;have ab:=(g.ab E).2.2;have H:=g.D9 n E;have len:=eJ B;refine(af (show mh _ _=some (pr ((tA ps n),(tB ps n))) from by rw[HJ E];exact congrArg (λx=>some _) ab) ?_ :)
    refine Cz (λf I=>I=u/\∃ (j o:Option S),f=N3 m ps aq p0 (gR G (tA ps n) (tB ps n)) j o (some (.d (ah (tA ps n)))) (some (.d (ah (tB ps n))))) ?_ ?_
    .have J:∀ h:¬ (tA ps n∈G/\tB ps n ∉ G),gR G _ _=G:=λh=>Zw h;refine(af (oK  ) ?_ :);refine ib  (λK=>?_) λK=>#[rfl,_,_,by rw[J λh=>of_decide_eq_false K h.1];rfl]
     refine(af (oQ  ) ?_ :);refine ib  (λL=>?_) λL=>#[rfl,_,_,by rw[J λh=>by rw[ZA h.2] at L;cases L];rfl]
     refine(af (add_l (a:=G.map ah) (b:=[ah _]) (by rw[Æ];show G.length + 1<=1000;omega)) ?_ :)
     rw[Ac,show gR G _ _=G++[tB ps n] from Zv #[ZC K,by simpa using L]]
     exact#[rfl,_,_,rfl]
    .rintro f I ⟨rfl,j,o,rfl⟩;have N:=oO (a:=tA ps n)  B H.2;have tL:=eJ N;have P:∀ (f) (U) (j o p q:Option S),U=Kk ps G n->f=N3 m ps aq p0 U j o p q->(I=I/\∃ (X G:Zh) (j o p q:Option S),List.map ah l=X.map ah/\(∀ n∈X,n < ps.length)/\Ed m.toNat G/\Ee ps X G=Ee ps aq F/\f=N3 m ps aq p0 G j o p q):=λf U j o p q e he=>#[rfl,l,U,j,o,p,q,rfl,λk hk=>A k (É _ hk),by rw[e];exact oO N H.1,by rw[e];exact C,he]
     delta Kk at P
     generalize gR G _ _=Y at P N tL;have J:∀ h:¬ (tB ps n∈Y/\tA ps n ∉ Y),Y=gR Y _ _:=λh=>(Zw h).symm;refine(af (oK  ) ?_ :);refine ib  (λK=>?_) λK=>P _ Y _ _ _ _ (J λh=>of_decide_eq_false K h.1) rfl;refine(af (oQ  ) ?_ :);refine ib  (λL=>?_) λL=>P _ Y _ _ _ _ (J λh=>by rw[ZA h.2] at L;cases L) rfl
     refine(af (add_l (a:=Y.map ah) (b:=[ah _]) (by rw[Æ];show Y.length + 1<=1000;omega)) ?_ :)
     rw[Ac];exact P _ _ _ _ _ _ (Zv #[ZC K,by simpa using L]).symm rfl
  .rintro f u ⟨rfl,l,G,j,o,p,q,v,A,B,C,rfl⟩;cases l with
   |cons n l=>cases v
   |nil=>exact#[rfl,G,_,_,_,_,B,by rw[show G=Ee ps aq F from C];exact e,rfl]
 .rintro f i ⟨rfl,F,j,o,p,q,s,e,rfl⟩;have len:=eJ s;refine(af (Ab (l:=F) ∅) ?_)
  rw[<-e];exact sd rfl
theorem ya(k:Nat)(g:aW m ps)(a:cF m pl)(b:∀ n∈aq,n < ps.length)(z:Z):au T (k + 4) kQ [.d (de m ps),.d (.tup (aq.map ah)),.d (.tup (pl.map ah))] z=↑(.ok (.d (.bl (dU ps m.toNat pl aq))) z):=by
 have c:=a.len g.m6;refine W.ok (bg    rfl rfl (-0) ?_)
 refine(af (xW a.ne) ?_ :);apply Wo (lD k g b a.p0 z);refine ip (by grind) (qy (λx=>!decide (CZ x∈bW ps aq m.toNat [pl.getD 0 0])) (λx=>x) (λy e=>?_) ?_)
 .let(p,f,rfl):=Ð.mp e;refine(af (oQ  ) ?_ :);refine#[?_,rfl,λ_=>#[rfl,rfl]];rw[show decide _=decide (CZ (ah p)∈bW ps aq m.toNat _) from by
   rw[UY,Zx,Zx,(jJ _).mem_iff];rfl]
 .rw[map_id',Yj];refine(af (CQ (oJ _)) ?_ :);refine sb ?_;rw[UY,<-vQ g a b,isEmpty_map,isEmpty_iff,VC];constructor
  .intro h p i;have j:¬ (!decide (p∈bW ps aq m.toNat [pl.getD 0 0]))=true:=h p i;simpa using j
  .intro h p i;show ¬ (!decide (p∈bW ps aq m.toNat [pl.getD 0 0]))=true;simpa using h p i
end
theorem uc(k:Nat)(x:D)(z:Z):au T (k + 3) oB [.d x] z=some (.ok (.d (.bl (gk x))) z):=by
 refine W.ok (bg    rfl rfl (-0) ?_)
 cases x with
 |_=>exact sd rfl
theorem Ef(h:gk x):∃ i,x= ~~~i:=by
 cases x with
 |int i=>exact#[i,rfl]|_=>cases h
theorem qo(c:D->Bool):∀ {l:⇑D},fz l->fz (l.filter c):=λ{l} h=>by
 delta fz at h ⊢
 rw[Á,Zx] at h ⊢
 induction l with
 |nil=>exact h
 |cons x r a =>
  have b:(eZ x&&bt r)=true:=h.1;have d:X4 _ _<=39:=h.2;rw[Á] at b;rw[Nat.max_le] at d;have a:=a #[b.2,d.2];rw[YC];split
  .refine#[?_,?_]
   .show(eZ x&&bt _)=true;rw[b.1,a.1];rfl
   .exact Nat.max_le.mpr #[d.1,a.2]
  .exact a
theorem K9(h:fz l):g9 (.lst l):=QN h
def pU:D->Bool
 |.tup l=>fz l&&decide (l.length<=1000)|_=>true
theorem ud(h:pU x):short x:=by
 cases x with
 |tup l =>
  delta pU at h
  rw[Á] at h;exact h.2
 |_=>rfl
theorem lN:∀ {l:⇑D},(∀ x∈l,gk x)->∃ a:Zi,l=a.map D.int
 |[],_=>#[[],rfl]
 |x::r,h=>by
  let(i,rfl):=Ef (h x Í);let(a,rfl):=lN λy b=>h y (É _ b);exact#[i::a,rfl]
theorem C0:∀ {ns:Zi},(∀ x∈ns,0<=x)->∃ l:Zh,ns.map D.int=l.map ah
 |[],_=>#[[],rfl]
 |x::r,h=>by
  let(i,rfl):=VB (h x Í);let(l,e):=C0 λy a=>h y (É _ a);exact#[_,by rw[Ux,Ux,e];rfl]
theorem ue:∀ {l:Zh},(∀ x∈l,x < 8)->mQ (l.map ah)=↑l
 |[],_=>rfl
 |x::r,h=>by
  show(if 0<=(x:Int)/\(x:Int) < 8 then(mQ _).map _ else none)=_;rw[Zv (⟨_c _,_s (_k (h x Í)) (_x _)⟩),ue λy b=>h y (É _ b)];rfl
def dedup(l:Zh):Zh:=(ë 8).filter λi=>l.contains i
theorem HV(h:∀ x∈l,x < 8)(c:l.Pairwise (· < ·)):dedup l=l:=by
 have d:(dedup l).Pairwise _:=UR _ Vc;apply UB  (λa b _ _ e d=>_i (Vb e) (Vb d)) d c
 refine(Vm (d.imp λh=>Ù h) (c.imp λh=>Ù h)).mpr λx=>?_
 delta dedup
 simp_all
theorem vR:∀ {l:Zh},wJ (l.map ah) (l.map ah)
 |[]=>rfl
 |x::r=>by
  show((x:Int) == (x:Int)&&wJ _ _)=true;rw[beq_self_eq_true,vR];rfl
theorem HW:∀ {l:Zh},gM (l.map ah)->l.Pairwise (· < ·)
 |[],_=>.nil|[_],_=>.cons (λ_ h=>nomatch h) .nil
 |x::y::r,h=>by
  have h:(decide _&&gM _)=true:=h;rw[Á,Zx] at h;have a:=HW  h.2;refine .cons (λz hz=>?_) a;rcases ã.mp hz with rfl | hz
  .exact _f h.1
  .exact Ò (_f h.1) (Vb ((Vn.mp a).1 z hz))
theorem vS{ps:Zh}(a:∀ p∈ps,p < 8):n9 .sset [.tup (ps.map ah)]=↑(.fr ((dedup ps).map ah)):=by
 show(BV _ _).map S.fr=_;unfold BV;rw[ue a];rfl
theorem vT(k:Nat){m:Int}(c:m<=8)(h:pU x)(z:Z):∃ b,au T (k + 4) cC [.d (.int m),.d x] z=some (.ok (.d (.bl b)) z)/\(b=false->xT m x=false)/\(b->∃ l,x=.tup l):=by
 have f:∀ {x:D},(∀ l,x≠.tup l)->AL _ x=false->∃ b,au T (k + 4) cC [.d (.int m),.d x] z=some (.ok (.d _) z)/\(b=false->xT m x=false)/\(b=true->∃ l,x=.tup l):=λ{x} g j=>by
  refine#[false,W.ok (bg    rfl rfl (-0) ?_),λ_=>?_,λh=>nomatch h]
  .refine it  (by rw[j];rfl) ?_
   exact sd rfl
  .cases x with
   |tup l=>exact absurd rfl (g l)|_=>rfl
 cases x with
 |tup l =>
  delta pU at h
  rw[Á,Zx] at h;by_cases hw:(l.filter λx=>!gk x)=[]
  .have n :=λx q=>by
    have:=VC.mp hw x q;simpa using this
   let(r,rfl):=lN n;by_cases s:((r.map D.int).filter λx=>!aS x m)=[]
   .have u :=λx q=>by
     have:=VC.mp s _ (Ð.mpr #[x,q,rfl]);unfold aS at this;simpa using this
    let(v,e):=C0 λx q=>(u x q).1;have y:∀ p∈v,p < 8:=λp A=>by
     have:ah p∈r.map D.int:=by rw[e];exact Ð.mpr #[p,A,rfl]
     let(i,B,C):=Ð.mp this;have g:=u i B;have E :=by injection C
     omega
    refine#[wJ (v.map ah) ((dedup v).map ah),W.ok (bg (ps:=2) (ns:=2) (b:=cY) rfl rfl (-0) ?_),λF=>?_,λ_=>#[_,rfl]]
    .refine ip (cV h.2) (qy (λx=>!gk x) (λx=>x) (λx q=>?_) ?_)
     .exact Wo (uc k x z) #[rfl,rfl,λ_=>#[rfl,rfl]]
     .rw[hw];refine ip (cV h.2) (qy (λx=>!aS x m) (λx=>x) (λx q=>?_) ?_)
      .let(i,B,rfl):=Ð.mp q;have g:=u i B;refine it (b:=decide ((0:Int)<=i)) (Zz g.1) ?_;refine#[?_,rfl,λ_=>#[rfl,rfl]];show S.d (.bl (!decide (i < m)))=S.d (.bl (!(decide (0<=i)&&decide (i < m))));rw[Zz g.1];rfl
      .rw[s,e];refine(af (o:=n9 .sset [.tup (v.map ah)]) (vS y) ?_ :);refine(af (o:=eqQ (.lst (v.map ah)) (.lst ((dedup v).map ah))) (a:=wJ (v.map ah) ((dedup v).map ah)) (by delta eqQ;rw[oJ,oJ];rfl) ?_ :)
       exact sd rfl
    .cases A:xT m (.tup (r.map D.int)) with
     |false=>rfl
     |true =>
      exfalso;rw[e] at A
      delta xT at A
      rw[Á,Á] at A;have G:=HW A.1.2;rw[HV y G,vR] at F;cases F
   .refine#[false,W.ok (bg (ps:=2) (ns:=2) (b:=cY) rfl rfl (-0) ?_),λ_=>?_,λh=>nomatch h]
    .refine ip (cV h.2) (qy (λx=>!gk x) (λx=>x) (λx q=>?_) ?_)
     .exact Wo (uc k x z) #[rfl,rfl,λ_=>#[rfl,rfl]]
     .rw[hw];refine ip (cV h.2) (qy (λx=>!aS x m) (λx=>x) (λx q=>?_) ?_)
      .let(i,B,rfl):=Ð.mp q;refine ib (b:=decide ((0:Int)<=i)) (λg=>?_) λg=>?_
       .refine#[?_,rfl,λ_=>#[rfl,rfl]];show S.d (.bl (!decide (i < m)))=S.d (.bl (!(decide (0<=i)&&decide (i < m))));rw[g];rfl
       .refine#[?_,rfl,λ_=>#[rfl,rfl]];show S.d (.bl (!false))=S.d (.bl (!(decide (0<=i)&&decide (i < m))));rw[g];rfl
      .rw[map_id'];refine(af (ne_nil (K9 (qo _ h.1))) ?_ :);refine it (b:=!((r.map D.int).filter λx=>!aS x m).isEmpty) ?_ ?_
       .cases H:(r.map D.int).filter λx=>!aS x m with
        |nil=>exact absurd H s|cons _ _=>rfl
       .exact sd rfl
    .show((r.map D.int).all (λx=>aS x m)&&gM (r.map D.int)&&!(r.map D.int).isEmpty)=false;have:(r.map D.int).all (λx=>aS x m)=false:=by
      cases I:(r.map D.int).all (λx=>aS x m) with
      |false=>rfl|true=>exact absurd (VC.mpr λx q=>by rw[Ó.mp I x q];decide) s
     rw[this];rfl
  .refine#[false,W.ok (bg (ps:=2) (ns:=2) (b:=cY) rfl rfl (-0) ?_),λ_=>?_,λh=>nomatch h]
   .refine ip (cV h.2) (qy (λx=>!gk x) (λx=>x) (λx q=>?_) ?_)
    .exact Wo (uc k x z) #[rfl,rfl,λ_=>#[rfl,rfl]]
    .rw[map_id'];refine(af (ne_nil (K9 (qo _ h.1))) ?_ :);refine it (b:=!(l.filter λx=>!gk x).isEmpty) ?_ ?_
     .cases H:l.filter λx=>!gk x with
      |nil=>exact absurd H hw|cons _ _=>rfl
     .exact sd rfl
   .show(l.all (λx=>aS x m)&&gM l&&!l.isEmpty)=false;have:l.all (λx=>aS x m)=false:=by
     cases I:l.all (λx=>aS x m) with
     |false=>rfl
     |true=>exact absurd (VC.mpr λx q=>by
       let(i,rfl,_):=fH (Ó.mp I x q);exact λh=>nomatch h) hw
    rw[this];rfl
 |_=>exact f (λl h=>nomatch h) rfl
theorem oR(l:Zh)(a b:Zq):∃ c:Zh,cutD (l.map ah) a b=c.map ah/\c.length<=l.length:=by
 delta cutD
 refine#[_,by rw[<-List.map_drop,<-map_take],?_]
 rw[US,VE];exact â (_y _ _) (_n _ _)
theorem yb{a b:Zh}(c:a.length<=10)(d:b.length<=10)(e:(eZ x&&decide (deep x<=39))):pU (.tup (a.map ah++[x]++b.map ah)):=by
 rw[Á,Zx] at e;show(fz _&&decide _)=true;rw[z9 (z9 (jh a) (HS e.1 e.2)) (jh b)];apply Zz;rw[õ,tL,Æ,Æ];omega
theorem uf{a:Zh}(b:a.length<=100):pU (.tup (a.map ah)):=by
 show(fz _&&decide _)=true;rw[jh a]
 grind
theorem Eg(l:Zh):(eZ (.tup (l.map ah))&&decide (deep (.tup (l.map ah))<=39)):=by
 have e:l.map ah=(l.map λ(n:Nat)=>(n:Int)).map D.int:=by rw[æ];rfl
 let(a,b):=qU _;show(bt _&&decide (cL _ + 1<=39))=true;rw[e,a,b];rfl
theorem lE(k:Nat){m:Int}(c:0<=m)(f:m<=8){pl:Zh}(g:pl.length<=8)(hz:ZI z):W (au T (k + 4) eC [.z,.d (~~~m),.d (.tup (pl.map ah))]) z (λs h=>ZI h/\∃ x,s=.d x/\pU x) NE:=by
 have i:(pl.map ah).length=pl.length:=Æ _;refine uz hz (ps:=3) (ns:=6) (b:=eD) rfl rfl (-0) ?_
 refine(bE k (((pl.map ah).length:Int) + 1) hz ∅ ∅).imp λs h #[j,a,e,a1]=>?_
 subst e;refine(bE k (m + 1) j ∅ ∅).imp λs l #[o,w,e,w1]=>?_
 subst e;refine(bE k 10 o (-0) (-0)).imp λs p #[q,v,e,v1]=>?_
 subst e;refine(CM (n:=v) (λx=>eZ x&&decide (deep x<=39)) ?_ ?_ ?_ :)
 .show v < 10;exact _f v1
 .have hs:(eZ (.str "0")&&decide (deep (.str "0")<=39))=true:=by decide +kernel
  show List.all [D.int w,~~~m,~~~(-1),.bl true,.cD,.str "0",.tup [~~~0],.bl false,~~~((10:Int) ^ (29:Int).toNat),~~~0] (λx=>eZ x&&decide (deep x<=39))=true;refine Ó.mpr λy r=>?_;simp only[Ur,Ub,ZF] at r;rcases r with rfl | rfl | rfl | rfl | rfl | rfl | rfl | rfl | rfl | rfl
  .rfl
  .rfl
  .rfl
  .rfl
  .rfl
  .exact hs
  .rfl
  .rfl
  .rfl
  .rfl
 .intro x A;let(B,C,c1):=oR pl none ↑(a:Int);let(E,F,c2):=oR pl ↑(a:Int) none;let(G,H,c3):=oR pl ↑((a:Int) + 1) none;let(I,J,c4):=oR pl ↑(-1) none;have K:eR .add (.tup (cutD (pl.map ah) none ↑(a:Int))) (.tup [x])=↑(.d (.tup (B.map ah++[x]))):=by rw[C];exact jW (by rw[Æ];show _ + 1<=_;omega)
  refine(af K ?_ :);refine(af (show eR .add (.tup (B.map ah++[x])) (.tup (cutD (pl.map ah) ↑(a:Int) none))=↑(.d (.tup (B.map ah++[x]++E.map ah))) from by rw[F];exact jW (by rw[tL,Æ,Æ];omega)) ?_ :)
  refine(af K ?_ :);refine(af (show eR .add (.tup (B.map ah++[x])) (.tup (cutD (pl.map ah) ↑((a:Int) + 1) none))=↑(.d (.tup (B.map ah++[x]++G.map ah))) from by rw[H];exact jW (by rw[tL,Æ,Æ];omega)) ?_ :)
  refine(af (show eR .add (.tup (cutD (pl.map ah) none ↑(a:Int))) (.tup (cutD (pl.map ah) ↑((a:Int) + 1) none))=↑(.d (.tup (B.map ah++G.map ah))) from by rw[C,H];exact jW (by rw[Æ,Æ];omega)) ?_ :)
  refine(af (show eR .add (.tup (pl.map ah)) (.tup (cutD (pl.map ah) ↑(-1) none))=↑(.d (.tup (pl.map ah++I.map ah))) from by rw[J];exact jW (by rw[Æ,Æ];omega)) ?_ :)
  refine(bE k 11 q (-0) (-0)).imp λs N #[P,u,e,U]=>?_
  subst e;refine(CM (L:=[.tup (B.map ah++[x]++E.map ah),.tup (B.map ah++[x]++G.map ah),.tup (B.map ah++G.map ah),.lst (pl.map ah),.tup (pl.map ah).reverse,.tup (pl.map ah++I.map ah),.cD,.dct,~~~0,.tup [.tup (pl.map ah)],.tup []]) (n:=u) pU ?_ ?_ ?_ :)
  .show u < 11;exact _f U
  .rw[<-Um,<-Um,<-List.map_reverse];simp only[U7,all_nil,Xy,Á];refine#[yb ∅ ∅ A,yb ∅ ∅ A,uf (by rw[õ];omega),rfl,uf (by rw[Xg];exact â g (_e (Ui _))),uf (by rw[õ];omega),rfl,rfl,rfl,yb (a:=[]) (b:=[]) (-0) (-0) (Eg pl),rfl]
  .exact λy r=>#[P,y,rfl,r]
theorem NO(h:cs≠[]):CG (.tup (cs.map pr))=false:=by
 match cs,h with
 |[_],_=>rfl|[_,_],_=>rfl|_::_::_::_,_=>rfl
theorem NP{u:Nat}(a:(u:Int) < (L.length:Nat))(h:∀ q∈L,K q):bO (mh (.lst L) (.int u)) K:=by
 have a:u < L.length:=_f a
 exact af (tG (Õ a)) (h _ (UN a))
abbrev Tq(n:Nat):Sm:=rec eE (λ_ r=>tl r) n
theorem HX{a b:⇑D}(h:a.length + b.length<=most):eR .add (.lst a) (.lst b)=↑(.fr (a++b)):=Zv h
theorem C1(k:Nat)(a:1<=L.length)(b:L.length<=100)(h:∀ q∈L,fI n q=false)(hz:ZI z):WS (jY T (k + 1 + 2)) false (Tq 5) [↑.z,c,f,g,↑(.fr L)] z (λo i=>ZI i/\∃ y,o=.rt (.d y)/\fI n y=false) NE:=by
 refine(bE k _ hz (Yd (_c _) (_k (_E a))) ∅).imp λs j #[l,u,e,m]=>?_
 subst e;exact NP m λq p=>#[l,q,rfl,h q p]
theorem HY(k:Nat){cs:Za}(hl:cs.length<=8){x:D}(x1:CG x=false){a:Nat}{L0:List D}(h5:L0.length=5)(h0:∀ q∈L0,fI cs.length q=false){z:Z}(hz:ZI z):WS (jY T (k + 1 + 2)) false (Tq 4) [some .z,some (.d (.tup (cs.map pr))),some (.d (.int a)),some (.d x),some (.fr L0)] z (λo z1=>ZI z1/\∃ y,o=.rt (.d y)/\fI cs.length y=false) NE:=by
 have hll:(cs.map pr).length=cs.length:=Æ _;refine(af (Kj ) ?_ :);by_cases hc:cs=[]
 ·refine ie  (by rw[hc];rfl) ?_
  exact C1 k ∅ ∅ h0 hz
 ·have l0:0 < cs.length:=List.length_pos_iff.mpr hc;refine it (b:=!(cs.map pr).isEmpty) (by rw[ç,Bool.eq_false_iff,ne_eq,isEmpty_map,isEmpty_iff];exact hc) ?_
  refine(bE k ((cs.map pr).length:Nat) hz ∅ ∅).imp λs z3 ⟨hz3,b,e,b1⟩=>?_
  subst e;have eb:cutD (cs.map pr) none (some (b:Int))=(cs.map pr).take b:=by rw[xR _ ∅,UX]
  have lb:(cutD (cs.map pr) none (some (b:Int))).length<=8:=by rw[eb,US];omega
  have ld:(cutD (cs.map pr) (some ((b:Int) + 1)) none).length<=8:=by
   rw[show cutD (cs.map pr) (some ((b:Int) + 1)) none=(cs.map pr).drop (b + 1) from lj _ (b + 1),VE];omega
  have e1:cutD (cs.map pr) (some 1) none=(cs.map pr).drop 1:=lj _ 1;have l1:(cutD (cs.map pr) (some 1) none).length<=8:=by rw[e1,VE];omega
  have b1':fI cs.length (.tup (cutD (cs.map pr) (some 1) none))=false:=by rw[e1];exact CV (by rw[VE,hll];omega)
  have b2:fI cs.length (.tup (cutD (cs.map pr) none (some (b:Int))++[x]++cutD (cs.map pr) (some ((b:Int) + 1)) none))=false:=x6 x1;have b3:fI cs.length (.tup ([D.tup (cs.map pr)]++cutD (cs.map pr) (some 1) none))=false:=x6 (a:=[]) (NO hc);have t1:=jW (a:=cutD (cs.map pr) none (some (b:Int))) (b:=[x]) (by show _ + 1<=_;omega)
  have t2:=jW (a:=cutD (cs.map pr) none (some (b:Int))++[x]) (b:=cutD (cs.map pr) (some ((b:Int) + 1)) none) (by rw[tL];omega)
  have t3:=jW (a:=[D.tup (cs.map pr)]) (b:=cutD (cs.map pr) (some 1) none) (by show 1 + _<=_;omega)
  generalize cutD (cs.map pr) none (some (b:Int))++[x]++cutD (cs.map pr) (some ((b:Int) + 1)) none=y2 at b2 t2;generalize [D.tup (cs.map pr)]++cutD (cs.map pr) (some 1) none=y3 at b3 t3;refine(vC (.fr (L0++ì 5 (.tup y2)++[D.tup (cutD (cs.map pr) (some 1) none),D.tup y3])) [some .z,some (.d (.tup (cs.map pr))),some (.d (.int b)),some (.d x),some (.fr (L0++ì 5 (.tup y2)++[D.tup (cutD (cs.map pr) (some 1) none),D.tup y3]))] ?_ ?_ ?_ :)
  ·refine(af t1 ?_ :);refine(af t2 ?_ :);refine(af (HX (a:=L0) (b:=ì 5 (.tup y2)) (by rw[h5,Vp];decide)) ?_ :)
   refine(af t3 ?_ :);refine(af (HX (a:=L0++ì 5 (.tup y2)) (b:=[D.tup (cutD (cs.map pr) (some 1) none),D.tup y3]) (by rw[õ,h5,Vp];show 12<=most;decide)) ?_ :)
   exact⟨rfl,rfl⟩
  ·rfl
  ·have hn:(L0++ì 5 (D.tup y2)++[D.tup (cutD (cs.map pr) (some 1) none),D.tup y3]).length=12:=by rw[õ,õ,h5,Vp];rfl
   refine C1 k ∅ ∅ (λq hq=>?_) hz3
   rcases ù.mp hq with hq | hq
   ·rcases ù.mp hq with hq | hq
    ·exact h0 q hq
    ·rw[(List.mem_replicate.mp hq).2];exact b2
   ·simp only[Ur,Ub,ZF] at hq;rcases hq with rfl | rfl
    ·exact b1'
    ·exact b3
theorem ug(k:Nat){cs:Za}(c:cs.length<=8)(hz:ZI z):W (au T (k + 4) gK [.z,.d (.tup (cs.map pr))]) z (λs f=>ZI f/\∃ x,s=.d x/\fI cs.length x=false) NE:=by
 have g:(cs.map pr).length=cs.length:=Æ _;refine uz hz     rfl rfl (-0) ?_
 refine WS.mono (Q:=λo f=>ZI f/\∃ y,o=.rt (.d y)/\fI cs.length y=false) ?_ (λo f h=>by let(i,y,rfl,j):=h;exact#[i,y,rfl,j]) λ_ _ h=>h
 refine(bE k (((cs.map pr).length:Int) + 1) hz ∅ ∅).imp λs f #[l,a,e,a1]=>?_
 subst e;refine(bE k 13 l (-0) (-0)).imp λs m #[p,v,e,v1]=>?_
 subst e;refine(CM (n:=v) (λx=>!CG x) ?_ ?_ ?_ :)
 .show v < 13;exact _f v1
 .decide +kernel
 .intro x r;rw[ç] at r;have u:cutD (cs.map pr) none ↑(a:Int)=(cs.map pr).take a:=by rw[xR _ (_c _),UX]
  have A:(cutD (cs.map pr) none ↑(a:Int)).length<=8:=by rw[u,US];omega
  have lc:(cutD (cs.map pr) ↑(a:Int) none).length<=8:=by rw[lj _ a,VE];omega
  refine(af (jW (a:=cutD (cs.map pr) none ↑(a:Int)) (b:=[x]) (by show _ + 1<=_;omega)) ?_ :)
  refine(af (jW (a:=cutD (cs.map pr) none ↑(a:Int)++[x]) (b:=cutD (cs.map pr) ↑(a:Int) none) (by rw[tL];omega)) ?_ :)
  refine(af (jW (a:=cs.map pr) (b:=[.tup [~~~1,~~~2]]) (by show _ + 1<=_;omega)) ?_ :)
  refine(HY k c r (a:=a) (L0:=[D.tup (cutD (cs.map pr) none ↑(a:Int)++[x]++cutD (cs.map pr) ↑(a:Int) none),.tup (cs.map pr++[.tup [~~~1,~~~2]]),.lst (cs.map pr),.cD,.dct]) rfl (λq B=>?_) p :);simp only[Ur,Ub,ZF] at B;rcases B with rfl | rfl | rfl | rfl | rfl
  .exact x6 r
  .exact CV (by rw[tL,g];exact Vx (Vs _))
  .rfl
  .rfl
  .rfl
theorem eq_self(h:g9 x)(hs:AL .seq x=false):f9 .eq x x=↑true:=by
 show(if g9 x&&g9 x then ↑_ else Mf x x)=↑true;rw[h];cases x with
 |cD=>rfl|bl b=>show ↑(b == b)=_;rw[beq_self_eq_true]|int i=>show ↑(i == i)=_;rw[beq_self_eq_true]|str s=>show ↑(s == s)=_;rw[beq_self_eq_true]|tup l=>cases hs
 |lst l=>cases hs
 |dct=>rfl
theorem uh:∀ {l:List D}{d:D},d∈fV l l->∃ x∈l,d=.tup [x,x]
 |x::r,d,h=>by
  rcases ã.mp h with h | h
  .exact#[x,Í,h]
  .let(u,a,e):=uh h;exact#[u,É _ a,e]
mutual
noncomputable def flat:Nat->D->Bool
 |_,.cD=>true|_,.bl _=>true|_,~~~_=>true|_,.str _=>false|0,.tup _=>false|d + 1,.tup l=>decide (l.length<=1000)&&vU d l|_,.lst _=>false|_,.dct=>false
noncomputable def vU:Nat->⇑D->Bool
 |_,[]=>true|d,x::r=>flat d x&&vU d r
end
theorem vV:∀ {d:Nat}{l:⇑D}{x:D},vU d l->x∈l->flat d x
 |d,y::r,x,h,a=>by
  unfold vU at h;rw[Á] at h;rcases ã.mp a with rfl | a
  .exact h.1
  .exact vV h.2 a
theorem yc:∀ (d k:Nat) (x:D) (z:Z),flat d x=true->au T (k + d + 3) dA [.d x,.d x] z=↑(.ok (.d (.bl true)) z):=by
 have one:∀ (k) (x) (z),g9 x=true->AL _ x=false->au T (k + 3) dA [.d x,.d x] z=↑(.ok _ z):=λk x z h hs=>by
  refine W.ok (bg    rfl rfl (-0) (ie hs ?_))
  refine(af (eq_self h hs) ?_);cases x with
  |tup l=>cases hs
  |lst l=>cases hs
  |_=>exact sb rfl
 intro d
 induction d with
 |zero =>
  intro k x z h;cases x with
  |cD=>exact one k _ z rfl rfl|bl b=>exact one k _ z rfl rfl|int i=>exact one k _ z rfl rfl|_=>cases h
 |succ d ih =>
  intro k x z h;cases x with
  |cD=>exact one _ _ z rfl rfl|bl b=>exact one _ _ z rfl rfl|int i=>exact one _ _ z rfl rfl
  |tup l =>
   unfold flat at h;rw[Á,Zx] at h;refine W.ok (bg    rfl rfl (-0) ?_)
   refine ie (b:=!((l.length:Int) == (l.length))) (by rw[beq_self_eq_true];rfl) ?_
   refine ip  (â (ll _ _) (cV h.1)) (j5 (λ_=>.bl true) (λq hq=>?_) (af (iO _ _) ?_ :))
   .let(x,hx,rfl):=uh hq;exact Wo (ih k x z (vV h.2 hx)) #[rfl,rfl]
   .exact sb  (Ó.mpr λ_ _=>rfl)
  |_=>cases h
theorem Ad:∀ {l:List D},(∀ x∈l,flat d x)->vU d l
 |[],_=>rfl
 |x::r,h=>by
  unfold vU;rw[h x Í,Ad λy a=>h y (É _ a)];rfl
theorem HZ{d:Nat}{l:⇑D}(h:l.length<=1000)(ha:∀ x∈l,flat d x=true):flat (d + 1) (.tup l)=true:=by
 unfold flat;rw[Zz h,Ad ha];rfl
theorem H9:flat d (~~~i):=rfl
theorem ye:flat (d + 1) (pr p):=HZ (by decide:2<=1000) λx a=>by
 simp only[Ur,Ub,ZF] at a;rcases a with rfl | rfl <;> exact H9
open L2 (D gW)
section
variable {ps:Za}{m:Int}{aq:Zh}
theorem Ae(g:aW m ps)(a:∀ n∈aq,n < ps.length)(b:p < m.toNat)(c:q < m.toNat):q∈bW ps aq m.toNat [p]↔(aI ps m.toNat aq).getD q 0=(aI ps m.toNat aq).getD p 0:=by
 have d:∀ n∈aq,tA ps n < m.toNat/\tB ps n < m.toNat:=λn i=>g.D9 n (a n i);have k:∀ x∈[p,q],x < m.toNat:=λx h=>by
  rcases ã.mp h with rfl | h
  .exact b
  .rw[Ô.mp h];exact c
 have e:dU ps m.toNat [p,q] aq=true↔(aI ps m.toNat aq).getD q 0=(aI ps m.toNat aq).getD p 0:=by
  unfold dU HH;simp
 rw[<-e,tR g.D9 k a];constructor
 .intro h f l x o;show f x=f p;rcases ã.mp o with rfl | o
  .rfl
  .rw[Ô.mp o];exact x9 l (λx o=>by rw[Ô.mp o]) q h
 .intro h;have r:∀ n∈aq,(tA ps n∈bW ps aq m.toNat [p]↔tB ps n∈bW ps aq m.toNat [p]):=by
   rcases qW (ps:=ps) (aq:=aq) m.toNat [p] with s | s
   .exact s
   .have:=eJ (lC d (j:=m.toNat) (F:=[p]) #[by simp,λx o=>by rw[Ô.mp o];exact b])
    simp only[Þ,UG] at s;omega
  have u:=h (λx=>if x∈bW ps aq m.toNat [p] then 1 else 0) (λn i=>by
   by_cases o:tA ps n∈bW ps aq m.toNat [p]
   .rw[Zv o,Zv ((r n i).mp o)]
   .rw[Zw o,Zw λv=>o ((r n i).mpr v)]) q (by simp)
  have u:(if q∈bW ps aq m.toNat [p] then(1:Int) else 0)=if p∈bW ps aq m.toNat [p] then 1 else 0:=u;rw[Zv (oP (Ô.mpr rfl))] at u;exact XT λo=>by rw[Zw o] at u;cases u
theorem C2(k:Nat):∀ l:Zh,l.Pairwise (·<=·)->(ua k l).Pairwise (·<=·)
 |[],_=>by unfold ua;exact YL _ _
 |y::r,h=>by
  let(a,b):=Vn.mp h;unfold ua;split
  .refine Vn.mpr #[λx c=>?_,C2 k r b];rcases ã.mp ((pS k r).mem_iff.mp c) with rfl | c
   .omega
   .exact a x c
  .refine Vn.mpr #[λx c=>?_,h];rcases ã.mp c with rfl | c
   .omega
   .have:=a x c;omega
theorem Af:∀ l:Zh,(iy l).Pairwise (·<=·)
 |[]=>.nil|k::r=>C2 k _ (Af r)
theorem Kl(g:aW m ps)(c:∀ n∈aq,n < ps.length)(d:p < m.toNat):iy (bW ps aq m.toNat [p])=(ë m.toNat).filter λq=>(aI ps m.toNat aq).getD q 0 == (aI ps m.toNat aq).getD p 0:=by
 have e:∀ n∈aq,tA ps n < m.toNat/\tB ps n < m.toNat:=λn f=>g.D9 n (c n f);have pl:=lC (ps:=ps) e (j:=m.toNat) (F:=[p]) #[by simp,λx i=>by rw[Ô.mp i];exact d]
 have k:((ë m.toNat).filter λq=>(aI ps m.toNat aq).getD q 0 == (aI ps m.toNat aq).getD p 0).Nodup:=UR _ nodup_range;refine UB (le:=(·<=·)) (λa b _ _ l o=>Nat.le_antisymm l o) (Af _) (UR _ List.pairwise_le_range) ((jJ _).trans ((Vm pl.1 k).mpr λx=>?_));rw[mem_filter,XA,Zy];constructor
 .exact λh=>#[pl.2 x h,(Ae g c d (pl.2 x h)).mp h]
 .exact λ#[l,o]=>(Ae g c d l).mpr o
end
def Ts(g:Zh):Bool:=decide (ST.blocks (ST.fy (ST.blocks g))=ST.blocks g)&&bI ((yQ (ST.blocks g)).map ST.tD)&&jx (dh ((yQ (ST.blocks g)).map ST.tD)) (iE (g.map λ(n:Nat)=>(n:Int)))&&(iE (g.map λ(n:Nat)=>(n:Int))).all (flat 1)&&decide ((iE (g.map λ(n:Nat)=>(n:Int))).length<=6)
theorem Km:((ë 7).all λn=>(ST.lQ n).all Ts):=by decide +kernel
theorem C3{f:Int->Int}:∀ (a:List (Int × Zi)) (m p:Int),(∀ g∈a,f g.1=f m->g.1=m)->gW (a.map λg=>(f g.1,g.2)) (f m) p=(gW a m p).map λg=>(f g.1,g.2)
 |[],_,_,_=>rfl
 |g::r,m,p,h=>by
  show(if f g.1=f m then(f g.1,g.2++[p])::r.map (λg=>(f g.1,g.2)) else(f g.1,g.2)::gW (r.map λg=>(f g.1,g.2)) (f m) p)=(if g.1=m then(g.1,g.2++[p])::r else g::gW r m p).map λg=>(f g.1,g.2);by_cases e:g.1=m
  .rw[Zv e,Zv (by rw[e]),Ux]
  .rw[Zw e,Zw λq=>e (h g Í q),Ux,C3 r m p λx b=>h x (É _ b)]
theorem Kn:∀ {x},x∈gW a m p->x.1=m∨∃ g∈a,g.1=x.1:=by
 induction a with
 |nil=>intro x h;rw[Ô.mp h];exact .inl rfl
 |cons g r b =>
  intro x h;unfold gW at h;split at h
  .rcases ã.mp h with rfl | h
   .exact .inr #[g,Í,rfl]
   .exact .inr #[x,É _ h,rfl]
  .rcases ã.mp h with rfl | h
   .exact .inr #[x,Í,rfl]
   .rcases b h with h | ⟨c,d,e⟩
    .exact .inl h
    .exact .inr #[c,É _ d,e]
theorem C4{f:Int->Int}{A:Int->Prop}(inj:∀ a b,A a->A b->f a=f b->a=b):∀ (c:Zi) (d:⇑(Int × Zi)) (p:Nat),(∀ x∈c,A x)->(∀ g∈d,A g.1)->kA (d.map λg=>(f g.1,g.2)) p (c.map f)=(kA d p c).map λg=>(f g.1,g.2)
 |[],_,_,_,_=>rfl
 |n::r,d,p,h,i=>by
  show kA _ _ (r.map f)=(kA _ _ r).map _;rw[C3 d n p λg j e=>inj _ _ (i g j) (h n Í) e];refine C4 inj r _ _ (λx k=>h x (É _ k)) λg j=>?_;rcases Kn j with e | ⟨l,m,e⟩
  .rw[e];exact h n Í
  .rw[<-e];exact i l m
theorem Ia(mk:Zi):iE mk=iE ((ST.fy mk).map λ(n:Nat)=>(n:Int)):=by
 have e:((ST.fy mk).map λ(n:Nat)=>(n:Int))=mk.map λx=>((mk.idxOf x:Nat):Int):=by
  unfold ST.fy;rw[æ];rfl
 have h:=C4 (f:=λx=>((mk.idxOf x:Nat):Int)) (A:=λx=>x∈mk) (λa b ha hb q=>by
  have q:mk.idxOf a=mk.idxOf b:=by have:((mk.idxOf a:Nat):Int)=(mk.idxOf b:Nat):=q;omega
  have h1:=YJ (Ve ha);have h2:=YJ (Ve hb);rw[← h1,← h2]
  congr 1) mk [] 0 (λx hx=>hx) (λg hg=>nomatch hg)
 unfold iE;rw[e];have h:kA [] 0 (mk.map λx=>((mk.idxOf x:Nat):Int))=(kA [] 0 mk).map λg=>(((mk.idxOf g.1:Nat):Int),g.2):=h;rw[h,æ];rfl
theorem Bl(mk:Zi):ST.blocks (ST.fy mk)=(ë mk.length).map λp=>((ë mk.length).filter λq=>mk.getD q 0 == mk.getD p 0).map λ(n:Nat)=>(n:Int):=by
 have a:(ST.fy mk).length=mk.length:=by unfold ST.fy;rw[Æ]
 have b:∀ q,q < mk.length->(ST.fy mk).getD q 0=mk.idxOf (mk.getD q 0):=λq c=>by
  unfold ST.fy;simp[Ñ,c]
 have d:∀ q,q < mk.length->mk.getD q 0∈mk:=λq c=>by simp_all
 unfold ST.blocks;rw[(λF=>by
  have:=congrArg (List.map F) (by
  rw[<-a];exact MySort.range_getD _ _:(ë mk.length).map (λp=>(ST.fy mk).getD p 0)=ST.fy mk);rw[æ] at this;exact this.symm:∀ F,(ST.fy mk).map F=(ë mk.length).map λp=>F _),a];refine Uo λp g=>?_;have g:=Uc.mp g
 congr 1
 refine Xh λq c=>?_;have c:=Uc.mp c;rw[b q c,b p g,UY,Zy,Zy];refine#[λh=>?_,λh=>by rw[h]]
 rw[<-(YJ (Ve (d q c))),<-(YJ (Ve (d p g)))]
 congr 1
theorem Ko{mk:Zi}(a:mk.length<=6):wO (((ë mk.length).map λp=>((ë mk.length).filter λq=>mk.getD q 0 == mk.getD p 0).map λ(n:Nat)=>(n:Int)).map ST.tD)=↑(iE mk):=by
 have d:=Ó.mp (Ó.mp Km mk.length (Uc.mpr (_a a))) _ (ST.qc mk)
 unfold Ts at d;simp only[Á,Zx] at d;obtain⟨⟨⟨⟨e,f⟩,g⟩,_⟩,_⟩:=d;rw[<-Bl];unfold wO;rw[(λi=>by
  induction i with
  |nil=>rfl
  |cons k r j =>
   show(gq _).bind _=_;rw[tY k,j];rfl:∀ i,FQ _=↑i)];show(if _ then _ else _)=_;rw[Zv #[by rw[(by unfold ST.blocks;rw[Æ,(by unfold ST.fy;rw[Æ]:(ST.fy mk).length=mk.length)]:(ST.blocks _).length=mk.length)];exact a,e,f],qL _ _ g,<-Ia]
section
variable {m:Int}{ps:Za}{pl:Zh}
def Q6(n:Int):D->Bool
 |.tup l=>l.all (λx=>aS x n)&&gM l|_=>false
theorem yf(k:Nat)(a:Q6 (ps.length:Nat) x=false)(hs:short x)(z:Z):au T (k + 7) hW [.d (de m ps),.d x] z=↑(.er 1 z):=by
 exact W.er (bg    rfl rfl (-0) (Wo (by
  refine W.ok (bg    rfl rfl (-0) (Wo (gx k _ hs z) (sb ?_)))
  rw[Æ,<-a];cases x <;> rfl:au T _ sY _ z=↑(.ok (.d (.bl false)) z)) #[rfl,bx z]))
theorem Ag(k:Nat)(m:Int)(c:l=[])(z:Z):au T (k + 4) cC [.d (.int m),.d (.tup l)] z=some (.ok (.d (.bl true)) z):=by
 have hw:(l.filter λx=>!gk x)=[]:=by rw[c];rfl
 have e:(l.filter λx=>!aS x m)=[]:=by rw[c];rfl
 have f:l.length<=1000:=by rw[c];decide
 refine W.ok (bg (ps:=2) (ns:=2) (b:=cY) rfl rfl (-0) ?_)
 refine ip (cV f) (qy (λx=>!gk x) (λx=>x) (λx g=>by rw[c] at g;cases g) ?_)
 rw[hw];refine ip (cV f) (qy (λx=>!aS x m) (λx=>x) (λx g=>by rw[c] at g;cases g) ?_)
 rw[e];refine(af (o:=n9 .sset [.tup l]) (a:=.fr []) (by rw[c];exact vS (ps:=[]) λp h=>nomatch h) ?_ :)
 refine(af (o:=eqQ (.lst l) (.lst [])) (a:=true) (by rw[c];rfl) ?_ :)
 exact sd rfl
theorem Bm(k:Nat)(m:Int)(z:Z):au T (k + 4) cC [.d (~~~m),.d (.tup [])] z=↑(.ok (.d (.bl true)) z):=Ag k m rfl z
theorem Eh(k:Nat){n:Int}(a:n<=8)(h:pU x)(z:Z):∃ b,au T (k + 4) cC [.d (~~~n),.d x] z=↑(.ok (.d (.bl b)) z)/\(b=false->Q6 n x=false):=by
 let(b,c,f,_):=vT k a h z;refine#[b,c,λe=>?_];have f:=f e;cases x with
 |tup l =>
  cases l with
  |nil =>
   rw[Bm] at c;subst e;cases c
  |cons y r =>
   have f:(((y::r).all _&&gM _)&&!(y::r).isEmpty)=false:=f;rw[show(!(y::r).isEmpty)=true from rfl,Xy] at f;exact f
 |_=>rfl
end
theorem jk(h:qv b f=some ss)(g:WE (Q.cT F) a (ss.map some) z (λ_ _=>False) (λd i=>d=c/\i=z))(j:c < 12)(k:eF F b r z=some (cs,z)):eF F b ((f,a)::r) z=some (c::cs,z):=by
 have e:=W.er (aR.mp g);unfold eF
 simp_all
theorem Kp(h:eF F a ls z=some (cs,z))(b:WE F e a z (λl f=>bO (pl l) λd=>f=z/\f9 .ne (.lst (cs.map qw)) d=some false) NE)(g:WS F i r a z Q E):W (mx F ls e (ex F i t) (ex F i r) a) z Q E:=by
 let(l,j,k):=aR.mp b;cases l with
 |er c f=>exact k.elim
 |ok l f =>
  let(d,m,rfl,n):=cR (show bO _ _ from k);let(o,p,q):=mW.mp g;refine#[o,?_,q]
  delta mx
  rw[h];simp only[Zd,j,Zf,m,Ze,n];exact p
theorem Ib(a:i < b.length)(h:eF F (b.set i none) ls z=↑(cs,z))(c:WE F e (b.set i none) z (λl f=>bO (pl l) λd=>f=z/\f9 .ne (.lst (cs.map qw)) d=↑false) NE)(g:WS F j r (b.set i none) z Q E):WS F j (.lams i ls none e t r) b z Q E:=by
 show W (if i < b.length then mx F ls e _ _ _ else Zg) z Q E;rw[Zv a];exact Kp h c g
section
variable {m:Int}{ps cs:Za}{pl aq:Zh}{ls:⇑Zh}
theorem uF(k:Nat)(hl:cs.length<=8)(ha:∀ c∈cs,je c)(aq:Zh)(z:Z):au T (k + 3) mC [.d (.tup (cs.map pr)),.d (aQ aq)] z=↑(.ok (.d (~~~(l9 (cf cs) cs.length aq))) z):=by
 refine W.ok (bg    rfl rfl (-0) ?_)
 refine(af  (CT (n:=(cs.map pr).length) (by rw[Æ];omega)) ?_ :)
 refine jb (λxs ρ z2=>z2=z/\∃ (j q:Nat) (o3 o4 o5:Option S),j + q=cs.length/\xs=(Vw j q).map ah/\ρ=[↑(.d _),↑(.d _),↑(.d (~~~(l9 (cf cs) j aq))),o3,o4,o5]) _ ⟨rfl,0,cs.length,_,_,_,X3 _,by rw[Æ],rfl⟩ ?_ ?_
 ·rintro x r ρ z2 ⟨rfl,j,q,o3,o4,o5,hj,e,rfl⟩;cases q with
  |zero=>cases e
  |succ q =>
   cases e;obtain⟨a1,a2⟩:=Bh  ha (j:=j) ∅
   have hcf:=HL ha (n:=j) ∅
   refine(af (NI (cs:=cs) (n:=j) ∅) ?_ :)
   refine(af (oK (n:=j) (l:=aq)) ?_ :);have fin:∀ w:Int,0<=w->w<=1000->w=(if j∈aq then(cf cs j).1 else(cf cs j).2 - (cf cs j).1)->eR .mul (~~~(l9 (cf cs) j aq)) (~~~w)=↑(.d (~~~(l9 (cf cs) (j + 1) aq))):=λw w0 w1 e=>by
    rw[CJ a1 (ir (n:=10 * j) ∅ a2) w0 (gA ∅),tS,e]
   obtain⟨w1,w2⟩:=hcf.w (j∈aq);refine ib (b:=decide (j∈aq)) (λhm=>?_) λhm=>?_
   ·rw[Zx] at hm;rw[Zv hm] at w1 w2;refine(af (fin _ w1 w2 (by rw[Zv hm])) ?_ :)
    exact⟨rfl,j + 1,q,_,_,_,by omega,rfl,rfl⟩
   ·rw[ZE] at hm;rw[Zw hm] at w1 w2;refine(af (fin _ w1 w2 (by rw[Zw hm])) ?_ :)
    exact⟨rfl,j + 1,q,_,_,_,by omega,rfl,rfl⟩
 ·rintro ρ z2 ⟨rfl,j,q,o3,o4,o5,hj,e,rfl⟩;cases q with
  |succ q=>rw[Xn] at e;cases e
  |zero =>
   have hj:j=cs.length:=hj;subst hj;exact sd rfl
theorem nr(k:Nat)(f:cs.length<=8)(g:∀ c∈cs,je c)(h:ls.length<=256)(z:Z):au T (k + 5) fF [.d (.tup (cs.map pr)),.d (.lst (ls.map aQ))] z=some (.ok (.d (pr (cT (gO ls (l9 (cf cs) cs.length)) (b9 cs)))) z):=by
 let(p,q):=iw g;refine W.ok (bg (ps:=2) (ns:=4) (b:=nh) rfl rfl (-0) ?_)
 refine jb (λs u v=>v=z/\∃ (y:Za) (b:Int) (o:Option S),s=y.map pr/\(∀ c∈y,je c)/\0 < b/\b * b9 y=b9 cs/\u=[some (.d (.tup (cs.map pr))),some (.d (.lst (ls.map aQ))),some (.d (.int b)),o]) _ #[rfl,cs,1,none,rfl,g,by decide,Int.one_mul _,(K7 (by show(dQ _&&true)=true;rw[oI];rfl)).trans rfl] ?_ ?_
 .rintro x r u v ⟨rfl,y,b,o,e,A,B,C,rfl⟩;cases y with
  |nil=>cases e
  |cons c y =>
   cases e;have E:=A c Í;have F:∀ c∈y,je c:=λd hd=>A d (É _ hd);have G:b * (c.2 * b9 y)=b9 cs:=C;have p0:=(iw F).1;have H:b<=b9 cs:=by
    rw[<-G];have I:0 < c.2 * b9 y:=mul_pos (by have:=E.1;exact this) p0
    have:b * 1<=b * (c.2 * b9 y):=V5 I (Ww B)
    omega
   refine(af (CJ (i:=b) (j:=c.2) (Ww B) (ir (n:=10 * cs.length) ∅ (Int.le_trans H q)) (by have:=E.1;exact Ww this) (gA (by have:=E.2.1;omega))) ?_ :)
   exact#[rfl,y,b * c.2,_,rfl,F,mul_pos B (by have:=E.1;exact this),by rw[Int.mul_assoc];exact G,rfl]
 .rintro u v ⟨rfl,y,b,o,e,A,B,C,rfl⟩;cases y with
  |cons _ _=>cases e
  |nil =>
   have C:b * 1=b9 cs:=C;rw[mul_one] at C;subst C;refine ip (by rw[Æ];exact cV (â h (_e (Ui _)))) (j5 (λx=>.int (l9 (cf cs) cs.length (fo x))) (λx J=>?_) ?_)
   .let(l,_,rfl):=Ð.mp J;refine Wo (uF (k + 1) f g l v) #[?_,rfl];rw[cW]
   .refine(af (o:=n9 .sum [.lst _]) (a:=.d (.int (gO ls (l9 (cf cs) cs.length)))) (by show(((mf (.lst _)).bind rX).map _)=_;show(rX _).map _=_;rw[sum_ints];rfl) ?_ :)
    exact Wo (mG (k + 1) _ _ v p (ir (n:=10 * cs.length) ∅ q)) (sd rfl)
def La:D->Nat
 |.int i=>i.toNat|_=>0
theorem Ei(g:aW m ps)(a:∀ n∈aq,n < ps.length):wO ((ë m.toNat).map λp=>.tup ((iy (bW ps aq m.toNat [p])).map ah))=some (iE (aI ps m.toNat aq)):=by
 have b:(aI ps m.toNat aq).length=m.toNat:=eG;have c:m.toNat<=6:=by have:=g.m6;omega
 have e:((ë m.toNat).map λp=>D.tup ((iy (bW ps aq m.toNat [p])).map ah))=((ë m.toNat).map λp=>((ë m.toNat).filter λq=>(aI ps m.toNat aq).getD q 0 == (aI ps m.toNat aq).getD p 0).map λ(n:Nat)=>(n:Int)).map ST.tD:=by
  rw[æ];refine Uo λp d=>?_;rw[Kl g a (Uc.mp d)];show D.tup _=D.tup _;rw[æ];rfl
 have s:=Ko (mk:=aI ps m.toNat aq) (by rw[b];exact c)
 rw[b,<-e] at s;exact s
theorem uG(k:Nat)(g:aW m ps)(a:∀ n∈aq,n < ps.length)(z:Z):au T (k + 6) mE [.d (de m ps),.d (aQ aq)] z=↑(.ok (.d (~~~(iP (aI ps m.toNat aq):Nat))) z):=by
 have c:=g.m1;have e:=g.m6;refine W.ok (bg     rfl rfl (-0) ?_)
 refine(af (jd (m:=m) ∅ ∅) ?_ :)
 refine ip (by rw[Æ,ó];omega) (j5 (λx=>.tup ((iy (bW ps aq m.toNat [La x])).map ah)) (λx f=>?_) ?_)
 .let(p,h,rfl):=Ð.mp f;exact Wo (lD (k + 2) g a (Uc.mp h) z) #[rfl,rfl]
 .have j:FU [.lst (((ë m.toNat).map λ(i:Nat)=>D.int i).map λx=>.tup ((iy (bW ps aq m.toNat [La x])).map ah))]=↑(.d (~~~(iP (aI ps m.toNat aq):Nat))):=by
   rw[æ];show(wO _).map _=_;rw[<-zZ];exact congrArg (WD _) (Ei g a)
  refine(af j ?_ :);exact sd rfl
end
section
variable {m:Int}{ps cs:Za}{x y w:D}
theorem SW(k:Nat)(hw:jc w=false)(z:Z):au T (k + 14) cA [.d w,.d y,.d x] z=some (.er 0 z) :=
 W.er (bg (k:=k + 11) (ps:=3) (ns:=3) (b:=dJ) rfl rfl (-0) (We (fK (k + 3) hw y z) ⟨rfl,bx z⟩))
theorem SX(k:Nat)(g:aW m ps)(a:fI ps.length y=false)(z:Z):au T (k + 14) cA [.d (de m ps),.d y,.d x] z=some (.er 6 z) :=
 W.er (bg (k:=k + 11) (ps:=3) (ns:=3) (b:=dJ) rfl rfl (-0) (We (fJ (k + 3) (m:=m) (ts:=ps.map pr) g.Hy z (by rw[Æ];exact a)) #[rfl,bx z]))
theorem SY(k:Nat)(g:aW m ps)(a:cs.length=ps.length)(e:∀ c∈cs,je c)(f:Q6 (ps.length:Nat) x=false)(hs:short x)(z:Z):au T (k + 14) cA [.d (de m ps),.d (.tup (cs.map pr)),.d x] z=some (.er 1 z) :=
 W.er (bg (k:=k + 11) (ps:=3) (ns:=3) (b:=dJ) rfl rfl (-0) (Wo (cJ (k + 3) (m:=m) (ts:=ps.map pr) g.Hy z (tM (by rw[Æ];exact a) e)) (We (yf (k + 6) f hs z) #[rfl,bx z])))
theorem S0(k:Nat)(hw:jc w=false)(z:Z):au T (k + 14) hY [.d w,.d y,.d x] z=↑(.er 0 z) :=
 W.er (bg     rfl rfl (-0) (We (fK _ hw y z) #[rfl,bx z]))
theorem S1(k:Nat)(g:aW m ps)(a:fI ps.length y=false)(z:Z):au T (k + 14) hY [.d (de m ps),.d y,.d x] z=some (.er 6 z) :=
 W.er (bg (k:=k + 11) (ps:=3) (ns:=3) (b:=lX) rfl rfl (-0) (We (fJ (k + 3) (m:=m) (ts:=ps.map pr) g.Hy z (by rw[Æ];exact a)) #[rfl,bx z]))
theorem QO(k:Nat)(g:aW m ps)(a:cs.length=ps.length)(e:∀ c∈cs,je c)(f:xT m x=false)(hs:short x)(z:Z):au T (k + 14) hY [.d (de m ps),.d (.tup (cs.map pr)),.d x] z=↑(.er 2 z) :=
 W.er (bg     rfl rfl (-0) (Wo (cJ _   g.Hy z (tM (by simp_all) e)) (We (qz _  z f hs) #[rfl,bx z])))
theorem S2(k:Nat)(hw:jc w=false)(z:Z):au T (k + 14) cw [.d w,.d y] z=↑(.er 0 z) :=
 W.er (bg     rfl rfl (-0) (We (fK _ hw y z) #[rfl,bx z]))
theorem S3(k:Nat)(g:aW m ps)(a:fI ps.length y=false)(z:Z):au T (k + 14) cw [.d (de m ps),.d y] z=some (.er 6 z) :=
 W.er (bg (k:=k + 11) (ps:=2) (ns:=5) (b:=cU) rfl rfl (-0) (We (fJ (k + 3) (m:=m) (ts:=ps.map pr) g.Hy z (by rw[Æ];exact a)) #[rfl,bx z]))
end
section
variable {m:Int}{ps cs:Za}{pl aq:Zh}
abbrev S4:Sm:=match bX with
 |.seq _ (.seq _ (.lams _ _ _ _ _ r))=>r|_=>.nil
abbrev S5(m:Int)(ps cs:Za)(pl aq:Zh)(x y a w:D):Env:=[↑.z,↑(.d (de m ps)),↑(.d (.tup (cs.map pr))),↑(.d (.tup (aq.map ah))),↑(.d (.tup (pl.map ah))),↑(.d x),↑(.d y),↑(.d a),↑(.d w),none]
theorem Bn(k:Nat)(g:aW m ps){x y a w:D}(b:fI ps.length w=false){Q:O->Z->Prop}(q:Q (.rt (.d (.bl true))) z):WS (jY T (k + 27 + 2)) false (tl (tl S4)) (S5 m ps cs pl aq x y a w) z Q E:=by
 refine Ib  (by show 9 < 10;decide) (jk  rfl (We (SX _ g b z) #[rfl,rfl]) (-0) (jk  rfl (We (S1 _ g b z) #[rfl,rfl]) (-0) (jk  rfl (We (S3 _ g b z) #[rfl,rfl]) (-0) rfl))) #[rfl,rfl] ?_
 exact q
theorem Ic(k:Nat)(g:aW m ps)(a:cF m pl)(e:cs.length=ps.length)(f:∀ c∈cs,je c){x y h w:D}(i:pU y)(j:fI ps.length w=false){Q:O->Z->Prop}(q:Q (.rt (.d (.bl true))) z):WS (jY T (k + 27 + 2)) false (tl S4) (S5 m ps cs pl aq x y h w) z Q E:=by
 have n:=g.m1;have o:=g.m6;let(c,p,r,c1):=vT (k + 25) (m:=m) ∅ i z
 have s:=ud i;refine Wo p ?_;cases c with
 |false =>
  refine We (QO (k + 13) g e f (r rfl) s z) ?_;exact Bn k g j q
 |true =>
  let(l,rfl):=c1 rfl;have eq:f9 .eq (.tup l) (.tup [])=some l.isEmpty:=by
   show eqQ (.tup l) (.tup [])=_;unfold eqQ;split
   .cases l <;> rfl
   .rfl
  refine(af eq ?_ :);refine ib (b:=l.isEmpty) (λu=>?_) λ_=>?_
  .refine We (QO (k + 13) g e f (by cases l with | nil=>rfl | cons _ _=>cases u) s z) ?_
   exact Bn k g j q
  .exact Bn k g j q
theorem NQ(k:Nat)(g:aW m ps)(a:cF m pl)(e:cs.length=ps.length)(f:∀ c∈cs,je c){x y i w:D}(j:pU x)(l:pU y)(o:fI ps.length w=false){Q:O->Z->Prop}(q:Q (.rt (.d (.bl true))) z):WS (jY T (k + 27 + 2)) false S4 (S5 m ps cs pl aq x y i w) z Q E:=by
 have p:=g.len;have r:(((ps.map pr).length:Nat):Int)=(ps.length:Nat):=by rw[Æ]
 let(b,s,u):=Eh (k + 25) (n:=((ps.map pr).length:Nat)) ∅ j z
 have u:b=false->Q6 (ps.length:Nat) x=false:=λh=>by have:=u h;rwa [r] at this
 refine Wo s ?_;cases b with
 |false =>
  refine We (SY (k + 13) g e f (u rfl) (ud j) z) ?_;exact Ic k g a e f l o q
 |true=>exact Ic k g a e f l o q
theorem Ah(k:Nat)(g:aW m ps)(hp:cF m pl)(hc:cs.length=ps.length)(ha:∀ c∈cs,je c)(h1:aq.Pairwise (· < ·))(h2:∀ n∈aq,n < ps.length){z:Z}(hz:ZI z):W (au T (k + 30) fk [.z,.d (de m ps),.d (.tup (cs.map pr)),.d (.tup (aq.map ah)),.d (.tup (pl.map ah))]) z (λs z1=>ZI z1/\s=.d (.bl true)) NE:=by
 have h8:=g.len;have l8:aq.length<=8:=â (zV h1 h2) h8;have m1:=g.m1;have m6:=g.m6;refine uz hz (k:=k + 27) (ps:=5) (ns:=10) (b:=bX) rfl rfl (-0) ?_
 refine(lE (k + 25) (m:=((ps.map pr).length:Nat)) ∅ (by rw[Æ];omega) l8 hz).imp λs z2 ⟨hz2,x,e,hox⟩=>?_
 subst e;refine(lE (k + 25) (m:=m) ∅ ∅ (by have:=hp.len g.m6;omega) hz2).imp λs z3 ⟨hz3,y,e,hoy⟩=>?_
 subst e;refine(D8 (k + 25) hz3).imp λs z4 ⟨hz4,bw,e,hbw⟩=>?_;subst e;refine(ug (k + 25) (cs:=cs) ∅ hz4).imp λs z5 ⟨hz5,w,e,hw⟩=>?_
 subst e;rw[hc] at hw;refine Ib (cs:=[0,0,0]) (by show 9 < 10;decide) (jk (ss:=[.d x,.d bw,.d w]) rfl (We (SW (k + 13) hbw z5) ⟨rfl,rfl⟩) (-0) (jk (ss:=[.d y,.d bw,.d w]) rfl (We (S0 (k + 13) hbw z5) ⟨rfl,rfl⟩) (-0) (jk (ss:=[.d bw,.d w]) rfl (We (S2 (k + 13) hbw z5) ⟨rfl,rfl⟩) (-0) rfl))) ⟨rfl,rfl⟩ ?_
 exact NQ k g hp hc ha hox hoy hw ⟨hz5,rfl⟩
end
abbrev N4(f:D->Nat)(c:Nat)(a:List D)(bs:List (List D)):List (List D):=(ë c).map λp=>bs.getD p []++a.filter λx=>f x == p
theorem Kq{bs:⇑⇑D}(h:bs.length=c):N4 f c [] bs=bs:=by
 refine List.ext_getElem (by simp_all) λi a b=>?_
 rw[List.getElem_map,List.getElem_range,List.filter_nil,Wa,Ñ,Õ b];rfl
theorem Ie{bs:⇑⇑D}(h:bs.length=c)(a:f x < c):N4 f c r (bs.set (f x) (bs.getD (f x) []++[x]))=N4 f c (x::r) bs:=by
 refine Uo λp _=>?_;by_cases e:f x=p
 .simp_all
 simp_all
theorem Ig{c:Nat}{f:D->Nat}{Q:O->Z->Prop}:∀ {e:List D}{bs:List (List D)},bs.length=c->(∀ b∈bs,b.length + e.length<=1000) ->
  (∀ x∈e,f x < c/\WE F g (i.set j (some (.d x))) z (λl k=>bO ((pl l).bind wL) λn=>n=(f x:Nat)/\k=z) NE)->W (m (N4 f c e bs)) z Q E->W (yT F j g i e bs m) z Q E
 |[],bs,o,_,_,q=>by
  rw[Kq o] at q;exact q
 |x::r,bs,o,p,s,q=>by
  let(u,v):=s x Í;show W (Zd (ev F g (i.set j (some (.d x)))) λl=>Zd (Zf (((pl l).bind wL).bind λn=>FY bs n x)) λbs=>yT F j g i r bs m) z Q E;rw[fE];refine(aR.mp v).imp λl k h=>?_;let(n,A,rfl,rfl):=cR h;have B:f x < bs.length:=by omega
  have C:bs.getD (f x) []∈bs:=by rw[Ñ,Õ B];exact UN B
  have G:FY bs (f x:Nat) x=some (bs.set (f x) (bs.getD (f x) []++[x])):=by
   unfold FY;have:=p _ C;rw[Þ] at this;rw[UX,Zv #[by omega,by omega,by simp only[most];omega]]
  refine(wG (K:=λbs=>W (yT F j g i r bs m) k Q E) λb=>XG).mp (af (a:=bs.set (f x) (bs.getD (f x) []++[x])) (by rw[A];exact G) ?_)
  refine Ig (by rw[ô];exact o) (λb H=>?_) (λy I=>s y (É _ I)) (by rw[Ie o u];exact q)
  rcases List.mem_or_eq_of_mem_set H with h | h
  .have:=p b h;rw[Þ] at this;omega
  .have:=p _ C;rw[Þ] at this;rw[h,õ,List.length_singleton];omega
theorem QP{c:Nat}{f:D->Nat}{xs:List D}{Q:O->Z->Prop}(a:i < e.length/\j < e.length/\i≠j/\k≠i/\k≠j)
  (g:WE F ns (dO e) z (λl m=>bO (((iC l).bind (uy .rng1)).bind Je) λo=>o.length=c/\m=z) NE) (p:rowAt (dO e) k=some xs) (s:xs.length<=1000)
  (u:∀ x∈xs,f x < c/\WE F v (((dO e).set i none).set j (some (.d x))) z (λl m=>bO ((pl l).bind wL) λn=>n=(f x:Nat)/\m=z) NE)
  (q:WS F y r (((dO e).set i (some (.d (.lst ((N4 f c xs (ì c [])).map D.lst))))).set j none) z Q E):WS F y (.bkt i j k ns v r) e z Q E:=by
 show W (DF F i j k ns v (ex F y r) e) z Q E;unfold DF;rw[Zv a,fE];refine(aR.mp g).imp λl m h=>?_;let(o,A,rfl,rfl):=cR h;refine(wG (K:=λo=>W (Zd (Zf (rowAt (dO e) k)) λxs=>yT F j v ((dO e).set i none) xs (ì o.length []) λbs=>ex F y r (((dO e).set i (some (.d (.lst (bs.map D.lst))))).set j none)) m Q E) λb=>XG).mp (af A ?_);refine(wG (K:=λxs=>W (yT F j v ((dO e).set i none) xs (ì o.length []) λbs=>ex F y r (((dO e).set i (some (.d (.lst (bs.map D.lst))))).set j none)) m Q E) λb=>XG).mp (af p ?_);refine Ig (c:=o.length) (f:=f) (Vp ..) (λb B=>?_) u (mW.mp q);rw[List.eq_of_mem_replicate B];show 0 + _<=_;exact Nat.add_le_of_le_sub s (_X s)
section
variable {m:Int}{ps cs:Za}{pl aq:Zh}
theorem Bo(d k:Nat)(a:l.length<=1000)(h:∀ x∈l,flat d x)(z:Z):au T (k + d + 4) dA [.d (.lst l),.d (.lst l)] z=some (.ok (.d (.bl true)) z):=by
 refine W.ok (bg (k:=k + d + 1) (ps:=2) (ns:=2) (b:=lg) rfl rfl (-0) ?_)
 refine ie (b:=!((l.length:Int) == (l.length:Int))) (by rw[beq_self_eq_true];rfl) ?_
 refine ip (c:=(fV l l).length<=most) (â (ll _ _) (cV a)) (j5 (λ_=>.bl true) (λq e=>?_) (af (iO (fV l l) λ_=>true) ?_ :))
 .let(x,f,rfl):=uh e;exact Wo (yc d k x z (h x f)) #[rfl,rfl]
 .exact sb (b:=(fV l l).all λ_=>true) (Ó.mpr λ_ _=>rfl)
theorem Ih(a:kC s)(b:jS p s c=↑d)(q:P d):bO (one [s]) λs=>bO (jS p s (dP s c)) P:=by
 show bO _ P;rw[xM a];exact af b q
theorem Kr(k:Nat)(g:aW m ps)(a:cs.length=ps.length)(b:∀ c∈cs,je c)(aq:Zh)(z:Z):au T (k + 5) fF [.d (.tup (cs.map pr)),.d (.lst [aQ aq])] z=↑(.ok (.d (pr (cT (l9 (cf cs) ps.length aq) (b9 cs)))) z):=by
 have h:=nr (ls:=[aq]) k (by exact â (Y5 a) (g.len)) b (show 1<=256 by decide) z
 rw[(by
  show l9 _ cs.length aq + 0=_;rw[add_zero,a]:gO _ _=l9 _ ps.length aq)] at h;exact h
theorem Ii(k:Nat)(g:aW m ps)(a:cs.length=ps.length)(b:∀ c∈cs,je c)(z:Z):au T (k + 5) fF [.d (.tup (cs.map pr)),.d (.lst ((nj m ps pl).map aQ))] z=some (.ok (.d (pr (tW m ps cs pl))) z):=by
 have e:=g.len;rw[nr k (â (Y5 a) e) b (â (U6 _ _) (f6 e)) z,md,vN (eI e),a]
 rfl
def NR(m:Int)(ps:Za)(x:D):Nat:=iP (aI ps m.toNat (fo x)) - 1
theorem Lb(g:aW m ps)(aq:Zh):1<=iP (aI ps m.toNat aq)/\iP (aI ps m.toNat aq)<=m.toNat:=by
 have a:=CU (aI ps m.toNat aq);rw[eG] at a;refine#[?_,a];cases e:aI ps m.toNat aq with
 |nil=>have:=eG (ps:=ps) (m:=m.toNat) (aq:=aq);rw[e] at this;have:=g.m1;simp at *;omega|cons _ _=>exact zY
abbrev NS(m:Int)(ps:Za)(p:Nat):⇑Zh:=(bG ps.length).filter λl=>NR m ps (aQ l) == p
theorem QQ:N4 (NR m ps) m.toNat ((bG ps.length).map aQ) (ì m.toNat [])=(ë m.toNat).map λp=>(NS m ps p).map aQ:=by
 refine Uo λp hp=>?_;rw[Ñ,VW,Zv (Uc.mp hp)];show []++_=_;rw[V8,Yj];rfl
theorem NT(g:aW m ps)(a:cs.length=ps.length)(p:Nat):gO (NS m ps p) (l9 (cf cs) cs.length)=xZ m ps cs (bG ps.length) p:=by
 rw[md];congr 1
 funext l
 have:=(Lb g l).1;rw[(by unfold NR;rw[cW]:NR m ps _=iP _ - 1)];by_cases h:iP (aI ps m.toNat l)=p + 1
 .simp_all
 .rw[Zw h,Zw (by simp[Zy];omega)]
abbrev Ij(m:Int)(ps cs:Za):⇑D:=(dW m ps cs (bG ps.length)).map λt=>pr (cT t (b9 cs))
def Q7:D->List Zh
 |.lst l=>l.map fo|_=>[]
theorem Ik(a:List Zh):Q7 (.lst (a.map aQ))=a:=by
 show(a.map aQ).map fo=a;rw[æ];refine(Uo λl _=>?_).trans (map_id _);exact cW _
theorem NU(g:aW m ps)(a:cs.length=ps.length):(((ë m.toNat).map λp=>(NS m ps p).map aQ).map D.lst).map (λx=>pr (cT (gO (Q7 x) (l9 (cf cs) cs.length)) (b9 cs)))=Ij m ps cs:=by
 unfold Ij dW;rw[æ,æ,æ];refine Uo λp _=>?_;show pr (cT (gO (Q7 (.lst ((NS m ps p).map aQ))) _) _)=pr (cT _ _);rw[Ik,NT g a];rfl
abbrev En(a:Zi)(j:Nat)(m:Int)(ps cs:Za)(pl:Zh)(b c e f g h i k:Option S):Env:=[↑(.d (.lst (a.map D.int))),↑(.d (~~~j)),↑.z,↑(.d (de m ps)),↑(.d (.tup (cs.map pr))),↑(.d (.tup (pl.map ah))),b,c,e,f,g,h,i,k]
abbrev b5(n:Nat):Sm:=match CF with
 |.seq (.fr _ _ _ b) _=>rec b (λ_ r=>tl r) n|_=>.nil
abbrev Tt:Sm:=match b5 7 with
 |.bkt _ _ _ _ _ r=>r|_=>.nil
abbrev T8:Sm:=match b5 4 with
 |.seq (.fr _ _ _ b) _=>b|_=>.nil
abbrev T9:Sm:=match tl Tt with
 |.seq (.fr _ _ _ b) _=>b|_=>.nil
inductive QR (ns:List Int):Env->Prop
 |mk {o1 o2 o3 o4 o5 o6 o7 o8 o9 o10 o11 o12 o13:Option S}:QR ns [some (.d (.lst (ns.map D.int))),o1,o2,o3,o4,o5,o6,o7,o8,o9,o10,o11,o12,o13]
abbrev N5(ps:Za):Option S:=some (.fr ((bG ps.length).map aQ))
theorem t5(k:Nat)(g:aW m ps)(a:cs.length=ps.length)(b:∀ c∈cs,je c)(hz:ZI z){Q:O->Z->Prop}
  (q:∀ f,ZI f->∀ aq∈bG ps.length,Q (.nx (En ns j m ps cs pl (N5 ps) h ↑(.d (aQ aq)) i l o p r)) f):WS (jY T (k + 37 + 2)) true T8 (En ns j m ps cs pl (N5 ps) h u i l o p r) z Q E:=by
 have v:=g.len;have y:=f6 v;refine(bE _ _ hz (by rw[Æ];exact Yd (_c _) (_k (by
  rw[(eI v).length_eq,lx];exact Nat.pow_pos (-0)))) (by rw[Æ];omega)).imp λs f #[A,n,e,B]=>?_
 subst e;rw[Æ] at B;have C:n < (bG ps.length).length:=_f B
 obtain⟨aq,F⟩:∃ aq,(bG ps.length)[n]?=↑aq:=#[_,Õ C];have G:=Û F;have H:=ji ((eI v).mem_iff.mp G);have lt:=jI v G;refine(af (tG (j:=n) (x:=aQ aq) (by rw[Ú,F];rfl)) ?_ :)
 refine(Ih (show kC (.d (aQ aq))=true from jH _) rfl ?_);refine Wo (uE (k + 28) g a b H lt f) ?_;refine Wo (Kr (k + 34) g a b aq f) ?_;refine Wo (yc 1 (k + 35) _ f ye) ?_;exact q f A aq G
theorem u5(k:Nat)(g:aW m ps)(a:cs.length=ps.length)(b:∀ c∈cs,je c){Q:O->Z->Prop}
  (q:∀ d,Q (.nx (En ns j m ps cs pl e f h (some (.fr (Ij m ps cs))) i l n d)) z):WS (jY T (k + 37 + 2)) true T9 (En ns j m ps cs pl e f h (some (.fr (Ij m ps cs))) i l n d) z Q E:=by
 have o:=g.m6;have p:(Ij m ps cs).length<=6:=by
  show((dW m ps cs (bG ps.length)).map _).length<=6;rw[Æ,jj];omega
 have s:∀ x∈Ij m ps cs,flat 1 x=true:=λx u=>by
  let(t,_,rfl):=Ð.mp u;exact ye
 have v:kC (.fr (Ij m ps cs))=true:=by
  show dQ ((dW m ps cs (bG ps.length)).map _)=true
  induction dW m ps cs (bG ps.length) with
  |nil=>rfl|cons t r y=>exact y
 refine Wo (pR (k + 28) g a b z) ?_;refine(Ih v rfl ?_);refine Wo (Bo 1 (k + 34) (â p (_e (Ui _))) s z) ?_
 refine ip #[rfl,V7 p (-0)] ?_
 exact q _
theorem r5(k:Nat)(g:aW m ps)(a:cF m pl)(f:cs.length=ps.length)(h:∀ c∈cs,je c)(hz:ZI z)(i:aq∈bG ps.length){Q:O->Z->Prop}
  (q:∀ l n,QR ns l->Q (.nx l) n):WS (jY T (k + 37 + 2)) true Tt (En ns j m ps cs pl o u ↑(.d (aQ aq)) v ↑(.d (.lst (((ë m.toNat).map λp=>(NS m ps p).map aQ).map D.lst))) y A B) z Q E:=by
 have C:=g.len;have F:=g.m6;have G:kC (.fr (Ij m ps cs))=true:=by
  show dQ ((dW m ps cs _).map _)=true
  induction dW m ps cs _ with
  |nil=>rfl|cons t r H=>exact H
 refine(vC (.fr (Ij m ps cs)) (En ns j m ps cs pl o u ↑(.d (aQ aq)) ↑(.fr (Ij m ps cs)) ↑(.d (.lst (((ë m.toNat).map λp=>(NS m ps p).map aQ).map D.lst))) y A B) ?_ ?_ ?_ :)
 .refine ip (by rw[Æ,Æ,ó];exact cV ∅) (j5 (λx=>pr (cT (gO (Q7 x) (l9 (cf cs) cs.length)) (b9 cs))) (λx I=>?_) ?_)
  .let(b,G,rfl):=Ð.mp I;let(p,_,rfl):=Ð.mp G;refine Wo (nr (k + 34) ∅ h (â (U6 _ _) (f6 C)) z) #[?_,rfl]
   rw[Ik]
  .rw[NU g f];exact#[rfl,rfl]
 .rw[xM G];rfl
 refine jb (λJ l n=>n=z/\∃ A B:Option S,l=En ns j m ps cs pl o u ↑(.d (aQ aq)) ↑(.fr (Ij m ps cs)) ↑(.d (.lst (((ë m.toNat).map λp=>(NS m ps p).map aQ).map D.lst))) y A B) _ #[rfl,_,_,(K7 rfl).trans rfl] ?_ ?_
 .rintro x r l n ⟨rfl,A,B,rfl⟩;exact u5 k g f h λB=>#[rfl,_,B,rfl]
 .rintro l n ⟨rfl,A,B,rfl⟩;refine(Ah (k + 9) g a f h (ji ((eI C).mem_iff.mp i)) (jI C i) hz).imp λs K #[L,e]=>?_;subst e;exact q _ _ .mk
theorem a5(k:Nat)(g:aW m ps)(hp:cF m pl)(hc:cs.length=ps.length)(ha:∀ c∈cs,je c){ns:Zi}{j:Nat}{z:Z}(hz:ZI z)(hlot:aq∈bG ps.length){o7 o9 o10 o11 o12 o13:Option S}{Q:O->Z->Prop}{E:Nat->Z->Prop}
  (q:∀ ρ z1,QR ns ρ->Q (.nx ρ) z1):WS (jY T (k + 37 + 2)) true (b5 5) (En ns j m ps cs pl (N5 ps) o7 (some (.d (aQ aq))) o9 o10 o11 o12 o13) z Q E:=by
 have h8:=g.len;have m1:=g.m1;have m6:=g.m6;refine(vC (.d (pr (tW m ps cs pl))) (En ns j m ps cs pl (N5 ps) o7 (some (.d (aQ aq))) (some (.d (pr (tW m ps cs pl)))) o10 o11 o12 o13) ?_ ?_ ?_ :)
 ·refine ip (by rw[Æ];exact cV (â (f6 h8) (-0))) (qy (λx=>dU ps m.toNat pl (fo x)) (λx=>x) (λx hx=>?_) ?_)
  ·obtain⟨l,hl,rfl⟩:=Ð.mp hx;refine Wo (ya (k + 35) g hp (jI h8 hl) z) ⟨?_,rfl,λ_=>⟨rfl,rfl⟩⟩;rw[cW]
  ·have eg:((bG ps.length).map aQ).filter (λx=>dU ps m.toNat pl (fo x))=(nj m ps pl).map aQ:=by
    rw[Yj]
    congr 1
    refine Xh λl _=>?_;show dU ps m.toNat pl (fo (aQ l))=_;rw[cW]
   rw[map_id',eg];exact Wo (Ii (k + 34) g hc ha z) ⟨rfl,rfl⟩
 ·rw[xM rfl];rfl
 refine Wo (HM (k + 28) g hp hc ha z) (Wo (yc 1 (k + 35) _ z ye) ?_);refine QP (c:=m.toNat) (f:=NR m ps) (xs:=(bG ps.length).map aQ) ⟨by show 10 < 14;decide,by show 11 < 14;decide,by decide,by decide,by decide⟩ ?_ rfl (by rw[Æ];have:=f6 h8;omega) (λx hx=>?_) ?_
 ·refine(af (o:=((some [D.int m]).bind (uy .rng1)).bind Je) (a:=(ë m.toNat).map λ(i:Nat)=>D.int i) ?_ ?_ :)
  ·show(uy .rng1 [.int m]).bind Je=_;rw[jd (m:=m) ∅ ∅]
   exact Zv (by rw[Æ,ó];omega)
  ·exact⟨by rw[Æ,ó],rfl⟩
 ·obtain⟨l,hl,rfl⟩:=Ð.mp hx;obtain⟨p1,p2⟩:=Lb g l;have e:NR m ps (aQ l)=iP (aI ps m.toNat l) - 1:=by unfold NR;rw[cW]
  rw[e];refine⟨by omega,?_⟩
  refine Wo (uG (k + 33) g (jI h8 hl) z) ?_;exact⟨by omega,rfl⟩
 ·rw[QQ];exact r5 k g hp hc ha hz hlot q
theorem w5(k:Nat)(g:aW m ps)(a:cF m pl)(b:cs.length=ps.length)(e:∀ c∈cs,je c)(hz:ZI z){Q:O->Z->Prop}{E:Nat->Z->Prop}
  (q:∀ f l,QR ns f->Q (.nx f) l):WS (jY T (k + 37 + 2)) true (b5 3) (En ns j m ps cs pl n o p s u v y A) z Q E:=by
 have B:=g.len;have C:kC (.fr ((bG ps.length).map aQ))=true:=nq _;have F:=zU (i:=qh) rfl (k + 36) (m:=m) (ts:=ps.map pr) (by rw[Æ];exact B) z
 rw[Æ] at F;refine(vC (.fr ((bG ps.length).map aQ)) (En ns j m ps cs pl (N5 ps) o p s u v y A) ?_ ?_ ?_ :)
 .exact Wo F #[rfl,rfl]
 .rw[xM C];rfl
 refine jb (λG f l=>ZI l/\∃ o p:Option S,(G.length=3∨∃ aq∈bG ps.length,p=some (.d (aQ aq)))/\f=En ns j m ps cs pl (N5 ps) o p s u v y A) _ #[hz,_,_,.inl rfl,(K7 rfl).trans rfl] ?_ ?_
 .rintro x r f l ⟨H,o,p,_,rfl⟩;exact t5 k g b e H λI J aq K=>#[J,_,_,.inr #[aq,K,rfl],rfl]
 .rintro f l ⟨H,o,p,h | ⟨aq,K,rfl⟩,rfl⟩
  .cases h
  .exact a5 k g a b e H K q
end
abbrev Ks(L:Int):Int:=if (if (3:Int) < L then 3 else L) > 1 then(if (3:Int) < L then 3 else L) else 1
theorem NV(k:Nat)(ns:Zi):au T (k + 40) K5 [.d (.lst (ns.map D.int))] none=↑(.ok (.d (.bl true)) none):=by
 refine W.ok (bg     rfl rfl (-0) ?_)
 have a:0<=Ks ((ns.map D.int).length:Int)/\Ks ((ns.map D.int).length:Int) < 100000:=by
  unfold Ks;split <;> (try split) <;> omega
 refine(af (jd  a.1 a.2) ?_ :);refine jb (λc f z=>(∀ x∈c,∃ j:Nat,x= ~~~j)/\QR ns f) _ #[λx h=>?_,.mk] ?_ ?_
 .let(i,_,rfl):=Ð.mp h;exact#[i,rfl]
 .rintro x r f l ⟨h,⟨⟩⟩;let(j,rfl):=h x Í;let(n,sb,o,p):=Hu (k + 35) ns j l;refine Wo p ?_;refine(D7 (k + 34) o (-0) (-0)).imp λs q #[u,m,v,e,g,_]=>?_
  subst e;refine(uB (k + 34) (m:=m) (ts:=v.map pr) u (by rw[Æ];exact g.len)).imp λs y #[A,cs,e,B,C]=>?_
  subst e;rw[Æ] at B;refine(xU (k + 35) (t:=.tup (v.map pr)) g.m1 g.m6 A).imp λs E #[F,pl,e,G]=>?_;subst e;refine(w5 k g G B C F λf H I=>?_ :);exact#[λx J=>h x (É _ J),I]
 .rintro f l ⟨_,⟨⟩⟩;exact#[rfl,rfl]
theorem pure:∀ a:Zi,a.length<=63->au (tabOf rows) 40 K5 [.d (.lst (a.map D.int))] none=some (.ok (.d (.bl true)) none):=λa _=>by
 exact NV 0 a
end K3
namespace K3
open PySem L2 Q
theorem ok:rows.all (xG (ja rows) nums):=by decide +kernel
theorem bd:fN rows:=by
 repeat' first | exact trivial | refine#[?_,?_] | exact λ_ _ _ _ _ _ a b=>by let(_,rfl):=Tj b;rfl | exact λ_ _ _ _ _ _ a b=>by let(_,_,rfl):=TY b;rfl | exact λ_ _ _ _ _ _ a b=>by let(_,_,_,rfl):=T3 b;rfl | exact λ_ _ _ _ _ _ a b=>by let(_,_,_,_,_,rfl):=T4 b;rfl
theorem hR:Bb rows ["_law_refusals_right"] [("_law_refused",top 69)]:=λr a b=>by
 have h:=Ó.mp (show rows.all (λr=>!r.lm || (["_law_refusals_right"]:Zj).contains r.nm)=true from rfl) r a
 rw[b] at h;exact#[List.contains_iff_mem.mp h,top 69,268,.head _,rfl,rfl,λ_ _ _ _ _ _ c d=>by let(_,rfl):=Tj d;rfl]
def asks:cj:=kL rows nums ["_law_refusals_right"] [("_law_refused",top 69)]
def prg:Program:=Us
def vq:Program:=view prg [72]
def loose:Zj:=prg.boundNames.filter λx=>!(x == ("law":Str))
def Tu:=asks.ds.drop 25
def runM(w:î)(a:OsState):=(hV PySem.W.through (PySem.W.stepOk 11 (some (.ref 6))) (PySem.W.stepT (denote treeTable) prg w) 20000 (Cy w a) (PySem.W.topStub prg)).map (λs=>Tu.map λd=>sV (fragOf s.abs.heap) d.1)
def runN(_:î):=↑(Tu.map λd=>zD d.1 d.2)
def runL(w:î)(a:OsState):=(hV PySem.W.through (PySem.W.stepOk 11 (some (.ref 6))) (PySem.W.stepT (denote treeTable) prg w) 20000 (Cy w a) (PySem.W.topStub prg)).map (λs =>
   (PySem.W.staticsOk (importedModules prg.main.body) (PySem.W.boot_heap w.params) s.abs.heap&&PySem.W.namesBound prg s.abs.heap&&PySem.W.gensDone s.abs&&PySem.W.laidKept (PySem.W.boot_heap w.params) s.abs.heap,
    PySem.W.openSeen vq loose (importedModules prg.main.body) (λ_=>true) true s.abs,({ asks with ds:=asks.ds.take 25 }:cj).obs s.abs))
def runR(w:î):=↑(true,PySem.W.openGood vq loose,({ asks with ds:=asks.ds.take 25 }:cj).Nu w)
def _root_.PySem.W.Fast.tw14879901094551609742:PySem.Program:=Us
theorem _root_.PySem.W.Fast.te14879901094551609742:Us=PySem.W.Fast.tw14879901094551609742:=rfl
def _root_.PySem.W.Fast.tw1729117012335880883:List Q.Row:=rows
theorem _root_.PySem.W.Fast.te1729117012335880883:rows=PySem.W.Fast.tw1729117012335880883:=rfl
theorem twins:(λ(_:runL=runL/\runR=runR/\runM=runM/\runN=runN)=>true) #[rfl,rfl,rfl,rfl]:=by k_qdec
theorem run_eq:∀ (w:î) (os:OsState),PySem.W.Fast.tw14075725262101462980 w os=PySem.W.Fast.tw18139657281711212703 w:=λw os=>by kernel_rfl
theorem Kt:∀ (w:î) (os:OsState),PySem.W.Fast.tw87755624848951762 w os=PySem.W.Fast.tw11937498545222698396 w:=λw os=>by kernel_rfl
theorem left:PySem.W.LeftO Us vq loose (λ_=>true) asks.hook.obs asks.hook.val 20000:=J1 (by kernel_rfl) rfl (λ_=>by kernel_rfl) λw os=>D2 (List.take_append_drop 25 asks.ds)
 ((congrFun (congrFun PySem.W.Fast.te14075725262101462980 w) os).trans ((run_eq w os).trans (congrFun PySem.W.Fast.te18139657281711212703 w).symm))
 ((congrFun (congrFun PySem.W.Fast.te87755624848951762 w) os).trans ((Kt w os).trans (congrFun PySem.W.Fast.te11937498545222698396 w).symm))
end K3
open PySem PySem.W PyProof.Rows
set_option maxRecDepth 100000 in
set_option maxHeartbeats 0 in
theorem PySem.Challenge.cw_tiechances_k05_shares_told_holds : PySem.Challenge.rw_tiechances_k05_shares_told.Holds := by
 w_on;o_law
 refine holds_open (q:=K3.vq) (loose:=K3.loose) (Xt:=λ_=>true) (XP:=λ_ _=>True) (Yf:=K3.asks.hook.obs) (Ya:=K3.asks.hook.val) (YP:=K3.asks.hook.says) K3.left K3.asks.hook.of K3.asks.hook.keeps (λ_ _=>trivial) (λ_ _ _ _ _=>trivial) (by rfl) (by rfl) (by rfl) (λs _=>recFacts_of rfl) rfl (by first | assumption | decide +kernel) (by decide +kernel) ⟨rfl,rfl,rfl,rfl,rfl,by decide +kernel⟩ ?hw ?hc
 case hw=>w_witness2
 case hc=>exact Q.Ho (l:=PySem.Challenge.rw_tiechances_k05_shares_told) (n:=63) (k:=40) (x:="_law_script") rfl (-0) rfl ⟨rfl,by decide,by decide⟩ (Q.J5 (k:=37) (iL:=48) K3.ok K3.bd rfl rfl rfl (-0) K3.hR K3.pure)