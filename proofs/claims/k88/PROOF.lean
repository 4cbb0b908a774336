import PyProof.Rows.All
import Wide.All
import OpenK.AllK
import Wide.FinOn
import Lean
import PyProof.EqAt
import PyProof.EqKinds
import PyProof.TupleCall
import KE.KSortTup
import OpenK.KRaise
import OpenK.KOwn
import PyProof.ExcBaseAll.ValueError
import KE.KIsAll
import PyProof.ExcAttrAll.ValueError
import PyProof.NsDelKeeps
import PyProof.RulesAs
import KE.KTryMore
import KE.KLam
import KE.KNestM
import OpenK.KEqL
import PyProof.Rows.EqDataRows
import PyProof.NeKinds
import PyProof.FactsAll.dict
import PyProof.FactsAll.subtypes
import PyProof.ListRange
import PyProof.TupleOfGen
import PyProof.TupleOfSeq
import KE.KTupSum
import PyProof.Rows.SumAny
import PyProof.Rows.SetFrom
import KE.KRevSl
import PyProof.WalksMore
import PyProof.SetRoads
import KE.KTupDict
import PySem.Challenge.RW_tiechances_k88_whole_put_together
local macro_rules
|`(∅)=>`(by omega)
|`(-0)=>`(by decide)
|`(1e1)=>`(by decide)
local macro_rules
|`(tactic|omega)=>`(tactic|lia)
open PySem renaming wpAny_bind->À,Value->Å,Shared->É,wpAny_pure->Ê,Addr->Ì,wpAny->Ô,Expr->Ù,model->à,Program->â,mainGlobals->ì,World->ó,bootBuiltins->õ,Around->ö,Heap->ø,starEach->þ,wpAny_newObj_type->ÿ,Scope->tv,compareOp->Qw,sizeLine_eq->Qy,wpAny_call_entry->QG,wpAny_callSpecial?_slot->QK,wpAny_mono->QM,mem_of_lookup->QN,wpAny_truthy_bool->QR,codeAny_builtin->QY,wpAny_setField_rec->Q0,wpAny_field->Q2,wpAny_holding->Q9,rawInt->Ra,swappedStores->Rq,SetTable->Rr,FuncData->Rt,Paired->Rx,cLine->Rz,intKind->RA,wpAny_seqItems->RE,IsPair->RF,Stmt->RM,wpAny_setState_of->RO,codeAny_mono->RP,binaryOp->RX,Env->RZ,wpAny_pyIter_tuple->R4,wpAny_passesOwn->R8,assignEach->Sj,IsTupleKey->Sl,wpAny_typeOf->So,Builtin->Ss,Arguments->Su,NameKind->SF,wpAny_Call_Name_kw->SJ,foldedSetIterable->SU,wpAny_rule->S2,wpAny_askSetting->S3,builtinsNs->S4,plainId_quiet->S7,sliceBounds->Ta,importedModules->Tn,codeAny->TF,swapsWith->TK,pyNext->TL,isSubtype_type->TU,Operator->T6,IsZip->T7,wpAny_attempt->Uo,backTo->Uq,wpAny_execs_cons->UC,wpAny_Name->UJ,wpAny_execs_nil->UL,wpAny_updateSeq_pair->U0,wpAny_runValue->U2,wpAny_newFunctionEnv->U3,wpAny_loadName_local->U4,firstArgMember->U7,assign->U8,IsPart->Vb,tupleKind->Ve,getItem->Vj,codeAmong->Vk,wpAny_setEntries_of->Vp,wpAny_loadName_cell->Vq,wpAny_standAt->Vw,wpAny_onRaise->Vx,wpAny_newList->Vy,foldedForSure->VG,wpAny_call->VJ,wpAny_pyIter_list->VU,wpAny_Return_some->VV,callerA->V1,wpAny_isInstance->Wj,noFill_tuple_add->Wk,TriplesOk->Ws,wpAny_of_eq->Ww,seqIndex_of->Wy,letOwnedTupleGo->WD,codeAny_of_tree->WH,holding->WJ,collect->WL,OsState->WO,ItemsOf->WR,IsRange->WT,BindsTo->WW,wpAny_newFunctionEnv_cells->WZ,wpAny_load->W0,closureFor->W3,bindArgs->W4,ZipApart->W5,ReadsAll->W8,wpAny_comprehension_free->Xv,seq_tuple_add->Xw,rangeSize_one->Xx,behindInMarks->Xy,assignInOrder->Xz,field->XJ,cellsFrom->XM,bindC->XN,richCompare_meets_room->X1,newList->X2,leaving->X3,isTrue->X6,concat_meets->X7,codeAny_call_function->Ym,builtinLookup_eq_fast->Yn,wpAny_letGo->Yv,unsupported->Yw,richCompare->Yx,bindName->YA,again->YB,GenState->YL,wpAny_loadName_free->YS,typeOf->Y4,sysModules->Y5,setsByText->Y6,call_meets->Y8
open Bool renaming and_eq_true->Á,false_ne_true->Û,not_eq_true'->î,or_eq_true->QL,false_eq_true->Q5,eq_iff_iff->Q8,true_and->RK,and_true->RL,not_eq_false'->T9,false_and->UI,or_false->WB,not_true->WC,not_eq_eq_eq_not->Xf,or_eq_false_iff->Xs
open PySem.W renaming Frag->Â,kas_item->ý,kas_desc->Q4,kas_place->Rm,codeHdIn->Rv,kas_rev->R5,kas_asc->R6,tabObj->R7,boot_heap->Sq,excIn->SO,kas_descPart->TC,kas_sort->TR,nsIn->T4,keepIn->Ur,cellsFrom_some->UO,kia_one->UX,kla_fn->VQ,kas_count->Wl,envX->WK,SharedT->WM,methodObj->W2,Frag->Xd,kla_obj->Xj,boot_heap->Xm,mg_of->XG,kas_tail3->XH,OpenLaw->XQ,kas_bin->X5,codeIn->X9,Looks->Yo,nsIn->Yy,kasC_modify->Yz,KasT->YI,boot_drawn->Y9
open PySem.Heap renaming get?_push_of_some->Ã,get?_push_size->Ò,lt_size->á,get?_update_self->R3,size_push->SD,get?_update_other->SI,SameBut->Ul,IsTuple->Vn,get?_push_ne->Yk,MadeExcOf->Y1
open List renaming length_map->Ä,getD_eq_getElem?_getD->Æ,mem_map->Ç,mem_cons_of_mem->È,mem_cons_self->Ë,getElem?_eq_getElem->Í,mem_range->Î,map_map->Ó,all_eq_true->Õ,range->Ö,getElem?_map->Ø,mem_singleton->Ú,length_cons->Ü,mem_cons->ß,size_toArray->ã,mem_filter->æ,getElem?_eq_some_iff->ç,mem_append_right->é,mem_append->ë,length_range->ï,mem_of_getElem?->ð,getElem?_set_ne->ñ,getElem?_set_self->ô,mem_cons->ü,not_mem_nil->p9,contains_iff_mem->Qu,lookup_cons->Qz,map_congr_left->QB,filterMap_cons->QC,getElem_mem->QD,length_set->QE,pairwise_map->QF,getElem?_append_right->QJ,length_nil->QO,length_take->QP,map_cons->QS,map_append->QT,nodup_cons->Q7,mem_append_left->Rb,filter_cons->Rc,length_eraseIdx_of_lt->Rg,all_cons->Rh,append_nil->Ri,length_append->Rk,range'->Ro,all_eq_true->Rp,mem_of_mem_drop->Ru,perm_ext_iff_of_nodup->RB,pairwise_lt_range->RH,drop_eq_getElem_cons->RJ,nil_append->RN,length_filter_le->RQ,mem_filterMap->RT,length_drop->RV,mem_of_mem_take->R1,take_of_length_le->R9,getElem?_append_left->Sb,replicate->Sf,getElem?_range->Sh,filter_eq_self->Si,zip_cons_cons->Sv,range_eq_range'->Sx,getElem?_cons_zero->Sz,forIn_cons->SA,append_assoc->SM,range'_succ->SR,filter_map->SX,lookup->SY,nodup_range->S0,length_eraseIdx->S8,map_id'->Tg,pairwise_cons->Th,getElem?_take->Ti,getElem?_drop->Tj,rel_of_pairwise_cons->Tv,pairwise_iff_getElem->Tx,ext_getElem->TV,cons_append->T3,getElem_range->Ua,pairwise_singleton->Ub,map->Uc,isEmpty_iff->Ud,getElem?_replicate->Ue,forIn_nil->Uj,filter_eq_nil_iff->Uk,reverse_cons->Uv,mem_filter->Uy,mem_append->Uz,getElem?_eq_none->UA,eraseIdx_sublist->UB,getElem?_append->UG,drop_length->UN,map_eq_nil_iff->UR,filter_sublist->US,mem_range->UW,set_eq_take_append_cons_drop->U9,of_mem_zip->Vg,zip_nil_left->Vl,toArray->VA,map_take->VC,map_nil->VD,map_drop->VE,nodup_range->VI,mapM_cons->VP,map_toArray->VY,isEmpty_nil->VZ,getElem_map->V0,perm_append_singleton->Wf,drop_eq_nil_of_le->WQ,take_append_drop->Xb,length_replicate->Xc,all_nil->Xk,mem_iff_getElem->Xo,contains_eq_mem->Xp,zip_nil_right->XR,filter_append->XT,mapM_toArray->Yh,zipIdx_cons->Yr,getElem_inj->Ys,foldlM_cons->Yt,zipIdx_nil->YF,range_succ->YG,foldr_cons->YH
open Option renaming bind_eq_some_iff->Ï,map_eq_some_iff->Ð,map->S9,map_eq_some_iff->UD,ne_none_iff_exists'->VS,isSome_iff_exists->Wd,map_none->Yb,map_map->Yp
open Nat renaming le_refl->Ñ,ne_of_lt->Ý,lt_of_lt_of_le->Þ,le_trans->ê,lt_irrefl->Qt,add_sub_cancel_left->Qx,le_of_lt->Rj,lt_succ_of_lt->Ry,le_add_right->RY,ne_of_gt->R0,zero_le->Se,lt_succ_self->Sg,lt_of_le_of_lt->Sy,min_eq_left->SE,max_eq_right->Tf,min_eq_right->Ux,pow_le_pow_right->UK,le_total->Vs,le_of_eq->Vt,succ_le_succ->VN,not_lt_zero->V5,max_eq_left->V6,zero_add->Wv,lt_of_succ_lt_succ->W9,blt->Xa,eq_of_beq_eq_true->Xn,pow_lt_pow_right->XB,not_lt->Ye,eq_zero_or_pos->Yg,max->Yq,min_le_right->YD,le_max_right->YE,strongRecOn->YX,le_max_left->YY
open Int renaming toNat_natCast->ä,le_of_lt->QI,le_trans->Q6,mul_le_mul_of_nonneg_left->Rn,eq_ofNat_of_zero_le->Rw,lt_toNat->RG,mul_pos->SK,mul_comm->Tt,natCast_pow->TN,ofNat_lt->Ut,mul_le_mul->Uw,lt_of_le_of_lt->Vc,mul_nonneg->Vi,mul_assoc->VO,ediv_nonneg->V8,mul_ediv_mul_of_pos->WU,pow_add->Xi,natAbs_dvd_natAbs->Xq,mul_ediv_cancel'->XD,toNat_of_nonneg->XU,gcd_zero_right->Yj,gcd_dvd_right->Yu,gcd_dvd_left->YJ
open ForInStep renaming yield->å,done->í
open PySem.Value renaming none->è,ref->ò,type->QU,bool->Tc,isInt->Tu,builtin->Wq,notImplemented->W6,int->X8
open PySem.NameKind renaming free->ù,cell->RD
open PySem.Challenge renaming pw_tiechances_k88_whole_put_together->ú
open Array renaming getElem?_toList->û,extract->RI,getElem?_eq_getElem->Sa,length_toList->Sw,getD_eq_getD_getElem?->S5,toArray_toList->Ts,map_extract->TQ,size->UY,setIfInBounds->U5,toList_inj->Vu,map_append->Vv,size_map->Wx,mk->Xg,push->Xh,toList_append->Xu,append_assoc->XF,size_append->XY,isEmpty_iff->XZ,toList_map->Yl
open Option.some renaming inj->gV,injEq->Sk
open False renaming elim->My
open PySem.Obj renaming mapSeq->Qs,putSet->Yc,data_mapFields->Yd
open PyProof.Rows renaming callWith_type1->QA,seqObj->QW,SortSt->QX,slot_tuple_getitem->QZ,IntsAre->SH,SortKind->SV,listItems_at->Tz,envOfC->T2,AllBare->Um,IsTup->UE,oneType'->U6,pendingOf->Vf,listUpdate_at->VF,assignInOrder_cons->VL,Keyed->V7,bubble->Wn,get?_update_seq->WG,subscriptTail_builtinR->X0,keyLt'->X4,mirror->Y7
open PySem.Str renaming ofString->QH
open Ne renaming symm->QQ
open PySem.Around renaming under_plainId->QV,frames_deeper->WY
open PySem.Builtin.Range renaming rangeSize->Rf,small->T8
open PySem.Builtin.List renaming listExtendWith->Rl,listSameRef->Vo
open PySem.Heap.SameBut renaming update->RC
open List.Pairwise renaming filter->RS,imp_of_mem->Va,map->Wg
open PyProof.Rows.KeyOrd renaming kle_refl->RU,kle_of_klt->Tq,kle_trans->Vm
open PySem.F renaming slot_tuple_iterator_next->Sd,called_set->Sn,args_tuple_add_2->To,plainAttrs_list->TH,entry_tuple_add->TJ,slot_tuple_add->T5,slot_tuple_lt->Uh,called_tuple->Us,slot_zip_next->UH,excBase_ValueError->VM,type_list_append->V3,slot_list_append->V4,plain_tuple_new->Wa,plain_list_iadd->Wb,args_tuple_lt_2->Wc,entry_tuple_lt->Wt,args_tuple_iterator_next_1->Wu,entry_tuple_iterator_next->Wz,plain_list_iadd->Y2,args_zip_next_1->Y3
open PySem.W.Looks renaming ld->Sr,of_pure->VH,here->V2
open List.cons renaming inj->SG
open PyProof.Rows.SortSt renaming mk'->SN
open Array.Perm renaming refl->SQ
open PySem.Builtin.SmallTypes renaming ownedTupleIsFree->SW,nextOf->Vh,ownedTupleHandOut->VB
open PySem.SetTable renaming below->S1,insertAt->W7,grown->XO
open PySem.AutoSeq1 renaming wpAny_loadPart'->S6,sub_tuple_tuple->VT
open List.Perm renaming eq_of_pairwise->Td,swap->XC
open PySem.Calls renaming Name_function_global->Te,spliced_nil->Vd,call_function_entry->Wh,loadGlobal_global->WA,evalArgs_plain->Xe,spliced_cons->XE
open Prod.mk renaming injEq->Tp
open PySem.Builtin.Tuple renaming tupleExact->Tr,tupleCompareSizes->Vz
open PySem.W.KasT renaming ret->Ug,ask->Y0
open PySem.PyData renaming depthAll->Ui,eqv->VR,canLayAll0->XA,eqvAll->YC
open PyProof.Rows.F renaming plain_set_update_loop->Uu,entry_set_update_loop->Xr
open PySem.Builtin.Slice renaming slicePlaces->UM,sliceAdjust->VW
open Sum renaming inr->UP,inl->UQ
open List.Nodup renaming length_le_of_subset->UT
open Iff renaming rfl->UU,trans->YK
open True renaming intro->UZ
open PySem.pickOrder renaming go->VX
open PySem.Shared renaming TypeIs->V9,heap->WN
open PySem.Builtin.Int renaming intBits->Wi
open PySem.IsRange renaming new->WI
open Eq renaming trans->XW
open PySem.Code renaming quiet_builtin->XX
open PyProof.Rows.IsTup renaming new->Yi
open PySem.Builtin.Frozenset renaming updateFrom->YM,slot0->YN,sizeOf->YO,newClass->YQ,addrOf->YR
open Std.Legacy.Range renaming size->YT,forIn_eq_forIn_range'->YU
open PyProof.Rows.LSm renaming range_all->YV
open Prod renaming ext->YW
open List.eraseDupsBy renaming loop->YZ
abbrev Zh:=List Nat
abbrev Zi:=List Int
abbrev Zj:=List Å
abbrev Zk:=List PySem.Str
abbrev Zl:=Option Ì
abbrev Zm:=List Ù
abbrev Zn:=Option Å
abbrev Zo:=Array Å
abbrev Zp:=Option Int
abbrev Zq:=Array Nat
abbrev Zr:=List Ì
abbrev Zs:=Option Bool
abbrev Zt:=Option Nat
local macro_rules
|`(command|def $i:declId $s:optDeclSig $v)=>`(noncomputable def $i:declId $s:optDeclSig $v)
|`(command|abbrev $i:declId $s:optDeclSig $v)=>`(noncomputable abbrev $i:declId $s:optDeclSig $v)
open PySem.W (methodObj hideAll hideAll_get of_hideAll callWith_K cellsFrom_some fnOf codeRec_of kia_one envX kla_fn codeHd_of_K kla_obj kla_callFunE kla_codeExpr callWith_of mg_none_of mg_of view)
open PySem.Heap (lt_size size_push)
open List (range filterMap_cons mem_cons_self mem_cons_of_mem mem_append_left mem_append_right append_nil of_mem_zip replicate length_take mem_of_getElem? length_append length_map size_toArray length_drop map_nil map_cons length_set reverse_cons lookup_cons forIn_cons toArray forIn_nil mem_cons not_mem_nil ext_getElem range' map_toArray length_nil nil_append take_of_length_le append_assoc length_range zip_cons_cons length_cons cons_append length_eraseIdx_of_lt isEmpty_nil map_id all_nil mapM_cons map_congr_left getElem_mem all_map all_eq_true all_cons range_eq_range' map_take map_drop mem_of_mem_take mem_of_mem_drop drop_length drop_eq_getElem_cons mem_range perm_ext_iff_of_nodup mem_append getElem_range filter_cons pairwise_lt_range nodup_range mem_filter filter_map length_filter_le mem_map getElem_map map_id' length_eraseIdx)
open Array (length_toList toList getD size_map map_extract push extract setIfInBounds toArray_toList)
open Nat (ne_of_gt zero_le le_add_right ble beq lt_succ_of_lt lt_succ_self zero_add min_eq_left min_eq_right mul_add add_sub_cancel_left max_eq_right rec)
open Int (mul_one toNat_natCast emod_nonneg emod_lt_of_pos mul_comm gcd gcd_comm natCast_pow eq_ofNat_of_zero_le mul_nonneg mul_le_mul mul_pos pow_add mul_assoc mul_zero)
open PyProof.Rows (lt_int)
open PySem.Builtin.Slice (sliceAdjust slicePlaces sliceApplied)
open PySem.Builtin.Tuple (tupleItemsOf tupleExact tupleCompareSizes tupleIsExact)
open Bool (and_eq_true false_eq_true not_eq_true' or_eq_true not_eq_false')
open Option (getD_none map_some map_eq_some_iff)
open PySem.Builtin.SmallTypes (nextOf ownedTupleIsFree ownedTupleHandOut)
set_option bootstrap.genMatcherCode false
set_option compiler.extract_closed false
set_option genInjectivity false
set_option genSizeOf false
set_option autoImplicit true
set_option relaxedAutoImplicit true
set_option Elab.async false
set_option linter.all false
set_option maxRecDepth 100000
namespace L2
open PySem PySem.Spec PyProof.Rows
abbrev Key:=Sum Int Str
def GZ:Key->Å->Bool
 |.inl k,v=>Tu k v|.inr x,v=>Å.isStrOf x v
def NS(w:ó):Key->Int
 |.inl k=>hashInt k|.inr x=>hashStr w x
theorem bQ:∀ {k:Key}{v:Å},GZ k v=true->(∃ i t,k=UQ i/\v=X8 i t)\/(∃ x t,k=UP x/\v=Å.str x t)
 |.inl i,v,h=>by
  obtain⟨t,e⟩:=Value.isInt_shape (k:=i) (v:=v) h;exact .inl ⟨i,t,rfl,e⟩
 |.inr x,v,h=>by
  obtain⟨t,e⟩:=Value.isStrOf_shape (x:=x) (v:=v) h;exact .inr ⟨x,t,rfl,e⟩
theorem HE(a b:Int):decide ((UQ a:Key)=UQ b)=(a == b):=by
 by_cases e:a=b
 ·subst e;simp
 ·have h:¬ (UQ a:Key)=UQ b:=λq=>e (UQ.inj q);rw[decide_eq_false h];exact(beq_eq_false_iff_ne.mpr e).symm
theorem HF(a b:Str):decide ((UP a:Key)=UP b)=decide (a=b):=by
 by_cases e:a=b
 ·subst e;simp
 ·have h:¬ (UP a:Key)=UP b:=λq=>e (UP.inj q);rw[decide_eq_false h,decide_eq_false e]
theorem HG(a:Int)(b:Str):decide ((UQ a:Key)=UP b)=false:=decide_eq_false (λq=>nomatch q)
theorem HH(a:Str)(b:Int):decide ((UP a:Key)=UQ b)=false:=decide_eq_false (λq=>nomatch q)
def yg(prog:â)(w:ó):PySem.KeyKind prog w Key where
 is:=GZ
 hash:=NS w
 inj:=λv a b ha hb=>by
  rcases bQ ha with ⟨i,t,rfl,rfl⟩ | ⟨x,t,rfl,rfl⟩
  ·rcases bQ hb with ⟨j,u,rfl,e⟩ | ⟨y,u,rfl,e⟩
   ·injection e with e1 _;rw[e1]
   ·exact nomatch e
  ·rcases bQ hb with ⟨j,u,rfl,e⟩ | ⟨y,u,rfl,e⟩
   ·exact nomatch e
   ·injection e with e1 _;rw[e1]
 byValue:=λk v h=>by
  rcases bQ h with ⟨i,t,rfl,rfl⟩ | ⟨x,t,rfl,rfl⟩ <;> rfl
 pyHash:=λhv h=>by
  rcases bQ hv with ⟨i,t,rfl,rfl⟩ | ⟨x,t,rfl,rfl⟩
  ·exact wpAny_pyHash_int h
  ·exact wpAny_pyHash_str h
 eqBool:=λhu hv h=>by
  rcases bQ hu with ⟨i,t,rfl,rfl⟩ | ⟨x,t,rfl,rfl⟩
  ·rcases bQ hv with ⟨j,u,rfl,rfl⟩ | ⟨y,u,rfl,rfl⟩
   ·rw[HE] at h;exact wpAny_eqBool_int h
   ·rw[HG] at h;exact SeqAt.EqAt.int_str i t y u _ _ _ _ h
  ·rcases bQ hv with ⟨j,u,rfl,rfl⟩ | ⟨y,u,rfl,rfl⟩
   ·rw[HH] at h;exact SeqAt.EqAt.str_int x t j u _ _ _ _ h
   ·rw[HF] at h;exact wpAny_eqBool_str h
 «strs»:=λk x t v h=>by
  rcases bQ h with ⟨i,u,rfl,e⟩ | ⟨y,u,rfl,e⟩
  ·exact nomatch e
  ·injection e with e1 _;subst e1;cases v <;> rfl
inductive V where
 |bp | bl (b:Bool) | int (i:Int) | str (x:Str) | byt (b:Array UInt8) | d6 (b:UInt64) | ref (a:Addr) | ty (n:String)
 deriving DecidableEq
def RelV:V->Å->Prop
 |.bp,u=>u=è|.bl b,u=>u=Tc b|.int i,u=>∃ t,u=X8 i t|.str x,u=>∃ t,u=Å.str x t|.byt b,u=>∃ t,u=Å.bytes b t|.d6 b,u=>∃ t,u=Å.float b t|.ref a,u=>u=ò a|.ty n,u=>u=QU n
abbrev Vals:List V->Zj->Prop:=Rx RelV
def Vals.length{xs:List V}{us:Zj}(r:Vals xs us):xs.length=us.length:=Rx.length r
theorem Vals.get:∀ {xs:List V}{us:Zj}{i:Nat}{x:V},Vals xs us->xs[i]?=some x->∃ u,us[i]?=some u/\RelV x u
 |_,_,_,_,.nil,e=>by simp at e|_,_,0,_,.cons r _,e=>by simp at e;subst e;exact⟨_,rfl,r⟩
 |_,_,i + 1,x,.cons _ t,e=>by
  obtain⟨u,h1,h2⟩:=Vals.get (i:=i) (x:=x) t (by simpa using e)
  exact⟨u,by simpa using h1,h2⟩
theorem Vals.set(r:RelV x u):∀ {xs:List V}{us:Zj} (i:Nat),Vals xs us->Vals (xs.set i x) (us.set i u)
 |_,_,_,.nil=>.nil|_,_,0,.cons _ t=>.cons r t|_,_,i + 1,.cons q t=>.cons q (Vals.set r i t)
theorem Vals.append:∀ {xs ys:List V}{us ws:Zj},Vals xs us->Vals ys ws->Vals (xs++ys) (us++ws)
 |_,_,_,_,.nil,s=>s|_,_,_,_,.cons r t,s=>.cons r (Vals.append t s)
theorem Vals.take:∀ {xs:List V}{us:Zj} (n:Nat),Vals xs us->Vals (xs.take n) (us.take n)
 |_,_,0,_=>.nil|_,_,_ + 1,.nil=>.nil|_,_,n + 1,.cons r t=>.cons r (Vals.take n t)
theorem Vals.drop:∀ {xs:List V}{us:Zj} (n:Nat),Vals xs us->Vals (xs.drop n) (us.drop n)
 |_,_,0,r=>r|_,_,_ + 1,.nil=>.nil|_,_,n + 1,.cons _ t=>Vals.drop n t
def KY:Option V->Zn->Prop
 |some v,some u=>RelV v u|none,none=>True|_,_=>False
def KV{κ:Type}:List (κ × V)->List (κ × Å)->Prop:=Rx λ(p:κ × V) (q:κ × Å)=>p.1=q.1/\RelV p.2 q.2
def kV:Key->V
 |.inl i=>.int i|.inr x=>.str x
inductive HO where
 |lst (xs:List V)
 |tup (xs:List V)
 |dK (kvs:List (Key × V)) | dT (kvs:List (List Key × V))
 |set (S:Int->Bool) (n:Nat)
 |ins (C dx:Addr) (fs:List (Str × V))
 |own (x:Addr)
 |xd (fs:List (Str × V))
 |met (f x:Addr)
 |pI (lo hi:Int)
 |frz (o:Obj) (u:HO)
 |tbl (ps:Array Value)
 |ext (φ:Heap->Prop)
abbrev Hp:=Ì->Option HO
def upd(H:Hp)(a:Ì)(o:HO):Hp:=λb=>if b=a then some o else H b
theorem aO:upd H a o a=some o:=by unfold upd;rw[if_pos rfl]
theorem ai(h:b≠a):upd H a o b=H b:=by unfold upd;rw[if_neg h]
theorem aB{H:Hp}{a b:Ì}{o:HO}(h:H a=some o)(h':H b=none):a≠b:=by
 intro e;subst e;rw[h] at h';cases h'
section
variable (P:â) (w:ó)
def c9(H:Hp)(h:ø)(a:Ì):HO->Prop
 |.lst xs=>xs.length<=sizeLine/\∃ (ar:Zj) (n:Nat),Vals xs ar/\h.get? a=some { cls:=.type "list",data:=.seq ar.toArray n }|.tup xs=>xs.length<=sizeLine/\∃ ar:Zj,Vals xs ar/\UE h a ar.toArray|.dK kvs=>kvs.length<=sizeLine/\(a == Y5)=false/\∃ vs,KV kvs vs/\h.DictOf (yg P w) a vs
 |.dT kvs=>kvs.length<=sizeLine/\(a == Y5)=false/\∃ xs:List (List Key × Ì × Å),
   Rx (λ(p:List Key × V) (q:List Key × Ì × Å)=>p.1=q.1/\H q.2.1=some (.tup (p.1.map kV))/\RelV p.2 q.2.2) kvs xs /\
   ∃ o es ep,h.get? a=some o/\o.ExactDict/\o.data=.dict es ep/\es.toList=xs.map (entryOfKey (Ve (yg P w)))/\(xs.map (·.1)).Nodup
 |.set S n=>h.SetOf (RA P w) a S n
 |.ins C dx fs=>H dx=some (.own a)/\fs.length<=1000/\dx≠a/\h.get? a=some (PySem.W.instObj C dx) /\
   ∃ mA,h.Ns1 dx mA/\(∀ f,KY (fs.lookup f) (mA f))/\PySem.Within mA (fs.map (·.1))
 |.own _=>∃ o,h.get? a=some o|.xd fs=>∃ mA,h.Ns1 a mA/\∀ f,KY (fs.lookup f) (mA f)|.pI lo hi=>∃ t u v,h.get? a=some { cls:=.type "range",data:=.fields #[.int lo t,.int hi u,.int 1 v] }|.frz o u=>h.get? a=some o/\c9 H h a u|.tbl ps=>h.get? a=some { cls:=.none,data:=.fields ps }|.met f x=>h.get? a=some (W2 (.ref f) (.ref x))|.ext φ=>φ h/\(∃ o,h.get? a=some o)/\∀ h1 h2:ø,φ h1->(∀ o,h1.get? a=some o->h2.get? a=some o)->φ h2
def jD(H:Hp)(h:ø):Prop:=∀ a o,H a=some o->c9 P w H h a o
end
section
variable {P:â}{w:ó}{H H':Hp}{h h':ø}{a:Ì}{o:HO}
theorem c9.lt(x:c9 P w H h a o):a < h.objs.size:=by
 cases o with
 |lst xs=>obtain⟨_,_,_,_,e⟩:=x;exact á e
 |tup xs=>obtain⟨_,_,_,p⟩:=x;exact p.lt
 |dK kvs=>obtain⟨_,_,_,_,o,_,_,e,_⟩:=x;exact á e
 |dT kvs=>obtain⟨_,_,_,_,o,_,_,e,_⟩:=x;exact á e
 |set S n=>obtain⟨o,_,_,_,e,_⟩:=x;exact á e
 |ins C dx fs=>obtain⟨_,_,_,e,_⟩:=x;exact á e
 |own y=>obtain⟨_,e⟩:=x;exact á e
 |xd fs=>obtain⟨_,⟨_,_,_,e,_⟩,_⟩:=x;exact á e
 |pI lo hi=>obtain⟨_,_,_,e⟩:=x;exact á e
 |frz ob u=>obtain⟨e,_⟩:=x;exact á e
 |tbl ps=>exact á (show h.get? a=some _ from x)|met f y=>exact á (show h.get? a=some _ from x)|ext φ=>obtain⟨_,⟨_,e⟩,_⟩:=x;exact á e
theorem Rx.zP{α β:Type}{F G:α->β->Prop}:∀ {l₁:List α}{l₂:List β},Rx F l₁ l₂->(∀ a b,F a b->G a b)->Rx G l₁ l₂
 |_,_,.nil,_=>.nil|_,_,.cons r t,f=>.cons (f _ _ r) (Rx.zP t f)
theorem c9.mR(x:c9 P w H h a o)(k:∀ b u,(b=a\/H b=some (.own a))->h.get? b=some u->h'.get? b=some u)
 (ho:∀ b,H b=some (.own a)->H' b=some (.own a)) (ht:∀ b xs,H b=some (.tup xs)->H' b=some (.tup xs)):c9 P w H' h' a o:=by
 induction o with
 |lst xs=>obtain⟨z,ar,n,r,e⟩:=x;exact⟨z,ar,n,r,k _ _ (.inl rfl) e⟩
 |tup xs=>obtain⟨z,ar,r,ob,e,c⟩:=x;exact⟨z,ar,r,ob,k _ _ (.inl rfl) e,c⟩
 |dK kvs=>obtain⟨z,y,vs,r,ob,es,ep,e,c⟩:=x;exact⟨z,y,vs,r,ob,es,ep,k _ _ (.inl rfl) e,c⟩
 |dT kvs =>
  obtain⟨z,y,xs,r,ob,es,ep,e,c⟩:=x;exact⟨z,y,xs,Rx.zP r λp q z=>⟨z.1,ht _ _ z.2.1,z.2.2⟩,ob,es,ep,k _ _ (.inl rfl) e,c⟩
 |set S n=>obtain⟨ob,es,ep,t,e,c⟩:=x;exact⟨ob,es,ep,t,k _ _ (.inl rfl) e,c⟩
 |ins C dx fs =>
  obtain⟨d,z,ne,e,mA,⟨od,es,ep,e2,c⟩,r⟩:=x;exact⟨ho _ d,z,ne,k _ _ (.inl rfl) e,mA,⟨od,es,ep,k _ _ (.inr d) e2,c⟩,r⟩
 |own y=>obtain⟨ob,e⟩:=x;exact⟨ob,k _ _ (.inl rfl) e⟩
 |xd fs=>obtain⟨mA,⟨od,es,ep,e,c⟩,r⟩:=x;exact⟨mA,⟨od,es,ep,k _ _ (.inl rfl) e,c⟩,r⟩
 |pI lo hi=>obtain⟨t,u,v,e⟩:=x;exact⟨t,u,v,k _ _ (.inl rfl) e⟩
 |frz ob u ih=>obtain⟨e,q⟩:=x;exact⟨k _ _ (.inl rfl) e,ih q⟩
 |tbl ps =>
  have e:h.get? a=some { cls:=.none,data:=.fields ps }:=x;show h'.get? a=some { cls:=.none,data:=.fields ps };exact k a _ (.inl rfl) e
 |met f y =>
  have e:h.get? a=some (W2 (.ref f) (.ref y)):=x;show h'.get? a=some (W2 (.ref f) (.ref y));exact k a _ (.inl rfl) e
 |ext φ=>obtain⟨p,⟨o,e⟩,st⟩:=x;exact⟨st _ _ p λo q=>k _ _ (.inl rfl) q,⟨o,k _ _ (.inl rfl) e⟩,st⟩
def jD.lt(x:jD P w H h)(e:H a=some o):a < h.objs.size:=(x a o e).lt
theorem jD.fresh(x:jD P w H h)(e:h.objs.size<=a):H a=none:=by
 cases q:H a with
 |none=>rfl|some u=>exact absurd (Þ (x.lt q) e) (Qt _)
def jD.kept(x:jD P w H h)(k:∀ b u,h.get? b=some u->h'.get? b=some u):jD P w H h':=λa o e =>
 (x a o e).mR (λb u _ q=>k b u q) (λ_ q=>q) λ_ _ q=>q
theorem jD.laid(x:jD P w H h)(k:∀ b u,h.get? b=some u->h'.get? b=some u)(hp:h.objs.size<=a)(new:c9 P w (upd H a o) h' a o):jD P w (upd H a o) h':=λb u e=>by
 have hn:=x.fresh hp;by_cases hb:b=a
 ·subst hb;rw[aO] at e;cases e;exact new
 ·rw[ai hb] at e;exact(x b u e).mR (λc v _ q=>k c v q) (λc q=>by rw[ai (aB q hn)];exact q) λc xs q=>by rw[ai (aB q hn)];exact q
end
def Rd(H:Hp)(a:Ì)(u:HO):Prop:=H a=some u\/∃ o,H a=some (.frz o u)
theorem Rd.ok(r:Rd H a u)(x:jD P w H h):c9 P w H h a u:=by
 rcases r with r | ⟨o,r⟩
 ·exact x a u r
 ·obtain⟨_,q⟩:=x a _ r;exact q
def Nu:Option HO->Prop
 |some (.lst _)=>True|some (.dK _)=>True|some (.dT _)=>True|some (.set _ _)=>True|some (.ins _ _ _)=>True|some (.ext _)=>True|_=>False
section
variable {P:â}{w:ó}{H:Hp}{h h':ø}{x e:Ì}{o':HO}
theorem jD.write(ok:jD P w H h)(mu:Nu (H x))(he:e=x\/H e=some (.own x))(k:∀ b u,b≠e->h.get? b=some u->h'.get? b=some u)(heo:∃ u,h'.get? e=some u)
 (new:c9 P w (upd H x o') h' x o'):jD P w (upd H x o') h':=λb u q=>by
 have nown:∀ c y,H c=some (.own y)->c≠x:=λc y r z=>by subst z;rw[r] at mu;exact mu
 have ntup:∀ c xs,H c=some (.tup xs)->c≠x:=λc xs r z=>by subst z;rw[r] at mu;exact mu
 by_cases hb:b=x
 ·subst hb;rw[aO] at q;cases q;exact new
 ·rw[ai hb] at q;by_cases hbe:b=e
  ·have q':H b=some (.own x):=by
    rcases he with z | z
    ·exact absurd (hbe.trans z) hb
    ·rw[hbe];exact z
   rw[q] at q';cases q';obtain⟨v,hv⟩:=heo;exact⟨v,by rw[hbe];exact hv⟩
  ·refine(ok b u q).mR (λc v hc r=>k c v ?_ r) (λc r=>by rw[ai (nown c b r)];exact r) λc xs r=>by rw[ai (ntup c xs r)];exact r
   rcases hc with rfl | hc
   ·exact hbe
   ·rintro rfl;rcases he with z | z
    ·exact nown c b hc z
    ·rw[hc] at z;cases z;exact hb rfl
end
structure Un(fs ex:List Addr)(H H':Hp)(h h':Heap):Prop where
 keep:∀ b o,h.get? b=some o->H b=none->b ∉ fs->b ∉ ex->h'.get? b=some o
 slot:∀ b o,h.get? b=some o->H b=none->b∈fs->b ∉ ex->∃ sl,h'.get? b=some { o with slots:=sl }
 free:∀ b o,h.get? b=some o->H b=none->b ∉ ex->H' b=none
 there:∀ b o,h.get? b=some o->b ∉ ex->∃ o',h'.get? b=some o'
 tups:∀ b xs,H b=some (.tup xs)->H' b=some (.tup xs)
 frzs:∀ b o u,H b=some (.frz o u)->H' b=some (.frz o u)
 tbls:∀ b ps,H b=some (.tbl ps)->∃ more,H' b=some (.tbl (ps++more))
section
variable {fs fs' ex ex':Zr}{H H1 H2:Hp}{h h1 h2 h':ø}{a x e:Ì}{o:HO}
theorem Un.any(u:Un fs ex H H1 h h1){b:Ì}{ob:Obj}(q:h.get? b=some ob)(n:H b=none)(hx:b ∉ ex):∃ sl,h1.get? b=some { ob with slots:=sl }:=by
 by_cases hb:b∈fs
 ·exact u.slot b ob q n hb hx
 ·exact⟨ob.slots,u.keep b ob q n hb hx⟩
theorem Un.trans(a:Un fs ex H H1 h h1)(b:Un fs ex H1 H2 h1 h2):Un fs ex H H2 h h2 where
 keep:=λc ob q n hc hx=>b.keep c ob (a.keep c ob q n hc hx) (a.free c ob q n hx) hc hx
 slot:=λc ob q n hc hx=>by
  obtain⟨sl,e1⟩:=a.slot c ob q n hc hx;obtain⟨sl',e2⟩:=b.slot c _ e1 (a.free c ob q n hx) hc hx;exact⟨sl',e2⟩
 free:=λc ob q n hx=>by
  obtain⟨o',e1⟩:=a.there c ob q hx;exact b.free c o' e1 (a.free c ob q n hx) hx
 there:=λc ob q hx=>by
  obtain⟨o',e1⟩:=a.there c ob q hx;exact b.there c o' e1 hx
 tups:=λc xs q=>b.tups c xs (a.tups c xs q)
 frzs:=λc ob xs q=>b.frzs c ob xs (a.frzs c ob xs q)
 tbls:=λc ps q=>by
  obtain⟨m1,e1⟩:=a.tbls c ps q;obtain⟨m2,e2⟩:=b.tbls c _ e1;exact⟨m1++m2,by rw[e2,XF]⟩
def Un.kept(k:∀ b u,h.get? b=some u->h'.get? b=some u):Un fs ex H H h h':=
 ⟨λb ob q _ _ _=>k b ob q,λb ob q _ _ _=>⟨ob.slots,k b ob q⟩,λ_ _ _ n _=>n,λb ob q _=>⟨ob,k b ob q⟩,λ_ _ q=>q,λ_ _ _ q=>q,λ_ ps q=>⟨#[],by rw[q];simp⟩⟩
def Un.refl:Un fs ex H H h h:=Un.kept λ_ _ q=>q
theorem Un.laid(k:∀ b u,h.get? b=some u->h'.get? b=some u)(hp:h.objs.size<=a)(hn:H a=none):Un fs ex H (upd H a o) h h' where
 keep:=λb u q _ _ _=>k b u q
 slot:=λb u q _ _ _=>⟨u.slots,k b u q⟩
 free:=λb u q n _=>by rw[ai (Ý (Þ (á q) hp))];exact n
 there:=λb u q _=>⟨u,k b u q⟩
 tups:=λb xs q=>by rw[ai (aB q hn)];exact q
 frzs:=λb u xs q=>by rw[ai (aB q hn)];exact q
 tbls:=λb ps q=>⟨#[],by rw[ai (aB q hn),q];simp⟩
theorem Un.write(mu:Nu (H x))(he:e=x\/H e=some (.own x))(k:∀ b u,b≠e->h.get? b=some u->h'.get? b=some u)(heo:∃ u,h'.get? e=some u):Un fs ex H (upd H x o) h h':=by
 have hx:∀ b,H b=none->b≠x:=λb n z=>by subst z;rw[n] at mu;exact mu
 have hb:∀ b,H b=none->b≠e:=λb n z=>by
  subst z;rcases he with r | r
  ·exact hx b n r
  ·rw[n] at r;cases r
 have hm:∀ b u,H b=some u->¬ Nu (some u)->b≠x:=λb u q nm z=>by subst z;rw[q] at mu;exact nm mu
 refine⟨λb u q n _ _=>k b u (hb b n) q,λb u q n _ _=>⟨u.slots,k b u (hb b n) q⟩,λb u q n _=>by rw[ai (hx b n)];exact n,λb u q _=>?_,
  λb xs q=>by rw[ai (hm b _ q λz=>z)];exact q,λb u xs q=>by rw[ai (hm b _ q λz=>z)];exact q,λb ps q=>⟨#[],by rw[ai (hm b _ q λz=>z),q];simp⟩⟩
 by_cases hbe:b=e
 ·subst hbe;exact heo
 ·exact⟨u,k b u hbe q⟩
def Un.mono(u:Un fs ex H H1 h h1)(hs:∀ b∈fs,b∈fs')(hx:∀ b∈ex,b∈ex'):Un fs' ex' H H1 h h1:=
 ⟨λb ob q n hb he=>u.keep b ob q n (λz=>hb (hs b z)) λz=>he (hx b z),λ_ _ q n _ he=>u.any q n λz=>he (hx _ z),λb ob q n he=>u.free b ob q n λz=>he (hx b z),λb ob q he=>u.there b ob q λz=>he (hx b z),u.tups,u.frzs,u.tbls⟩
end
def HI(h:ø)(H:Hp):List Addr:=(Ö h.objs.size).filter λa=>(H a).isSome
def rJ(h:ø)(H:Hp):Heap:=hideAll h (HI h H)
def zQ(h:ø)(H:Hp):(rJ h H).objs.size=h.objs.size:=PySem.W.hideAll_size _ _
def nH(e:h.get? b=some o)(n:H b=none):(rJ h H).get? b=some o:=
 hideAll_get _ e λhm=>by
  have q:(H b).isSome=true:=(æ.mp hm).2;rw[n] at q;simp at q
theorem Ey(e:(rJ h H).get? b=some o):h.get? b=some o/\H b=none:=by
 have e':h.get? b=some o:=of_hideAll (HI h H) e;refine⟨e',?_⟩;cases q:H b with
 |none=>rfl
 |some x =>
  have hm:b∈HI h H:=æ.mpr ⟨Î.mpr (á e'),by simp[q]⟩
  have z:(rJ h H).get? b=none:=PySem.W.hideAll_none (HI h H) hm;rw[z] at e;cases e
structure Mod(K:PySem.W.Frag)(mg:Str->Option Value)(base:Heap):Prop where
 kin:K.In base
 glob:base.Ns mainGlobals mg
 blt:∃ mb,base.Ns builtinsNs mb/\∀ x:Str,x≠"__name__"->mb x=bootBuiltins x
 nolimit:base.NoLimit
structure Cx where
 prog:Program
 w:World
 K:PySem.W.Frag
 mg:Str->Option Value
 base:Heap
 A:Around
 N:List Str
 s₀:Shared
 H₀:Hp
 env:Env
 outer:List Env
 stack:List Env
 ex:List Addr
 fn:Str->Bool
 calm:Bool
 pn:List (Addr × Obj)
 xe:Value->Shared->Prop
def hV(l:List Env):List Addr:=l.filterMap (·.frame)
abbrev Cx.fs(X:Cx):List Addr:=hV X.outer
def HJ(sc:tv)(x:Str):Prop:=sc.names.lookup x=some .local\/sc.names.lookup x=some .cell\/sc.names.lookup x=some .free
def Loc(sc:tv)(x:Str):Prop:=sc.names.lookup x=some .local\/sc.names.lookup x=some .cell
def Look(env:Env)(h:ø)(m:Str->Zn)(x:Str)(u:Å):Prop:=
 (env.kindOf x=some .local/\m x=some u)\/((env.kindOf x=some .cell\/env.kindOf x=some .free)/\∃ c,env.cells.lookup x=some c/\h.IsCell c (some u))
structure Cx.Ok(X:Cx):Prop where
 mod:Mod X.K X.mg X.base
 kind:X.env.scope.kind=.function
 glob:X.env.globals=mainGlobals
 blt:X.env.builtins=builtinsNs
 above:X.s₀.heap.objs.size<=X.env.locals
 inj:∀ x y c,X.env.cells.lookup x=some c->X.env.cells.lookup y=some c->x=y
 has:∀ x,(X.env.kindOf x=some .cell\/X.env.kindOf x=some .free)->∃ c,X.env.cells.lookup x=some c
 cab:∀ x c,X.fn x=true->X.env.cells.lookup x=some c->X.s₀.heap.objs.size<=c
 hd:X.calm=true->X.A.handled=none
 frames:X.A.frames=some X.stack
 stk:X.stack=X.outer\/(X.stack=X.env::X.outer/\X.env.frame=some X.env.locals)
 exf:∀ b∈X.ex,b≠X.env.locals/\∀ x c,X.env.cells.lookup x=some c->c≠b
 bs:∀ b o,X.base.get? b=some o->X.s₀.heap.get? b=some o/\X.H₀ b=none
 bsz:X.base.objs.size<=X.s₀.heap.objs.size
 noex:∀ b o,X.base.get? b=some o->b ∉ X.ex
 exfs:∀ b∈X.ex,b ∉ X.fs
 nJ:X.s₀.heap.FunFrames X.base X.outer
 frf:∀ b∈X.fs,X.H₀ b=none
structure Inv(X:Cx)(aa:List (Addr × Obj))(σ:List (Option V))(H:Hp)(s:Shared):Prop where
 ok:X.Ok
 os:s.os=X.s₀.os
 bare:AllBare s.gens
 base:Un X.fs X.ex X.H₀ H X.s₀.heap s.heap
 loc:∃ m,s.heap.Ns X.env.locals m/\∀ (i:Nat) (x:Str) (v:V),X.N[i]?=some x->σ[i]?=some (some v)->HJ X.env.scope x->∃ u,RelV v u/\Look X.env s.heap m x u
 cell:∀ x c,X.env.cells.lookup x=some c->∃ v,s.heap.IsCell c v
 free:H X.env.locals=none
 freeC:∀ x c,X.env.cells.lookup x=some c->H c=none
 pin:∀ p∈X.pn++aa,s.heap.get? p.1=some p.2/\H p.1=none/\p.1≠X.env.locals/\p.1 ∉ X.fs/\∀ v,p.2.data≠.cell v
 aV:jD X.prog X.w H s.heap
 len:σ.length=X.N.length
section
variable {X:Cx}{aa:List (Ì × Obj)}{σ:List (Option V)}{H H':Hp}{s:É}{h':ø}
def Cx.Ok.NT(ok:X.Ok)(e:X.base.get? b=some o):b ∉ X.fs:=λhb=>by
 have:=(ok.nJ.mem hb).1;rw[e] at this;cases this
def Inv.bs(I:Inv X aa σ H s):∀ b o,X.base.get? b=some o->s.heap.get? b=some o/\H b=none:=λb o e =>
 ⟨I.base.keep b o (I.ok.bs b o e).1 (I.ok.bs b o e).2 (I.ok.NT e) (I.ok.noex b o e),I.base.free b o (I.ok.bs b o e).1 (I.ok.bs b o e).2 (I.ok.noex b o e)⟩
def Inv.bk(I:Inv X aa σ H s):∀ b o,X.base.get? b=some o->s.heap.get? b=some o:=λb o e=>(I.bs b o e).1
def Inv.mod(I:Inv X aa σ H s):Mod X.K X.mg X.base:=I.ok.mod
def Inv.t9(I:Inv X aa σ H s):X.K.In s.heap:=I.ok.mod.kin.keeps I.bk
def Inv.lt(I:Inv X aa σ H s):X.env.locals < s.heap.objs.size:=let ⟨_,hn,_⟩:=I.loc;hn.lt
def Inv.sz(I:Inv X aa σ H s):X.s₀.heap.objs.size<=s.heap.objs.size:=ê I.ok.above (Rj I.lt)
def Inv.NU(I:Inv X aa σ H s)(h:s.heap.objs.size<=a):a ∉ X.fs:=λhb=>by
 obtain⟨_,o,ho,_⟩:=I.ok.nJ.mem hb;exact absurd (Þ (á ho) (ê I.sz h)) (Qt _)
def Inv.HK(I:Inv X aa σ H s):∀ x c,X.env.cells.lookup x=some c->c≠X.env.locals:=λx c e z=>by
 obtain⟨v,o,ho,hd⟩:=I.cell x c e;obtain⟨m,⟨o',es,ep,ho',hd',_⟩,_⟩:=I.loc;rw[z,ho'] at ho;cases ho;rw[hd'] at hd;cases hd
theorem Inv.nJ(I:Inv X aa σ H s):s.heap.FunFrames X.base X.outer:=by
 have all:∀ (l:List Env),(∀ b∈hV l,b∈X.fs)->X.s₀.heap.FunFrames X.base l->s.heap.FunFrames X.base l:=by
  intro l
  induction l with
  |nil=>intro _ _;trivial
  |cons env r ih =>
   intro hs hl;obtain⟨hk,⟨L,o,hf,hn,ho,hd⟩,hr⟩:=hl;have hL:L∈X.fs:=hs L (by unfold hV;rw[QC,hf];exact Ë)
   obtain⟨sl,e⟩:=I.base.slot L o ho (I.ok.frf L hL) hL λz=>I.ok.exfs L z hL;exact⟨hk,⟨L,_,hf,hn,e,hd⟩,ih (λb hb=>hs b (by unfold hV;rw[QC,hf];exact È _ hb)) hr⟩
 exact all X.outer (λ_ hb=>hb) I.ok.nJ
theorem Inv.stack(I:Inv X aa σ H s):s.heap.FunFrames X.base X.stack:=by
 rcases I.ok.stk with e | ⟨e,hf⟩
 ·rw[e];exact I.nJ
 ·rw[e];obtain⟨m,hn,_⟩:=I.loc;refine .cons (by rw[I.ok.kind];decide) hf hn ?_ I.nJ
  exact Heap.get?_none_of_le (ê I.ok.bsz I.ok.above)
theorem Inv.wz(I:Inv X aa σ H s):∀ b∈hV X.stack,b∈X.env.locals::X.fs:=λb hb=>by
 rcases I.ok.stk with e | ⟨e,hf⟩
 ·rw[e] at hb;exact È _ hb
 ·rw[e] at hb;unfold hV at hb;rw[QC,hf] at hb;exact hb
theorem Inv.kF(I:Inv X aa σ H s):∀ b∈hV X.stack,H b=none:=λb hb=>by
 rcases ß.mp (I.wz b hb) with e | hb
 ·rw[e];exact I.free
 ·obtain⟨_,o,ho,_⟩:=I.ok.nJ.mem hb;exact I.base.free b o ho (I.ok.frf b hb) λz=>I.ok.exfs b z hb
theorem Inv.step{g':Array YL}{t':Nat}{d':Drawn}{ch:Zr}(I:Inv X aa σ H s)
 (hch:∀ b∈ch,(b∈X.ex\/X.s₀.heap.objs.size<=b)/\b≠X.env.locals/\(∀ x c,X.env.cells.lookup x=some c->c≠b)/\∀ p∈X.pn++aa,p.1≠b)
 (keep:∀ b o,b≠X.env.locals->b ∉ X.fs->b ∉ ch->s.heap.get? b=some o->H b=none->h'.get? b=some o)
 (slot:∀ b o,b≠X.env.locals->b∈X.fs->b ∉ ch->s.heap.get? b=some o->H b=none->∃ sl,h'.get? b=some { o with slots:=sl }) (free:∀ b o,b ∉ ch->s.heap.get? b=some o->H b=none->H' b=none)
 (there:∀ b o,b ∉ ch->s.heap.get? b=some o->∃ o',h'.get? b=some o')
 (tups:∀ b xs,H b=some (.tup xs)->H' b=some (.tup xs)) (frzs:∀ b o u,H b=some (.frz o u)->H' b=some (.frz o u)) (tbls:∀ b ps,H b=some (.tbl ps)->∃ more,H' b=some (.tbl (ps++more)))
 (ns:∀ m,s.heap.Ns X.env.locals m->h'.Ns X.env.locals m) (aV:jD X.prog X.w H' h') (hg:Um g') :
 Inv X aa σ H' { s with heap:=h',gens:=g',drawn:=d',toks:=t' }:=by
 have neL:∀ b o,X.s₀.heap.get? b=some o->b≠X.env.locals:=λb o e=>Ý (Þ (á e) I.ok.above);have neC:∀ b o,X.s₀.heap.get? b=some o->b ∉ X.ex->b ∉ ch:=λb o e hx hb=>by
  rcases (hch b hb).1 with z | z
  ·exact hx z
  ·exact absurd (Þ (á e) z) (Qt _)
 have cellK:∀ x c,X.env.cells.lookup x=some c->∀ v,s.heap.IsCell c v->h'.IsCell c v:=λx c e v ⟨o,ho,hd⟩=>by
  have nch:c ∉ ch:=λz=>(hch c z).2.2.1 x c e rfl;by_cases hc:c∈X.fs
  ·obtain⟨sl,q⟩:=slot c o (I.HK x c e) hc nch ho (I.freeC x c e);exact⟨_,q,hd⟩
  ·exact⟨o,keep c o (I.HK x c e) hc nch ho (I.freeC x c e),hd⟩
 refine⟨I.ok,I.os,hg,⟨λb o e n hb hx=>?_,λb o e n hb hx=>?_,λb o e n hx=>?_,λb o e hx=>?_,λb xs e=>tups b xs (I.base.tups b xs e),λb o xs e=>frzs b o xs (I.base.frzs b o xs e),λb ps e=>?_⟩,?_,λx c e=>?_,?_,λx c e=>?_,λp hp=>?_,aV,I.len⟩
 ·exact keep b o (neL b o e) hb (neC b o e hx) (I.base.keep b o e n hb hx) (I.base.free b o e n hx)
 ·obtain⟨sl,e1⟩:=I.base.slot b o e n hb hx;obtain⟨sl',e2⟩:=slot b _ (neL b o e) hb (neC b o e hx) e1 (I.base.free b o e n hx);exact⟨sl',e2⟩
 ·obtain⟨o',e1⟩:=I.base.there b o e hx;exact free b o' (neC b o e hx) e1 (I.base.free b o e n hx)
 ·obtain⟨o',e1⟩:=I.base.there b o e hx;exact there b o' (neC b o e hx) e1
 ·obtain⟨m1,e1⟩:=I.base.tbls b ps e;obtain⟨m2,e2⟩:=tbls b _ e1;exact⟨m1++m2,by rw[e2,XF]⟩
 ·obtain⟨m,hn,hl⟩:=I.loc;refine⟨m,ns m hn,λi x v e1 e2 e3=>?_⟩;obtain⟨u,r,l⟩:=hl i x v e1 e2 e3;refine⟨u,r,?_⟩;rcases l with l | ⟨k,c,e,z⟩
  ·exact .inl l
  ·exact .inr ⟨k,c,e,cellK x c e _ z⟩
 ·obtain⟨v,z⟩:=I.cell x c e;exact⟨v,cellK x c e v z⟩
 ·obtain⟨m,⟨o,_,_,ho,_⟩,_⟩:=I.loc;exact free _ o (λz=>(hch _ z).2.1 rfl) ho I.free
 ·obtain⟨v,o,ho,hd⟩:=I.cell x c e;exact free c o (λz=>(hch c z).2.2.1 x c e rfl) ho (I.freeC x c e)
 ·obtain⟨e,n,ne,nf,d⟩:=I.pin p hp;have nch:p.1 ∉ ch:=λz=>(hch p.1 z).2.2.2 p hp rfl;exact⟨keep p.1 p.2 ne nf nch e n,free p.1 p.2 nch e n,ne,nf,d⟩
theorem Inv.un{t':Nat}(I:Inv X aa σ H s)(u:Un X.fs [] H H' s.heap h')(aV:jD X.prog X.w H' h'):Inv X aa σ H' { s with heap:=h',toks:=t' }:=by
 obtain⟨m,⟨o,es,ep,ho,r⟩,_⟩:=id I.loc;obtain⟨sl,hL⟩:=u.any ho I.free (by simp)
 exact I.step (g':=s.gens) (d':=s.drawn) (ch:=[]) (λ_ z=>nomatch z) (λb o _ hb _ e n=>u.keep b o e n hb (by simp)) (λb o _ hb _ e n=>u.slot b o e n hb (by simp)) (λb o _ e n=>u.free b o e n (by simp)) (λb o _ e=>u.there b o e (by simp)) u.tups u.frzs u.tbls (λm' hm=>by
  obtain⟨o',es',ep',ho',r'⟩:=hm;rw[ho] at ho';cases ho';exact⟨_,es',ep',hL,r'⟩) aV I.bare
theorem Inv.call{g':Array YL}{t':Nat}{d':Drawn}{ch:Zr}(I:Inv X aa σ H s)(u:Un (hV X.stack) ch H H' s.heap h')(aV:jD X.prog X.w H' h')(hg:Um g')
 (hch:∀ b∈ch,(b∈X.ex\/X.s₀.heap.objs.size<=b)/\b≠X.env.locals/\(∀ x c,X.env.cells.lookup x=some c->c≠b)/\∀ p∈X.pn++aa,p.1≠b) :
 Inv X aa σ H' { s with heap:=h',gens:=g',drawn:=d',toks:=t' }:=by
 obtain⟨m,⟨o,es,ep,ho,r⟩,_⟩:=id I.loc;obtain⟨sl,hL⟩:=u.any ho I.free λz=>(hch _ z).2.1 rfl;exact I.step (ch:=ch) hch (λb o hL hb hc e n=>u.keep b o e n (λz=>(ß.mp (I.wz b z)).elim hL hb) hc) (λb o _ _ hc e n=>u.any e n hc) (λb o hc e n=>u.free b o e n hc) (λb o hc e=>u.there b o e hc) u.tups u.frzs u.tbls (λm' hm=>by
  obtain⟨o',es',ep',ho',r'⟩:=hm;rw[ho] at ho';cases ho';exact⟨_,es',ep',hL,r'⟩) aV hg
theorem Inv.turned{t':Nat}{it:Ì}(I:Inv X aa σ H s)(k:∀ b o,b≠it->s.heap.get? b=some o->h'.get? b=some o)(hn:H it=none)(hL:it≠X.env.locals)
 (h1:it∈X.ex\/X.s₀.heap.objs.size<=it) (h2:∀ x c,X.env.cells.lookup x=some c->c≠it) (h3:∀ p∈X.pn++aa,p.1≠it):Inv X aa σ H { s with heap:=h',toks:=t' }:=by
 have nit:∀ b u,H b=some u->b≠it:=λb u e z=>by rw[z,hn] at e;cases e
 refine I.step (g':=s.gens) (d':=s.drawn) (ch:=[it]) (λb hb=>?_) (λb o _ _ hc e _=>k b o (λz=>hc (by simp[z])) e) (λb o _ _ hc e _=>⟨o.slots,k b o (λz=>hc (by simp[z])) e⟩) (λ_ _ _ _ n=>n)
  (λb o hc e=>⟨o,k b o (λz=>hc (by simp[z])) e⟩) (λ_ _ e=>e) (λ_ _ _ e=>e) (λb ps e=>⟨#[],by rw[e];simp⟩) (λm hm=>?_) (λb u e=>?_) I.bare
 ·have e:b=it:=by simpa using hb
  subst e;exact⟨h1,hL,h2,h3⟩
 ·obtain⟨o,es,ep,ho,r⟩:=hm;exact⟨o,es,ep,k _ o (QQ hL) ho,r⟩
 ·refine(I.aV b u e).mR (λc v hc q=>k c v ?_ q) (λ_ q=>q) λ_ _ q=>q;rcases hc with z | z
  ·rw[z];exact nit b u e
  ·exact nit c _ z
def Inv.tok(I:Inv X aa σ H s)(t:Nat):Inv X aa σ H { s with toks:=t }:=I.un (h':=s.heap) (t':=t) Un.refl I.aV
def Inv.kept{t':Nat}(I:Inv X aa σ H s)(k:∀ b u,s.heap.get? b=some u->h'.get? b=some u):Inv X aa σ H { s with heap:=h',toks:=t' }:=I.un (Un.kept k) (I.aV.kept k)
def Inv.laid{t':Nat}(I:Inv X aa σ H s)(k:∀ b u,s.heap.get? b=some u->h'.get? b=some u)(hp:s.heap.objs.size<=a)(new:c9 X.prog X.w (upd H a o) h' a o) :
 Inv X aa σ (upd H a o) { s with heap:=h',toks:=t' }:=I.un (Un.laid k hp (I.aV.fresh hp)) (I.aV.laid k hp new)
def Inv.write{t':Nat}(I:Inv X aa σ H s)(mu:Nu (H x))(he:e=x\/H e=some (.own x))(k:∀ b u,b≠e->s.heap.get? b=some u->h'.get? b=some u)(heo:∃ u,h'.get? e=some u)
 (new:c9 X.prog X.w (upd H x o) h' x o):Inv X aa σ (upd H x o) { s with heap:=h',toks:=t' }:=I.un (Un.write mu he k heo) (I.aV.write mu he k heo new)
def Inv.kG(I:Inv X aa σ H s)(h:∀ p∈pins',s.heap.get? p.1=some p.2/\H p.1=none/\p.1≠X.env.locals/\p.1 ∉ X.fs/\∀ v,p.2.data≠.cell v):Inv X pins' σ H s:=
 ⟨I.ok,I.os,I.bare,I.base,I.loc,I.cell,I.free,I.freeC,λp hp=>(ë.mp hp).elim (λz=>I.pin p (Rb _ z)) (h p),I.aV,I.len⟩
theorem uf{N:Zk}(hN:N.Nodup){i j:Nat}{x:Str}(a:N[i]?=some x)(b:N[j]?=some x):i=j:=by
 obtain⟨h1,e1⟩:=ç.mp a;obtain⟨h2,e2⟩:=ç.mp b;exact(Ys hN).mp (e1.trans e2.symm)
theorem qr{M:Model}{A:ö}{E:Å->É->Prop}{i:Nat}{x:Str}{v:V}{u:Å}{Q:Unit->É->Prop}(I:Inv X aa σ H s)(hN:X.N.Nodup)(hi:X.N[i]?=some x)(hx:Loc X.env.scope x)(r:RelV v u)
 (h:∀ s',Inv X aa (σ.set i (some v)) H s'->(∃ a,Ul a s.heap s'.heap/\(a=X.env.locals\/X.env.cells.lookup x=some a))->Q () s') (hf:X.fn x=true\/X.env.scope.names.lookup x=some .local:=by first | exact .inl rfl | exact .inr rfl | assumption):Ô M A (storeName X.env x u) Q E s:=by
 obtain⟨m,hn,hl⟩:=id I.loc;have hcls:(X.env.scope.kind == .class || (X.env.scope.kind == .module&&X.env.locals != X.env.globals))=false:=by rw[I.ok.kind];rfl
 have hiσ:i < σ.length:=by rw[I.len];exact(ç.mp hi).1
 have HK:=I.HK;have tracked:∀ {a:Ì}{h':ø},(∃ o,s.heap.get? a=some o/\H a=none)->Ul a s.heap h'->jD X.prog X.w H h':=λ{a h'} ha hs b ob e=>by
  obtain⟨_,_,hfree⟩:=ha;refine(I.aV b ob e).mR (λc w' hc q=>(hs.2 c ?_).trans q) (λ_ q=>q) λ_ _ q=>q;rintro rfl;rcases hc with rfl | hc
  ·rw[hfree] at e;cases e
  ·rw[hfree] at hc;cases hc
 rcases hx with hk | hk
 ·refine wpAny_storeName_local hk hn (λh' hn' hs=>?_) hcls;obtain⟨oL,_,_,hoL,_⟩:=id hn;refine h _ ⟨I.ok,I.os,I.bare,⟨λb o e n hb hx=>?_,λb o e n hb hx=>?_,I.base.free,λb o e hx=>?_,I.base.tups,I.base.frzs,I.base.tbls⟩,⟨_,hn',λj y v' e1 e2 e3=>?_⟩,λy c e=>?_,I.free,I.freeC,λp hp=>?_,tracked ⟨oL,hoL,I.free⟩ hs,by simpa using I.len⟩ ⟨_,hs,.inl rfl⟩
  ·exact(hs.2 b (Ý (Þ (á e) I.ok.above))).trans (I.base.keep b o e n hb hx)
  ·obtain⟨sl,e1⟩:=I.base.slot b o e n hb hx;exact⟨sl,(hs.2 b (Ý (Þ (á e) I.ok.above))).trans e1⟩
  ·obtain⟨o',e1⟩:=I.base.there b o e hx;exact⟨o',(hs.2 b (Ý (Þ (á e) I.ok.above))).trans e1⟩
  ·by_cases hj:j=i
   ·subst hj;rw[hi] at e1;cases e1;rw[ô hiσ] at e2;cases e2;exact⟨u,r,.inl ⟨hk,by simp⟩⟩
   ·rw[ñ (QQ hj)] at e2;obtain⟨u',r',q⟩:=hl j y v' e1 e2 e3;refine⟨u',r',?_⟩;rcases q with ⟨k,e⟩ | ⟨k,c,e,z⟩
    ·refine .inl ⟨k,?_⟩;have:y≠x:=λe=>hj (uf hN e1 (e ▸ hi));simp[this,e]
    ·exact .inr ⟨k,c,e,z.sameBut hs (HK y c e)⟩
  ·obtain⟨w',z⟩:=I.cell y c e;exact⟨w',z.sameBut hs (HK y c e)⟩
  ·obtain⟨e,n,ne,nf,d⟩:=I.pin p hp;exact⟨(hs.2 p.1 ne).trans e,n,ne,nf,d⟩
 ·have hfn:X.fn x=true:=by
   rcases hf with z | z
   ·exact z
   ·rw[z] at hk;cases hk
  obtain⟨c,hc⟩:=I.ok.has x (.inl hk);obtain⟨w',z⟩:=I.cell x c hc;refine wpAny_storeName_cell I.ok.kind hk hc z (λh' hc' hs=>?_);obtain⟨oc,hoc,hocd⟩:=id z;refine h { s with heap:=h' } ⟨I.ok,I.os,I.bare,⟨λb o e n hb hx=>?_,λb o e n hb hx=>?_,I.base.free,λb o e hx=>?_,I.base.tups,I.base.frzs,I.base.tbls⟩,⟨m,hn.sameBut hs (QQ (HK x c hc)),λj y v' e1 e2 e3=>?_⟩,λy c' e=>?_,I.free,I.freeC,λp hp=>?_,tracked ⟨oc,hoc,I.freeC x c hc⟩ hs,by simpa using I.len⟩ ⟨c,hs,.inr hc⟩
  ·exact(hs.2 b (Ý (Þ (á e) (I.ok.cab x c hfn hc)))).trans (I.base.keep b o e n hb hx)
  ·obtain⟨sl,e1⟩:=I.base.slot b o e n hb hx;exact⟨sl,(hs.2 b (Ý (Þ (á e) (I.ok.cab x c hfn hc)))).trans e1⟩
  ·obtain⟨o',e1⟩:=I.base.there b o e hx;exact⟨o',(hs.2 b (Ý (Þ (á e) (I.ok.cab x c hfn hc)))).trans e1⟩
  ·by_cases hj:j=i
   ·subst hj;rw[hi] at e1;cases e1;rw[ô hiσ] at e2;cases e2;exact⟨u,r,.inr ⟨.inl hk,c,hc,hc'⟩⟩
   ·rw[ñ (QQ hj)] at e2;obtain⟨u',r',q⟩:=hl j y v' e1 e2 e3;refine⟨u',r',?_⟩;rcases q with q | ⟨k,c',e,z'⟩
    ·exact .inl q
    ·refine .inr ⟨k,c',e,z'.sameBut hs ?_⟩;rintro rfl;exact hj (uf hN e1 (I.ok.inj _ _ _ e hc ▸ hi))
  ·by_cases hcc:c'=c
   ·subst hcc;exact⟨_,hc'⟩
   ·obtain⟨w2,z2⟩:=I.cell y c' e;exact⟨w2,z2.sameBut hs hcc⟩
  ·obtain⟨e,n,ne,nf,d⟩:=I.pin p hp;refine⟨(hs.2 p.1 ?_).trans e,n,ne,nf,d⟩;intro q;rw[q,hoc] at e;have q':oc=p.2:=gV e;exact d w' (by rw[← q'];exact hocd)
theorem i6{M:Model}{A:ö}{E:Å->É->Prop}{i:Nat}{x:Str}{v:V}{u:Å}{Q:Unit->É->Prop}(I:Inv X aa σ H s)(hN:X.N.Nodup)(hi:X.N[i]?=some x)(hx:Loc X.env.scope x)(r:RelV v u)
 (h:∀ s',Inv X aa (σ.set i (some v)) H s'->Q () s') (hf:X.fn x=true\/X.env.scope.names.lookup x=some .local:=by first | exact .inl rfl | exact .inr rfl | assumption):Ô M A (storeName X.env x u) Q E s:=
 qr I hN hi hx r (λs' I' _=>h s' I') hf
theorem Inv.G0(I:Inv X aa σ H s)(ho:s'.os=s.os)(u:Un (hV X.stack) ch H H' s.heap s'.heap)(aV:jD X.prog X.w H' s'.heap)(hg:Um s'.gens)
 (hch:∀ b∈ch,(b∈X.ex\/X.s₀.heap.objs.size<=b)/\b≠X.env.locals/\(∀ x c,X.env.cells.lookup x=some c->c≠b)/\∀ p∈X.pn++aa,p.1≠b):Inv X aa σ H' s':=by
 obtain⟨h',g',d',t',o'⟩:=s';have e:o'=s.os:=ho;subst e;exact I.call (g':=g') (t':=t') (d':=d') u aV hg hch
end
abbrev XK:=Å->Zl->Hp->Prop
abbrev St:=List (Option V)
abbrev VK:=V->Hp->Prop
abbrev TE:=St->Hp->VK->Prop
abbrev TT:=St->Hp->(Bool->Hp->Prop)->Prop
abbrev TA:=St->Hp->(List V->Hp->Prop)->Prop
structure Ends where
 nx:St->Hp->Prop
 rt:VK
 bk:St->Hp->Prop:=λ_ _=>False
 ct:St->Hp->Prop:=λ_ _=>False
abbrev TS:=Ends->St->Hp->Prop
def EP(X:Cx)(aa:List (Ì × Obj))(σ:St)(Q:VK)(u:Å)(s':É):Prop:=∃ v H',Inv X aa σ H' s'/\RelV v u/\Q v H'
def TP(X:Cx)(aa:List (Ì × Obj))(σ:St)(Q:Bool->Hp->Prop)(b:Bool)(s':É):Prop:=∃ H',Inv X aa σ H' s'/\Q b H'
def AP(X:Cx)(aa:List (Ì × Obj))(σ:St)(Q:List V->Hp->Prop)(us:Zj)(s':É):Prop:=∃ vs H',Inv X aa σ H' s'/\Vals vs us/\Q vs H'
def SP(X:Cx)(aa:List (Ì × Obj))(D:Ends)(f:Flow)(s':É):Prop:=
 match f with
 |.next=>∃ σ' H',Inv X aa σ' H' s'/\D.nx σ' H'
 |.brk=>∃ σ' H',Inv X aa σ' H' s'/\D.bk σ' H'|.cont=>∃ σ' H',Inv X aa σ' H' s'/\D.ct σ' H'|.ret u=>∃ v σ' H',Inv X aa σ' H' s'/\RelV v u/\D.rt v H'
def PE(X:Cx)(e:Ù)(t:TE):Prop:=
 ∀ (aa:List (Ì × Obj)) (s:É) (σ:St) (H:Hp) (Q:VK),Inv X aa σ H s->t σ H Q->Ô (à X.prog X.w) X.A (eval e X.env) (EP X aa σ Q) X.xe s
def PT(X:Cx)(e:Ù)(t:TT):Prop:=
 ∀ (aa:List (Ì × Obj)) (s:É) (σ:St) (H:Hp) (Q:Bool->Hp->Prop),Inv X aa σ H s->t σ H Q->Ô (à X.prog X.w) X.A (X6 e X.env (eval e X.env)) (TP X aa σ Q) X.xe s
def PW(X:Cx)(e:Ù)(t:TT):Prop:=
 ∀ (whole:Sem Å) (aa:List (Ì × Obj)) (s:É) (σ:St) (H:Hp) (Q:Bool->Hp->Prop),Inv X aa σ H s->t σ H Q->Ô (à X.prog X.w) X.A (X6 e X.env whole) (TP X aa σ Q) X.xe s
def PW.pt(h:PW X e t):PT X e t:=h _
def PA(X:Cx)(es:Zm)(t:TA):Prop:=
 ∀ (pos:Pos) (aa:List (Ì × Obj)) (s:É) (σ:St) (H:Hp) (Q:List V->Hp->Prop),Inv X aa σ H s->t σ H Q->Ô (à X.prog X.w) X.A (spliced (Uq pos (þ es X.env))) (AP X aa σ Q) X.xe s
def PS(X:Cx)(st:RM)(t:TS):Prop:=
 ∀ (aa:List (Ì × Obj)) (s:É) (σ:St) (H:Hp) (D:Ends),Inv X aa σ H s->t D σ H->Ô (à X.prog X.w) X.A (exec st X.env) (SP X aa D) X.xe s
def mr(X:Cx)(st:List RM)(t:TS):Prop:=
 ∀ (aa:List (Ì × Obj)) (s:É) (σ:St) (H:Hp) (D:Ends),Inv X aa σ H s->t D σ H->Ô (à X.prog X.w) X.A (execs st X.env) (SP X aa D) X.xe s
def b7{α:Type}{t:Sem α}{Q Q':α->É->Prop}{M:Model}{A:ö}{E:Å->É->Prop}{s:É}(h:Ô M A t Q E s)(hQ:∀ a s,Q a s->Q' a s):Ô M A t Q' E s:=QM h hQ λ_ _ x=>x
section
variable {X:Cx}
def Ez(i:Nat):TE:=λσ H Q=>∃ v,σ[i]?=some (some v)/\Q v H
def tC(v:V):TE:=λ_ H Q=>Q v H
theorem hX{i:Nat}{x:Str}{pos:Pos}(hN:X.N[i]?=some x)(hv:HJ X.env.scope x)(hd:(x == ("__debug__":Str))=false:=by decide)(hcd:(x == ("__classdict__":Str))=false:=by decide):PE X (.Name x pos) (Ez i):=by
 intro aa s σ H Q I h;obtain⟨v,e,h⟩:=h;obtain⟨m,hn,hl⟩:=I.loc;obtain⟨u,r,l⟩:=hl i x v hN e hv;have fin:EP X aa σ Q u s:=⟨v,H,I,r,h⟩;rcases l with ⟨hk,hm⟩ | ⟨hk,c,hc,hcell⟩
 ·exact UJ (U4 I.ok.kind hk hn hm fin) hd
 ·rcases hk with hk | hk
  ·exact UJ (Vq I.ok.kind hk hc hcell fin) hd
  ·exact UJ (YS I.ok.kind hk hc hcell fin hcd) hd
def wA:PE X (.Constant (.int i) j pos) (tC (.int i)):=λ_ _ _ H _ I h=>wpAny_Constant_int ⟨.int i,H,I.tok _,⟨_,rfl⟩,h⟩
def KZ:PE X (.Constant (.bool b) j pos) (tC (.bl b)):=λ_ _ _ H _ I h=>Constant_bool ⟨.bl b,H,I,rfl,h⟩
def HL:PE X (.Constant .none j pos) (tC .bp):=λ_ _ _ H _ I h=>Constant_none ⟨.bp,H,I,rfl,h⟩
def Bc:PE X (.Constant (.str x) j pos) (tC (.str x)):=λ_ _ _ H _ I h=>Calls.Constant_str ⟨.str x,H,I.tok _,⟨_,rfl⟩,h⟩
def Gl(X:Cx)(x:Str):Prop:=X.env.kindOf x=some .globalImplicit
theorem m7{E:Å->É->Prop}{aa:List (Ì × Obj)}{s:É}{σ:St}{H:Hp}{x:Str}{u:Å}{pos:Pos}{Q:Å->É->Prop}(I:Inv X aa σ H s)(hg:Gl X x)(hm:X.mg x=some u)(h:Q u s)
 (hd:(x == ("__debug__":Str))=false:=by decide):Ô (à X.prog X.w) X.A (eval (.Name x pos) X.env) Q E s:=
 Te I.ok.kind hg (WA (by rw[I.ok.glob];exact I.mod.glob.keeps I.bk) hm h) hd
theorem hY{E:Å->É->Prop}{aa:List (Ì × Obj)}{s:É}{σ:St}{H:Hp}{x:Str}{u:Å}{pos:Pos}{Q:Å->É->Prop}(I:Inv X aa σ H s)(hg:Gl X x)(hm:X.mg x=none)(hv:õ x=some u)(h:Q u s)
 (hn:x≠"__name__":=by decide) (hd:(x == ("__debug__":Str))=false:=by decide):Ô (à X.prog X.w) X.A (eval (.Name x pos) X.env) Q E s:=by
 obtain⟨mb,h1,h2⟩:=I.mod.blt;exact Te I.ok.kind hg (Calls.loadGlobal_builtin (by rw[I.ok.glob];exact I.mod.glob.keeps I.bk) hm (by rw[I.ok.blt];exact h1.keeps I.bk) ((h2 x hn).trans hv) h) hd
theorem EA{x:Str}{v:V}{u:Å}{pos:Pos}(hg:Gl X x)(hm:X.mg x=some u)(r:RelV v u)(hd:(x == ("__debug__":Str))=false:=by decide):PE X (.Name x pos) (tC v):=
 λ_ _ _ H _ I h=>m7 I hg hm ⟨v,H,I,r,h⟩ hd
theorem EB{x:Str}{v:V}{u:Å}{pos:Pos}(hg:Gl X x)(hm:X.mg x=none)(hv:õ x=some u)(r:RelV v u)(hn:x≠"__name__":=by decide)(hd:(x == ("__debug__":Str))=false:=by decide):PE X (.Name x pos) (tC v):=
 λ_ _ _ H _ I h=>hY I hg hm hv ⟨v,H,I,r,h⟩ hn hd
variable {a b:Ù}{ta tb:TE}{pos:Pos}
def tB(t:TE):TT:=λσ H Q=>t σ H λx H1=>∃ c,x=.bl c/\Q c H1
theorem HM(h:PE X e t)(he:∀ whole,X6 e X.env whole=(do let v ← whole;standAt e.pos;WJ [v] (truthy v)):=by intro _;rfl):PT X e (tB t):=by
 intro aa s σ H Q I hw;refine isTrue_plain (b7 (h aa s σ H _ I hw) λv s1 ⟨x,H1,I1,r1,q1⟩=>?_) (he _);obtain⟨d,rfl,q⟩:=q1;cases r1;exact QR ⟨H1,I1,q⟩
variable {tA tB':TT}{rest:Zm}
def NV(t u:TT):TT:=λσ H Q=>t σ H λc H1=>if c=true then u σ H1 Q else Q false H1
def P6(t u:TT):TT:=λσ H Q=>t σ H λc H1=>if c=true then Q true H1 else u σ H1 Q
def NW(t:TT):TT:=λσ H Q=>t σ H λc H1=>Q (!c) H1
theorem EC(ha:PT X a tA):PW X (.BoolOp .And [a] pos) tA:=by
 intro wh aa s σ H Q I h;refine isTrue_and (b7 (ha aa s σ H Q I h) λc s1 e=>?_);cases c with
 |true=>exact isTrue_and_nil e|false=>exact e
theorem HN(ha:PT X a tA):PW X (.BoolOp .Or [a] pos) tA:=by
 intro wh aa s σ H Q I h;refine isTrue_or (b7 (ha aa s σ H Q I h) λc s1 e=>?_);cases c with
 |false=>exact isTrue_or_nil e|true=>exact e
theorem HP(ha:PT X a tA)(hb:PW X (.BoolOp .And (b::rest) pos) tB'):PW X (.BoolOp .And (a::b::rest) pos) (NV tA tB'):=by
 intro wh aa s σ H Q I h;refine isTrue_and (b7 (ha aa s σ H _ I h) λc s1 ⟨H1,I1,q1⟩=>?_);cases c with
 |true=>exact hb wh aa s1 σ H1 Q I1 q1|false=>exact⟨H1,I1,q1⟩
theorem K0(ha:PT X a tA)(hb:PW X (.BoolOp .Or (b::rest) pos) tB'):PW X (.BoolOp .Or (a::b::rest) pos) (P6 tA tB'):=by
 intro wh aa s σ H Q I h;refine isTrue_or (b7 (ha aa s σ H _ I h) λc s1 ⟨H1,I1,q1⟩=>?_);cases c with
 |true=>exact⟨H1,I1,q1⟩|false=>exact hb wh aa s1 σ H1 Q I1 q1
theorem HQ(ha:PT X a tA):PT X (.UnaryOp .Not a pos) (NW tA):=by
 intro aa s σ H Q I h;exact isTrue_not (ha aa s σ H (λc H1=>Q (!c) H1) I h)
def K1(ta tb:TE):TE:=λσ H Q=>ta σ H λx H1=>∃ c,x=.bl c/\if c=true then tb σ H1 Q else Q (.bl false) H1
def NX(ta tb:TE):TE:=λσ H Q=>ta σ H λx H1=>∃ c,x=.bl c/\if c=true then Q (.bl true) H1 else tb σ H1 Q
def K4(ta:TE):TE:=λσ H Q=>ta σ H λx H1=>∃ c,x=.bl c/\Q (.bl (!c)) H1
def HR(h:PE X a t):PE X (.BoolOp op [a] pos) t:=λaa s σ H Q I hw=>BoolOp_one (h aa s σ H Q I hw)
theorem HS(ha:PE X a ta)(hb:PE X (.BoolOp .And (b::rest) pos) tb):PE X (.BoolOp .And (a::b::rest) pos) (K1 ta tb):=by
 intro aa s σ H Q I h;refine BoolOp_and (b7 (ha aa s σ H _ I h) λv s1 ⟨x,H1,I1,r1,q1⟩=>?_);obtain⟨c,rfl,q1⟩:=q1;cases r1;refine QR ?_;cases c with
 |true=>exact hb aa s1 σ H1 Q I1 q1|false=>exact⟨.bl false,H1,I1,rfl,q1⟩
theorem K5(ha:PE X a ta)(hb:PE X (.BoolOp .Or (b::rest) pos) tb):PE X (.BoolOp .Or (a::b::rest) pos) (NX ta tb):=by
 intro aa s σ H Q I h;refine BoolOp_or (b7 (ha aa s σ H _ I h) λv s1 ⟨x,H1,I1,r1,q1⟩=>?_);obtain⟨c,rfl,q1⟩:=q1;cases r1;refine QR ?_;cases c with
 |false=>exact hb aa s1 σ H1 Q I1 q1|true=>exact⟨.bl true,H1,I1,rfl,q1⟩
theorem HU(ha:PE X a ta):PE X (.UnaryOp .Not a pos) (K4 ta):=by
 intro aa s σ H Q I h;refine UnaryOp_ (b7 (ha aa s σ H _ I h) λv s1 ⟨x,H1,I1,r1,q1⟩=>?_);obtain⟨c,rfl,q1⟩:=q1;cases r1;exact not_of (QR ⟨.bl (!c),H1,I1,rfl,q1⟩)
def Be(t:TT)(ta tb:TE):TE:=λσ H Q=>t σ H λc H1=>if c=true then ta σ H1 Q else tb σ H1 Q
theorem Bg(hc:PT X c tA)(ha:PE X a ta)(hb:PE X b tb):PE X (.IfExp c a b pos) (Be tA ta tb):=by
 intro aa s σ H Q I h;refine wpAny_IfExp (b7 (hc aa s σ H _ I h) λd s1 ⟨H1,I1,q1⟩=>?_);cases d with
 |true=>exact ha aa s1 σ H1 Q I1 q1|false=>exact hb aa s1 σ H1 Q I1 q1
end
def jP(K:Â)(H:Hp)(a:Ì)(xs:List V):Prop:=
 Rd H a (.lst xs) \/
  ∃ (o:Obj) (ar:Zo) (n:Nat),K.lookup a=some o/\o.cls=.type "list"/\o.dict=none/\o.data=.seq ar n/\ar.size<=sizeLine/\Vals xs ar.toList
def dU(K:Â)(H:Hp)(a:Ì)(xs:List V):Prop:=
 Rd H a (.tup xs) \/
  ∃ (o:Obj) (ar:Zo) (n:Nat),K.lookup a=some o/\o.cls=.type "tuple"/\o.data=.seq ar n/\ar.size<=sizeLine/\Vals xs ar.toList
def NY:Å->Option V
 |.none=>some .bp|.bool b=>some (.bl b)|.int i _=>some (.int i)|.str x _=>some (.str x)|.bytes b _=>some (.byt b)|.float b _=>some (.d6 b)|.ref a=>some (.ref a)|.type n=>some (.ty n)|_=>none
theorem RelV.abs(r:RelV x u):NY u=some x:=by
 cases x with
 |bp=>cases r;rfl
 |bl _=>cases r;rfl
 |int _=>obtain⟨t,rfl⟩:=r;rfl
 |str _=>obtain⟨t,rfl⟩:=r;rfl
 |byt _=>obtain⟨t,rfl⟩:=r;rfl
 |d6 _=>obtain⟨t,rfl⟩:=r;rfl
 |ref _=>cases r;rfl
 |ty _=>cases r;rfl
def RelV.inj(r:RelV x u)(q:RelV y u):x=y:=gV (r.abs.symm.trans q.abs)
theorem Vals.inj:∀ {xs ys:List V}{us:Zj},Vals xs us->Vals ys us->xs=ys
 |_,_,_,.nil,.nil=>rfl|_,_,_,.cons r t,.cons r' t'=>by rw[r.inj r',Vals.inj t t']
section
variable {X:Cx}{aa:List (Ì × Obj)}{σ:St}{H:Hp}{s:É}{a:Ì}{xs ys:List V}
def jP.of{K:Â}(h:H a=some (.lst xs)):jP K H a xs:=.inl (.inl h)
def dU.of{K:Â}(h:H a=some (.tup xs)):dU K H a xs:=.inl (.inl h)
theorem Inv.list(I:Inv X aa σ H s)(h:jP X.K H a xs):∃ ar:Zj,Vals xs ar/\PlainL s.heap a ar.toArray/\xs.length<=sizeLine:=by
 rcases h with h | ⟨o,ar,n,hk,hc,hd,hs,hz,r⟩
 ·obtain⟨z,ar,n,r,e⟩:=h.ok I.aV;exact⟨ar,r,⟨_,n,e,rfl,rfl,rfl⟩,z⟩
 ·refine⟨ar.toList,r,⟨o,n,I.t9 a o hk,hc,hd,by simpa using hs⟩,?_⟩
  have e:=r.length;simp only[Sw] at e;omega
theorem Inv.tuple(I:Inv X aa σ H s)(h:dU X.K H a xs):∃ ar:Zj,Vals xs ar/\UE s.heap a ar.toArray/\xs.length<=sizeLine:=by
 rcases h with h | ⟨o,ar,n,hk,hc,hs,hz,r⟩
 ·obtain⟨z,ar,r,p⟩:=h.ok I.aV;exact⟨ar,r,p,z⟩
 ·refine⟨ar.toList,r,⟨o,I.t9 a o hk,hc,n,by simpa using hs⟩,?_⟩
  have e:=r.length;simp only[Sw] at e;omega
theorem Inv.ug(I:Inv X aa σ H s)(h:jP X.K H a xs)(h':jP X.K H a ys):xs=ys:=by
 obtain⟨ar,r,⟨o,n,e,_,_,d⟩,_⟩:=I.list h;obtain⟨its',r',⟨o',n',e',_,_,d'⟩,_⟩:=I.list h';rw[e] at e';cases e';rw[d] at d';injection d' with d1 _;have:ar=its':=by simpa using congrArg toList d1
 subst this;exact r.inj r'
theorem Inv.qt(I:Inv X aa σ H s)(h:dU X.K H a xs)(h':dU X.K H a ys):xs=ys:=by
 obtain⟨ar,r,⟨o,e,_,n,d⟩,_⟩:=I.tuple h;obtain⟨its',r',⟨o',e',_,n',d'⟩,_⟩:=I.tuple h';rw[e] at e';cases e';rw[d] at d';injection d' with d1 _;have:ar=its':=by simpa using congrArg toList d1
 subst this;exact r.inj r'
end
section
variable {X:Cx}{st:RM}{rest:List RM}{t u:TS}{e:Ù}{te:TE}{pos:Pos}
def K6:TS:=λD σ H=>D.nx σ H
def NZ(t u:TS):TS:=λD σ H=>t { D with nx:=u D } σ H
def ED:mr X [] K6:=λ_ _ σ H _ I h=>UL ⟨σ,H,I,h⟩
theorem Bh(h1:PS X st t)(h2:mr X rest u):mr X (st::rest) (NZ t u):=by
 intro aa s σ H D I h;refine UC (b7 (h1 aa s σ H { D with nx:=u D } I h) λf s1 q=>?_);cases f with
 |next =>
  obtain⟨σ',H',I',q⟩:=q;exact h2 aa s1 σ' H' D I' q
 |ret v=>exact q|brk=>exact q|cont=>exact q
theorem EE(h1:PS X st t):mr X [st] t:=by
 intro aa s σ H D I h;refine UC (b7 (h1 aa s σ H D I h) λf s1 q=>?_);cases f with
 |next=>exact UL q
 |ret v=>exact q|brk=>exact q|cont=>exact q
theorem Inv.quiet(I:Inv X aa σ H s):interactive X.env=false:=by simp[interactive,I.ok.kind]
def G1(te:TE):TS:=λD σ H=>te σ H λ_ H1=>D.nx σ H1
theorem rK(he:PE X e te)(hs:TK e none pos.line X.env=pure false:=by rfl):PS X (.Expr e pos) (G1 te):=by
 intro aa s σ H D I h;exact wpAny_Expr_any (b7 (he aa s σ H _ I h) λv s1 ⟨x,H1,I1,r1,q1⟩=>⟨σ,H1,I1,q1⟩) I.quiet hs
def N0(te:TE):TS:=λD σ H=>te σ H D.rt
theorem Bj(he:PE X e te):PS X (.Return (some e) pos) (N0 te):=by
 intro aa s σ H D I h;exact VV (b7 (he aa s σ H _ I h) λv s1 ⟨x,H1,I1,r1,q1⟩=>⟨x,σ,H1,I1,r1,q1⟩)
def K7:TS:=λD _ H=>D.rt .bp H
def EG:PS X (.Return none pos) K7:=λ_ _ σ H _ I h=>wpAny_Return_none ⟨.bp,σ,H,I,rfl,h⟩
def N1(c:TT)(t u:TS):TS:=λD σ H=>c σ H λb H1=>if b=true then t D σ H1 else u D σ H1
theorem K8(hc:PT X c tc)(ha:mr X a t)(hb:mr X b u):PS X (.If c a b pos) (N1 tc t u):=by
 intro aa s σ H D I h;refine wpAny_If (b7 (hc aa s σ H _ I h) λd s1 ⟨H1,I1,q1⟩=>?_);cases d with
 |true=>exact ha aa s1 σ H1 D I1 q1|false=>exact hb aa s1 σ H1 D I1 q1
end
abbrev TG:=V->St->Hp->(St->Hp->Prop)->Prop
abbrev KO:=List V->St->Hp->(St->Hp->Prop)->Prop
def PG(X:Cx)(target:Ù)(t:TG):Prop:=
 ∀ (aa:List (Ì × Obj)) (s:É) (σ:St) (H:Hp) (v:V) (u:Å) (Q:St->Hp->Prop),Inv X aa σ H s->RelV v u->t v σ H Q ->
  Ô (à X.prog X.w) X.A (U8 target X.env u) (λ_ s'=>∃ σ' H',Inv X aa σ' H' s'/\Q σ' H') X.xe s
def K9(X:Cx)(ts:Zm)(t:KO):Prop:=
 ∀ (aa:List (Ì × Obj)) (s:É) (σ:St) (H:Hp) (vs:List V) (us:Zj) (Q:St->Hp->Prop),Inv X aa σ H s->Vals vs us->t vs σ H Q ->
  Ô (à X.prog X.w) X.A (Xz ((Sj ts X.env).map (·.2)) us) (λ_ s'=>∃ σ' H',Inv X aa σ' H' s'/\Q σ' H') X.xe s
abbrev HV:=V->V->V->Hp->(Hp->Prop)->Prop
def La(X:Cx)(t:HV):Prop:=
 ∀ (aa:List (Ì × Obj)) (s:É) (σ:St) (H:Hp) (o i v:V) (ov iv u:Å) (Q:Hp->Prop),Inv X aa σ H s->RelV o ov->RelV i iv->RelV v u->t o i v H Q ->
  Ô (à X.prog X.w) X.A (setItem ov iv u) (λ_ s'=>∃ H',Inv X aa σ H' s'/\Q H') X.xe s
abbrev Lb:=V->V->Hp->VK->Prop
def PK(X:Cx)(op:T6)(t:Lb):Prop:=
 ∀ (aa:List (Ì × Obj)) (s:É) (σ:St) (H:Hp) (x y:V) (v u:Å) (Q:VK),Inv X aa σ H s->RelV x v->RelV y u->t x y H Q ->
  Ô (à X.prog X.w) X.A (inplaceOp op v u) (EP X aa σ Q) X.xe s
section
variable {X:Cx}{pos:Pos}
def qu(i:Nat):TG:=λv σ H Q=>Q (σ.set i (some v)) H
theorem EH{i:Nat}{x:Str}(hN:X.N.Nodup)(hi:X.N[i]?=some x)(hx:Loc X.env.scope x)(hf:X.fn x=true\/X.env.scope.names.lookup x=some .local:=by first | exact .inl rfl | exact .inr rfl | assumption):PG X (.Name x pos) (qu i):=by
 intro aa s σ H v u Q I r h;exact wpAny_assign_Name (i6 I hN hi hx r (λs' I'=>⟨_,H,I',h⟩) hf)
def Lc:KO:=λvs σ H Q=>vs=[]/\Q σ H
def G2(t:TG)(u:KO):KO:=λvs σ H Q=>∃ v r,vs=v::r/\t v σ H λσ' H'=>u r σ' H' Q
theorem EI:K9 X [] Lc:=by
 intro aa s σ H vs us Q I r h;obtain⟨e,h⟩:=h;subst e;cases r;exact assignInOrder_nil ⟨σ,H,I,h⟩
theorem Bk(h1:PG X e t)(h2:K9 X es u)
 (hs:(Sj (e::es) X.env).map (·.2)=U8 e X.env::(Sj es X.env).map (·.2):=by rfl):K9 X (e::es) (G2 t u):=by
 intro aa s σ H vs us Q I r h;obtain⟨v,vr,e1,h⟩:=h;subst e1;cases r with
 |cons r rr =>
  rw[hs];refine VL (b7 (h1 aa s σ H _ _ _ I r h) λ_ s1 ⟨σ1,H1,I1,q1⟩=>?_);exact h2 aa s1 σ1 H1 _ _ Q I1 rr q1
def Ld(K:Â)(n:Nat)(t:KO):TG:=λv σ H Q=>∃ a xs,v=.ref a/\dU K H a xs/\xs.length=n/\t xs σ H Q
theorem HW{k:Nat}{n:Nat}(hc:X.calm=true)(h:K9 X es t)
 (hn:(Sj es X.env).length=n:=by rfl) (hst:(Sj es X.env).findIdx? (·.1)=none:=by rfl):PG X (.Tuple es k pos) (Ld X.K n t):=by
 intro aa s σ H v u Q I r hw;obtain⟨a,xs,e1,hq,hl,hw⟩:=hw;subst e1;cases r;obtain⟨ar,rv,ht,hz⟩:=I.tuple hq;refine assign_Tuple_tuple (I.ok.hd hc) ht (by simp[hn,← hl,rv.length]) hst λh' hx=>?_
 have I1:Inv X aa σ H { s with heap:=h' }:=I.kept (t':=s.toks) λb o e=>hx b o (Ý (á e)) e;exact h aa _ σ H xs _ Q I1 (by simpa using rv) hw
def N2(to ti:TE)(t:HV):TG:=λv σ H Q=>to σ H λo H1=>ti σ H1 λi H2=>t o i v H2 λH3=>Q σ H3
theorem Bl(ho:PE X o to)(hi:PE X i ti)(hs:La X t)
 (ha:∀ v,U8 (.Subscript o i pos) X.env v=(do
   let ov ← WJ [v] (eval o X.env)
   let iv ← WJ [v,ov] (eval i X.env)
   standAt pos
   WJ [v,ov,iv] (setItem ov iv v)
   release [v,ov,iv] []):=by intro _;rfl):PG X (.Subscript o i pos) (N2 to ti t):=by
 intro aa s σ H v u Q I r h;rw[ha];refine À (Q9 (b7 (ho aa s σ H _ I h) λov s1 ⟨x,H1,I1,r1,q1⟩=>?_));refine À (Q9 (b7 (hi aa s1 σ H1 _ I1 q1) λiv s2 ⟨y,H2,I2,r2,q2⟩=>?_));refine À (Vw (À (Q9 (b7 (hs aa s2 σ H2 x y v ov iv u _ I2 r1 r2 r q2) λ_ s3 ⟨H3,I3,q3⟩=>?_))));exact wpAny_release ⟨σ,H3,I3,q3⟩
def Bm(te:TE)(g:TG):TS:=λD σ H=>te σ H λx H1=>g x σ H1 D.nx
theorem wC(he:PE X e te)(hg:PG X tg g)(hs:swapsWithSole [tg] e pos.line X.env=pure false:=by rfl)(hw:Rq [tg] e X.env=pure none:=by rfl)
 (h1:(Sj [tg] X.env).map (·.2)=[U8 tg X.env]:=by rfl):PS X (.Assign [tg] e pos) (Bm te g):=by
 intro aa s σ H D I h;refine wpAny_Assign_stores (b7 (he aa s σ H _ I h) λv s1 ⟨x,H1,I1,r1,q1⟩=>?_) hs hw;rw[h1];exact b7 (hg aa s1 σ H1 x v _ I1 r1 q1) λ_ s2 q=>q
theorem wD{i:Nat}{x:Str}{e:Ù}{te:TE}{pos':Pos}(hN:X.N.Nodup)(hi:X.N[i]?=some x)(hx:Loc X.env.scope x)(he:PE X e te)(hs:TK e (some (.Name x pos')) pos.line X.env=pure false:=by rfl)(hf:X.fn x=true\/X.env.scope.names.lookup x=some .local:=by first | exact .inl rfl | exact .inr rfl | assumption) :
  PS X (.Assign [.Name x pos'] e pos) (Bm te (qu i)):=by
 intro aa s σ H D I h;refine wpAny_Assign_Name (b7 (he aa s σ H _ I h) λv s1 ⟨y,H1,I1,r1,q1⟩=>?_) hs;exact i6 I1 hN hi hx r1 (λs2 I2=>⟨_,H1,I2,q1⟩) hf
def N3(i j:Nat)(ta:TA):TS:=λD σ H=>ta σ H λvs H1=>∃ v w,vs=[v,w]/\D.nx ((σ.set i (some v)).set j (some w)) H1
theorem HX{i j:Nat}{x y:Str}{a b:Ù}{ta:TA}{px py pt:Pos}{kt k2 pt2}(hc:X.calm=true)(hN:X.N.Nodup)(hi:X.N[i]?=some x)(hj:X.N[j]?=some y)(hij:i≠j)
 (hx:X.env.scope.names.lookup x=some .local) (hy:X.env.scope.names.lookup y=some .local) (ha:PA X [a,b] ta)
 (hw:Rq [.Tuple [.Name x px,.Name y py] kt pt] (.Tuple [a,b] k2 pt2) X.env=pure (some [x,y]))
 (hs:swapsWithSole [.Tuple [.Name x px,.Name y py] kt pt] (.Tuple [a,b] k2 pt2) pos.line X.env=pure false:=by rfl) :
  PS X (.Assign [.Tuple [.Name x px,.Name y py] kt pt] (.Tuple [a,b] k2 pt2) pos) (N3 i j ta):=by
 intro aa s σ H D I h;rw[exec_Assign_arm];refine À (Vw ?_);rw[hs];refine À (Ê ?_);rw[if_neg 1e1]
 refine À (Tuple_ (b7 (ha _ aa s σ H _ I h) λus s1 ⟨vs,H1,I1,r1,q1⟩=>?_));obtain⟨v,w,e1,q1⟩:=q1;subst e1;obtain⟨u1,u2,rfl,rv,rw'⟩:∃ u1 u2,us=[u1,u2]/\RelV v u1/\RelV w u2:=by
  cases r1 with
  |cons p q =>
   cases q with
   |cons p' q' =>
    cases q';exact⟨_,_,rfl,p,p'⟩
 refine ÿ ?_ (by show 2<=sizeLine;decide)
 have I2:Inv X aa σ H1 { s1 with heap:=s1.heap.push { cls:=.type "tuple",data:=.seq [u1,u2].toArray } }:=I1.kept (t':=s1.toks) λb o e=>Ã _ e;rw[hw];refine À (Ê ?_);show Ô (à X.prog X.w) X.A (do rule "assign.swapped-stores";let items ← unpackItems (.ref s1.heap.objs.size) 2 none;Xz [λv=>YA X.env y v,λv=>YA X.env x v] items.reverse;pure Flow.next) _ _ _;refine À (S2 (À (unpackItems_tuple (items:=#[u1,u2]) (I.ok.hd hc) (Yi s1.heap _) λh' hx'=>?_)));have I3:=I2.kept (h':=h') (t':=s1.toks) λb o e=>hx' b o (Ý (á e)) e;show Ô _ _ (Xz [λv=>YA X.env y v,λv=>YA X.env x v] [u2,u1] >>= λ_=>pure Flow.next) _ _ _;refine À (VL (wpAny_bindName (i6 I3 hN hj (.inl hy) rw' (λs2 I4=>?_) (.inr hy))));refine VL (wpAny_bindName (i6 I4 hN hi (.inl hx) rv (λs3 I5=>assignInOrder_nil (Ê ?_)) (.inr hx)));rw[List.set_comm _ _ (QQ hij)] at I5;exact⟨_,H1,I5,q1⟩
def N4(i:Nat)(te:TE)(ti:Lb):TS:=λD σ H=>∃ x,σ[i]?=some (some x)/\te σ H λy H1=>ti x y H1 λz H2=>D.nx (σ.set i (some z)) H2
theorem HY{i:Nat}{x:Str}{e:Ù}{te:TE}{op:T6}{ti:Lb}{pos':Pos}(hN:X.N.Nodup)(hi:X.N[i]?=some x)(hx:Loc X.env.scope x)(he:PE X e te)(ho:PK X op ti)(hf:X.fn x=true\/X.env.scope.names.lookup x=some .local:=by first | exact .inl rfl | exact .inr rfl | assumption) :
 PS X (.AugAssign (.Name x pos') op e pos) (N4 i te ti):=by
 intro aa s σ H D I h;obtain⟨v,e1,h⟩:=h;obtain⟨m,hn,hl⟩:=I.loc;have vis:HJ X.env.scope x:=by rcases hx with k | k;exact .inl k;exact .inr (.inl k)
 obtain⟨u,r,l⟩:=hl i x v hi e1 vis;refine wpAny_AugAssign_Name ?_;have go:Ô (à X.prog X.w) X.A (eval e X.env) (λw s₂=>Ô (à X.prog X.w) X.A (inplaceOp op u w) (λr s₃=>Ô (à X.prog X.w) X.A (storeName X.env x r) (λ_=>SP X aa D .next) X.xe s₃) X.xe s₂) X.xe s:=by
  refine b7 (he aa s σ H _ I h) λw s1 ⟨y,H1,I1,r1,q1⟩=>?_;refine b7 (ho aa s1 σ H1 v y u w _ I1 r r1 q1) λz s2 ⟨zv,H2,I2,r2,q2⟩=>?_;exact i6 I2 hN hi hx r2 (λs3 I3=>⟨_,H2,I3,q2⟩) hf
 rcases l with ⟨hk,hm⟩ | ⟨hk,c,hc,hcell⟩
 ·exact U4 I.ok.kind hk hn hm go
 ·rcases hk with hk | hk
  ·exact Vq I.ok.kind hk hc hcell go
  ·rcases hx with k | k
   ·have:X.env.scope.names.lookup x=some .free:=hk;rw[k] at this;cases this
   ·have:X.env.scope.names.lookup x=some .free:=hk;rw[k] at this;cases this
def PL(to ti te:TE)(tget:V->V->Hp->VK->Prop)(tip:Lb)(tset:HV):TS:=λD σ H=>to σ H λo H1=>ti σ H1 λi H2=>tget o i H2 λx H3=>te σ H3 λy H4=>tip x y H4 λz H5=>tset o i z H5 λH6=>D.nx σ H6
def P7(X:Cx)(t:V->V->Hp->VK->Prop):Prop:=
 ∀ (aa:List (Ì × Obj)) (s:É) (σ:St) (H:Hp) (o i:V) (ov iv:Å) (Q:VK),Inv X aa σ H s->RelV o ov->RelV i iv->t o i H Q ->
  Ô (à X.prog X.w) X.A (Vj ov iv) (EP X aa σ Q) X.xe s
def Qr(f:Int->Int->Int):Lb:=λx y H Q=>∃ i j,x=.int i/\y=.int j/\Q (.int (f i j)) H
def HZ(c:TT)(tb:TS):TS:=λD σ H=>∃ W:Nat->St->Hp->Prop,(∃ m,W m σ H)/\∀ m σ H,W m σ H ->
 c σ H λb H1=>if b=true then ∃ N:St->Hp->Prop,(∀ σ' H',N σ' H'->∃ m',m' < m/\W m' σ' H')/\tb { D with nx:=N,ct:=N,bk:=D.nx } σ H1 else D.nx σ H1
theorem Bn(hp:PassesOwn (à X.prog X.w) X.A X.env X.xe)(hc:PT X c tc)(hb:mr X body tb):PS X (.While c body [] pos) (HZ tc tb):=by
 intro aa s σ H D I h;obtain⟨W,⟨m0,w0⟩,turn⟩:=h;refine wpAny_While (codeAny_whileLoop (λn s'=>∃ σ' H',Inv X aa σ' H' s'/\W n σ' H') ?_ m0 ⟨σ,H,I,w0⟩);rintro n s1 ⟨σ1,H1,I1,w1⟩;refine R8 hp (b7 (hc aa s1 σ1 H1 _ I1 (turn n σ1 H1 w1)) λb s2 ⟨H2,I2,q2⟩=>?_);cases b with
 |true =>
  obtain⟨N,hN,q2⟩:=q2;rw[if_pos rfl];refine R8 hp (b7 (hb aa s2 σ1 H2 _ I2 q2) λf s3 q3=>?_);cases f with
  |next =>
   obtain⟨σ3,H3,I3,n3⟩:=q3;obtain⟨m',hm,w3⟩:=hN σ3 H3 n3;exact⟨m',hm,σ3,H3,I3,w3⟩
  |cont =>
   obtain⟨σ3,H3,I3,n3⟩:=q3;obtain⟨m',hm,w3⟩:=hN σ3 H3 n3;exact⟨m',hm,σ3,H3,I3,w3⟩
  |brk=>exact q3|ret v=>exact q3
 |false =>
  rw[if_neg Û];exact UL ⟨σ1,H2,I2,q2⟩
end
structure It where
 go:Nat->Hp->Prop
 yld:Nat->Hp->V->Hp->Prop
 stop:Nat->Hp->Prop
def kH(X:Cx)(aa:List (Ì × Obj))(H:Hp)(b:Ì):Prop:=
 H b=none/\b≠X.env.locals/\b ∉ X.fs/\(b∈X.ex\/X.s₀.heap.objs.size<=b)/\(∀ x c,X.env.cells.lookup x=some c->c≠b)/\∀ p∈X.pn++aa,p.1≠b
theorem Inv.mS(I:Inv X aa σ H s)(hb:s.heap.objs.size<=b)(hn:H' b=none):kH X aa H' b:=by
 refine⟨hn,R0 (Þ I.lt hb),I.NU hb,.inr (ê I.sz hb),λx c e z=>?_,λp hp z=>?_⟩
 ·obtain⟨v,q⟩:=I.cell x c e;exact absurd (Þ q.lt (by rw[z];exact hb)) (Qt _)
 ·exact absurd (Þ (á (I.pin p hp).1) (by rw[z];exact hb)) (Qt _)
structure Turn(P:Program)(w:World)(K:PySem.W.Frag)(tg:Expr)(J:It)(fp:List Addr)(it:Addr)(tn:Nat->Heap->Prop):Prop where
 mem:it∈fp
 obj:∀ i h,tn i h->∀ b∈fp,∃ o,h.get? b=some o/\∀ v,o.data≠.cell v
 keep:∀ i h h',tn i h->(∀ b∈fp,∀ o,h.get? b=some o->h'.get? b=some o)->tn i h'
 item:∀ (X:Cx),X.prog=P->X.w=w->X.K=K->X.calm=true->∀ (i:Nat) (aa:List (Addr × Obj)) (s:Shared) (σ:St) (H:Hp) (E:Value->Shared->Prop),Inv X aa σ H s->(∀ b∈fp,kH X aa H b)->tn i s.heap->J.go i H ->
  wpAny (model P w) X.A (pyNext (.ref it)) (λr s1=>∃ u,r=some u /\
   wpAny (model P w) X.A (letOwnedTupleGo tg (.ref it) u) (λ_ s2=>∃ x H',Inv X aa σ H' s2/\RelV x u/\J.yld i H x H'/\tn (i + 1) s2.heap/\∀ b∈fp,H' b=none) E s1) E s
 done:∀ (X:Cx),X.prog=P->X.w=w->X.K=K->X.calm=true->∀ (i:Nat) (aa:List (Addr × Obj)) (s:Shared) (σ:St) (H:Hp) (E:Value->Shared->Prop),Inv X aa σ H s->(∀ b∈fp,kH X aa H b)->tn i s.heap->J.stop i H ->
  wpAny (model P w) X.A (pyNext (.ref it)) (λr s1=>r=none/\Inv X aa σ H s1) E s
 self:∀ (A:Around) (i:Nat) (s:Shared) (Q:Value->Shared->Prop) (E:Value->Shared->Prop),tn i s.heap->Q (.ref it) s->wpAny (model P w) A (pyIter (.ref it)) Q E s
abbrev TI:=St->Hp->(It->Hp->Prop)->Prop
def PM(X:Cx)(aa:List (Ì × Obj))(σ:St)(tg:Ù)(R:It->Hp->Prop)(itv:Å)(s2:É):Prop:=
 ∃ (it:Ì) (fp:Zr) (tn:Nat->ø->Prop) (J:It) (H':Hp),itv=.ref it/\Inv X aa σ H' s2/\Turn X.prog X.w X.K tg J fp it tn/\tn 0 s2.heap/\(∀ b∈fp,kH X aa H' b)/\R J H'
def PI(X:Cx)(tg iter:Ù)(wi:TI):Prop:=
 ∀ (aa:List (Ì × Obj)) (s:É) (σ:St) (H:Hp) (R:It->Hp->Prop),Inv X aa σ H s->wi σ H R ->
  Ô (à X.prog X.w) X.A (eval iter X.env) (λv s1=>Ô (à X.prog X.w) X.A (pyIter v) (PM X aa σ tg R) X.xe s1) X.xe s
theorem Bo{M:Model}{A:ö}{E:Å->É->Prop}{s:É}{tg:Ù}{it:Ì}{u:Å}{o:Obj}{n:String}{vs:Zo}{Q:Unit->É->Prop}(ho:s.heap.get? it=some o)(hc:o.cls=.type n)(hd:o.data=.fields vs)
 (hn:["enumerate","zip","dict_itemiterator","dict_reverseitemiterator","odict_iterator","itertools.zip_longest","itertools.pairwise"].contains n=false) (hQ:Q () s):Ô M A (WD tg (.ref it) u) Q E s:=by
 unfold WD;cases tg <;> first
  |exact Ê hQ
  |(cases u <;> first
    |exact Ê hQ
    |(refine À (W0 ho ?_)
      rw[hc,hd];show Ô M A (if (["enumerate","zip","dict_itemiterator","dict_reverseitemiterator","odict_iterator","itertools.zip_longest","itertools.pairwise"].contains n&&vs[0]? == some (Ra _))=true then _ else _) Q E s;rw[if_neg (by intro h;rw[hn,UI] at h;cases h)]
      exact Ê hQ))
def Le(K:Â)(a:Ì):It:=
 ⟨λi H=>∃ xs x,jP K H a xs/\xs[i]?=some x,λi H x H'=>H'=H/\∀ xs,jP K H a xs->xs[i]?=some x,λi H=>∃ xs,jP K H a xs/\xs.length<=i⟩
def Nv(K:Â)(a:Ì):It:=
 ⟨λi H=>∃ xs x,dU K H a xs/\xs[i]?=some x,λi H x H'=>H'=H/\∀ xs,dU K H a xs->xs[i]?=some x,λi H=>∃ xs,dU K H a xs/\xs.length<=i⟩
def Lf(lo:Int)(n:Nat):It:=⟨λi _=>i < n,λi H x H'=>H'=H/\x=.int (lo + i),λi _=>n<=i⟩
theorem zR{P:â}{w:ó}{K:Â}{tg:Ù}(a it:Ì):Turn P w K tg (Le K a) [it] it (λi h=>h.IsListIter it a i) where
 mem:=by simp
 obj:=λi h st b hb=>by
  have e:b=it:=by simpa using hb
  subst e;obtain⟨o,e,c,d⟩:=st;exact⟨o,e,λv z=>by rw[d] at z;cases z⟩
 keep:=λi h h' st k=>st.at λo e=>k it (by simp) o e
 item:=by
  intro X hP hw hK hc i aa s σ H E I hf st hg;subst hP hw hK;obtain⟨xs,x,hq,hx⟩:=hg;obtain⟨ar,rv,p,hz⟩:=I.list hq;obtain⟨u,hu,ru⟩:=rv.get hx;obtain⟨f0,f1,f2,f3,f4,f5⟩:=hf it (by simp)
  refine wpAny_pyNext_list_item st p.isList (x:=u) (by simpa using hu) λh' st' sb=>?_
  have I1:Inv X aa σ H { s with heap:=h' }:=I.turned (t':=s.toks) (λb o hb e=>(sb.2 b hb).trans e) f0 f1 f3 f4 f5;obtain⟨o,e,c,d⟩:=id st';exact⟨u,rfl,Bo (s:={ s with heap:=h' }) e c d 1e1 ⟨x,H,I1,ru,⟨rfl,λys hy=>by rw[I.ug hy hq];exact hx⟩,st',λb hb=>(hf b hb).1⟩⟩
 done:=by
  intro X hP hw hK hc i aa s σ H E I hf st hg;subst hP hw hK;obtain⟨xs,hq,hx⟩:=hg;obtain⟨ar,rv,p,hz⟩:=I.list hq;obtain⟨f0,f1,f2,f3,f4,f5⟩:=hf it (by simp)
  have hl:=rv.length;exact wpAny_pyNext_list_end (I.ok.hd hc) st p.isList (by simp;omega) λh' eb=>⟨rfl,I.turned (t':=s.toks) (λb o hb e=>eb b o hb e) f0 f1 f3 f4 f5⟩
 self:=λ_ _ _ _ _ st h=>wpAny_pyIter_listiter st h
theorem wF{P:â}{w:ó}{K:Â}{tg:Ù}(a it:Ì):Turn P w K tg (Nv K a) [it] it (λi h=>h.IsTupleIter it a i) where
 mem:=by simp
 obj:=λi h st b hb=>by
  have e:b=it:=by simpa using hb
  subst e;obtain⟨o,e,c,d⟩:=st;exact⟨o,e,λv z=>by rw[d] at z;cases z⟩
 keep:=λi h h' st k=>st.at λo e=>k it (by simp) o e
 item:=by
  intro X hP hw hK hc i aa s σ H E I hf st hg;subst hP hw hK;obtain⟨xs,x,hq,hx⟩:=hg;obtain⟨ar,rv,p,hz⟩:=I.tuple hq;obtain⟨u,hu,ru⟩:=rv.get hx;obtain⟨f0,f1,f2,f3,f4,f5⟩:=hf it (by simp)
  refine wpAny_pyNext_tuple_item st (show s.heap.IsTuple a ar.toArray from p) (x:=u) (by simpa using hu) λh' st' sb=>?_
  have I1:Inv X aa σ H { s with heap:=h' }:=I.turned (t':=s.toks) (λb o hb e=>(sb.2 b hb).trans e) f0 f1 f3 f4 f5;obtain⟨o,e,c,d⟩:=id st';exact⟨u,rfl,Bo (s:={ s with heap:=h' }) e c d 1e1 ⟨x,H,I1,ru,⟨rfl,λys hy=>by rw[I.qt hy hq];exact hx⟩,st',λb hb=>(hf b hb).1⟩⟩
 done:=by
  intro X hP hw hK hc i aa s σ H E I hf st hg;subst hP hw hK;obtain⟨xs,hq,hx⟩:=hg;obtain⟨ar,rv,p,hz⟩:=I.tuple hq;obtain⟨f0,f1,f2,f3,f4,f5⟩:=hf it (by simp)
  have hl:=rv.length;exact wpAny_pyNext_tuple_end (I.ok.hd hc) st (show s.heap.IsTuple a ar.toArray from p) (by simp;omega) λh' eb=>⟨rfl,I.turned (t':=s.toks) (λb o hb e=>eb b o hb e) f0 f1 f3 f4 f5⟩
 self:=λ_ _ _ _ _ st h=>wpAny_pyIter_tupleiter st h
theorem wH{P:â}{w:ó}{K:Â}{tg:Ù}(it:Ì)(lo:Int)(n:Nat):Turn P w K tg (Lf lo n) [it] it (λi h=>IsRangeIter h it (lo + (i:Nat) * 1) ((n:Int) - (i:Nat)) 1) where
 mem:=by simp
 obj:=λi h st b hb=>by
  have e:b=it:=by simpa using hb
  subst e;exact⟨_,st,λv z=>by
   have z':Data.fields _=Data.cell v:=z;cases z'⟩
 keep:=λi h h' st k=>k it (by simp) _ st
 item:=by
  intro X hP hw hK hc i aa s σ H E I hf st hg;subst hP hw hK;obtain⟨f0,f1,f2,f3,f4,f5⟩:=hf it (by simp)
  have W:=Walks.range (prog:=X.prog) (w:=X.w) (I.ok.hd hc) it lo 1 n;refine W.item i s _ _ hg st λv h' tk hv st' kk=>?_;obtain⟨t,rfl⟩:=hv;have I1:Inv X aa σ H { s with heap:=h',toks:=tk }:=I.turned (λb o hb e=>kk b o (by simpa using hb) e) f0 f1 f3 f4 f5
  refine⟨_,rfl,Bo (s:={ s with heap:=h',toks:=tk }) (n:="range_iterator") st' rfl rfl 1e1 ⟨.int (lo + i),H,I1,⟨t,?_⟩,⟨rfl,rfl⟩,st',λb hb=>(hf b hb).1⟩⟩
  rw[mul_one]
 done:=by
  intro X hP hw hK hc i aa s σ H E I hf st hg;subst hP hw hK;obtain⟨f0,f1,f2,f3,f4,f5⟩:=hf it (by simp)
  exact wpAny_pyNext_range_end (I.ok.hd hc) st (by have:n<=i:=hg;omega) λh' eb=>⟨rfl,I.turned (t':=s.toks) (λb o hb e=>eb b o hb e) f0 f1 f3 f4 f5⟩
 self:=λ_ _ _ _ _ st h=>wpAny_pyIter_rangeiter st h
section
variable {X:Cx}{tg:Ù}
def Lg(K:Â)(tl:TE):TI:=λσ H R=>tl σ H λx H1=>∃ a,x=.ref a/\(∃ xs,jP K H1 a xs)/\R (Le K a) H1
def N5(K:Â)(tl:TE):TI:=λσ H R=>tl σ H λx H1=>∃ a,x=.ref a/\(∃ xs,dU K H1 a xs)/\R (Nv K a) H1
theorem rM{l:Ù}{tl:TE}(hl:PE X l tl):PI X tg l (Lg X.K tl):=by
 intro aa s σ H R I h;refine b7 (hl aa s σ H _ I h) λv s1 ⟨x,H1,I1,r1,q1⟩=>?_;obtain⟨a,e,⟨xs,hq⟩,q⟩:=q1;subst e;cases r1;obtain⟨ar,rv,p,hz⟩:=I1.list hq;refine VU p.isList ?_;refine⟨s1.heap.objs.size,[s1.heap.objs.size],_,_,H1,rfl,I1.kept (t':=s1.toks) λb o e=>Ã _ e,zR a _,⟨_,Ò _ rfl,rfl,rfl⟩,λb hb=>?_,q⟩;have e:b=s1.heap.objs.size:=by simpa using hb
 subst e;exact I1.mS (Ñ _) (I1.aV.fresh (Ñ _))
theorem Bp{l:Ù}{tl:TE}(hl:PE X l tl):PI X tg l (N5 X.K tl):=by
 intro aa s σ H R I h;refine b7 (hl aa s σ H _ I h) λv s1 ⟨x,H1,I1,r1,q1⟩=>?_;obtain⟨a,e,⟨xs,hq⟩,q⟩:=q1;subst e;cases r1;obtain⟨ar,rv,p,hz⟩:=I1.tuple hq;refine R4 (show s1.heap.IsTuple a ar.toArray from p) ?_;refine⟨s1.heap.objs.size,[s1.heap.objs.size],_,_,H1,rfl,I1.kept (t':=s1.toks) λb o e=>Ã _ e,wF a _,⟨_,Ò _ rfl,rfl,rfl⟩,λb hb=>?_,q⟩;have e:b=s1.heap.objs.size:=by simpa using hb
 subst e;exact I1.mS (Ñ _) (I1.aV.fresh (Ñ _))
theorem uh{aa:List (Ì × Obj)}{σ:St}{H:Hp}{s:É}{R:It->Hp->Prop}{E:Å->É->Prop}{lo hi:Int}{t u v:Tok}{tk:Nat}(I:Inv X aa σ H s)(h1:-(2 ^ 62)<=lo)(h2:lo < 2 ^ 62)(h3:-(2 ^ 62)<=hi)(h4:hi < 2 ^ 62)
 (q:R (Lf lo (hi - lo).toNat) H):Ô (à X.prog X.w) X.A (pyIter (.ref s.heap.objs.size)) (PM X aa σ tg R) E { s with heap:=s.heap.push { cls:=.type "range",data:=.fields #[.int lo t,.int hi u,.int 1 v] },toks:=tk }:=by
 refine wpAny_pyIter_range (WI ..) (small_one h1 h2 h3 h4) ?_;have I1:Inv X aa σ H { s with heap:=s.heap.push { cls:=.type "range",data:=.fields #[.int lo t,.int hi u,.int 1 v] },toks:=tk }:=I.kept λb o e=>Ã _ e;refine⟨(s.heap.push { cls:=.type "range",data:=.fields #[.int lo t,.int hi u,.int 1 v] }).objs.size,[(s.heap.push { cls:=.type "range",data:=.fields #[.int lo t,.int hi u,.int 1 v] }).objs.size],_,_,H,rfl,
  I1.kept (t':=tk) λb o e=>Ã _ e,wH _ lo (hi - lo).toNat,?_,λb hb=>?_,q⟩
 ·have e1:lo + ((0:Nat):Int) * 1=lo:=by simp
  have e2:(((hi - lo).toNat:Nat):Int) - ((0:Nat):Int)=Rf lo hi 1:=by rw[Xx];split <;> omega
  show IsRangeIter _ _ (lo + ((0:Nat):Int) * 1) ((((hi - lo).toNat:Nat):Int) - ((0:Nat):Int)) 1;rw[e1,e2];exact Ò _ rfl
 ·have e:b=(s.heap.push { cls:=.type "range",data:=.fields #[.int lo t,.int hi u,.int 1 v] }).objs.size:=by simpa using hb
  subst e;exact I1.mS (Ñ _) (I1.aV.fresh (Ñ _))
def Lh(ta:TA):TI:=λσ H R=>ta σ H λvs H1=>∃ j:Int,vs=[.int j]/\-(2 ^ 62)<=j/\j < 2 ^ 62/\R (Lf 0 j.toNat) H1
def Li(ta:TA):TI:=λσ H R=>ta σ H λvs H1=>∃ i j:Int,vs=[.int i,.int j]/\(-(2 ^ 62)<=i/\i < 2 ^ 62/\-(2 ^ 62)<=j/\j < 2 ^ 62)/\R (Lf i (j - i).toNat) H1
theorem zS(hg:Gl X "range")(hm:X.mg "range"=none)(ha:PA X [a] ta)(hs:þ [a] X.env=[(false,eval a X.env)]:=by rfl):PI X tg (.Call (.Name "range" p) [a] [] pos) (Lh ta):=by
 intro aa s σ H R I h;refine Call_ (hY I hg hm boot_range (QA (b7 (ha pos aa s σ H _ I h) λus s1 ⟨vs,H1,I1,r1,q1⟩=>?_) hs rfl));obtain⟨j,e,q1,q2,q⟩:=q1;subst e;cases r1 with
 |cons r rr =>
  cases rr;obtain⟨t,rfl⟩:=r;exact call_range_1 (uh I1 ∅ ∅ q1 q2 (by simpa using q))
theorem zT(hg:Gl X "range")(hm:X.mg "range"=none)(ha:PA X [a,b] ta)(hs:þ [a,b] X.env=[(false,eval a X.env),(false,eval b X.env)]:=by rfl)(hs2:þ [b] X.env=[(false,eval b X.env)]:=by rfl) :
  PI X tg (.Call (.Name "range" p) [a,b] [] pos) (Li ta):=by
 intro aa s σ H R I h;refine Call_ (hY I hg hm boot_range (QA (b7 (ha pos aa s σ H _ I h) λus s1 ⟨vs,H1,I1,r1,q1⟩=>?_) (by rw[hs,hs2]) (by rw[hs2];rfl)))
 obtain⟨i,j,e,⟨q1,q2,q3,q4⟩,q⟩:=q1;subst e;cases r1 with
 |cons r rr =>
  cases rr with
  |cons r' rr =>
   cases rr;obtain⟨t,rfl⟩:=r;obtain⟨t',rfl⟩:=r';exact call_range_2 (uh I1 q1 q2 q3 q4 q)
def N6(wi:TI)(g:TG)(tb:TS):TS:=λD σ H=>wi σ H λJ H1=>∃ W:Nat->Nat->St->Hp->Prop,(∃ m,W 0 m σ H1)/\∀ i m σ H,W i m σ H ->
 (J.stop i H/\D.nx σ H)\/(J.go i H/\∃ N:St->Hp->Prop,(∀ σ' H',N σ' H'->∃ m',m' < m/\W (i + 1) m' σ' H')/\∀ x H',J.yld i H x H'->g x σ H' λσ2 H2=>tb { D with nx:=N,ct:=N,bk:=D.nx } σ2 H2)
def kg(fp:Zr)(h:ø):List (Ì × Obj):=fp.filterMap λb=>(h.get? b).map λo=>(b,o)
def fv(hb:b∈fp)(e:h.get? b=some o):(b,o)∈kg fp h:=RT.mpr ⟨b,hb,by rw[e];rfl⟩
theorem qv(hp:p∈kg fp h):p.1∈fp/\h.get? p.1=some p.2:=by
 obtain⟨b,hb,e⟩:=RT.mp hp;cases q:h.get? b with
 |none=>rw[q] at e;cases e
 |some o =>
  rw[q] at e;have e':(b,o)=p:=gV e;subst e';exact⟨hb,q⟩
def Inv.pinned(I:Inv X aa σ H s)(hf:∀ b∈fp,kH X aa H b)(ho:∀ b∈fp,∃ o,s.heap.get? b=some o/\∀ v,o.data≠.cell v):Inv X (aa++kg fp s.heap) σ H s:=
 I.kG λp hp=>(ë.mp hp).elim (λz=>I.pin p (é _ z)) λz=>by
  obtain⟨hb,e⟩:=qv z;obtain⟨f0,f1,f2,_⟩:=hf p.1 hb;obtain⟨o,e',d⟩:=ho p.1 hb;rw[e] at e';cases e';exact⟨e,f0,f1,f2,d⟩
def Inv.nK{aa pl:List (Ì × Obj)}{σ:St}{H:Hp}{s:É}(I:Inv X (aa++pl) σ H s):Inv X aa σ H s:=I.kG λp hp=>I.pin p (é _ (Rb _ hp))
theorem Bq(hp:PassesOwn (à X.prog X.w) X.A X.env X.xe)(hc:X.calm=true)(hi:PI X tg iter wi)(hg:PG X tg g)(hb:mr X body tb)
 (hs:∀ x,SU iter X.env x=pure x:=by intro _;rfl):PS X (.For tg iter body [] pos) (N6 wi g tb):=by
 intro aa s σ H D I h;refine wpAny_For (b7 (hi aa s σ H _ I h) λv s1 h1=>b7 h1 λitv s2 h2=>?_) hs;obtain⟨it,fp,tn,J,H2,e,I2,T,st2,f2,W,⟨m0,w0⟩,turn⟩:=h2;subst e;have stat:∀ {H':Hp},(∀ b∈fp,H' b=none)->∀ b∈fp,kH X aa H' b:=λhn b hb=>⟨hn b hb,(f2 b hb).2⟩;refine codeAny_forLoop_any (λn s'=>∃ i σ' H',Inv X aa σ' H' s'/\tn i s'.heap/\(∀ b∈fp,H' b=none)/\W i n σ' H') ?_ m0 ⟨0,σ,H2,I2,st2,λb hb=>(f2 b hb).1,w0⟩;rintro n s3 ⟨i,σ3,H3,I3,st3,fr3,w3⟩;rcases turn i n σ3 H3 w3 with ⟨stop,qn⟩ | ⟨go,N,hN,step⟩
 ·refine R8 hp (b7 (T.done X rfl rfl rfl hc i aa s3 σ3 H3 X.xe I3 (stat fr3) st3 stop) λr s4 ⟨hr,I4⟩=>?_);subst hr;exact UL ⟨σ3,H3,I4,qn⟩
 ·refine R8 hp (b7 (T.item X rfl rfl rfl hc i aa s3 σ3 H3 X.xe I3 (stat fr3) st3 go) λr s4 ⟨u,hr,h4⟩=>?_);subst hr;refine R8 hp (b7 h4 λ_ s5 ⟨x,H5,I5,r5,y5,st5,fr5⟩=>?_);have I5':=I5.pinned (stat fr5) (T.obj _ _ st5);refine R8 hp (b7 (hg _ s5 σ3 H5 x u _ I5' r5 (step x H5 y5)) λ_ s6 ⟨σ6,H6,I6,q6⟩=>?_);refine R8 hp (b7 (hb _ s6 σ6 H6 _ I6 q6) λf s7 q7=>?_);have YB:∀ {σ7:St}{H7:Hp},Inv X (aa++kg fp s5.heap) σ7 H7 s7->N σ7 H7->∃ m,m < n/\∃ i σ' H',Inv X aa σ' H' s7/\tn i s7.heap/\(∀ b∈fp,H' b=none)/\W i m σ' H':=λ{σ7 H7} I7 n7=>by
   obtain⟨m',hm,w7⟩:=hN σ7 H7 n7;refine⟨m',hm,i + 1,σ7,H7,I7.nK,T.keep _ _ _ st5 λb hb o e=>(I7.pin (b,o) (é _ (é _ (fv hb e)))).1,λb hb=>?_,w7⟩;obtain⟨o,e,d⟩:=T.obj _ _ st5 b hb;exact(I7.pin (b,o) (é _ (é _ (fv hb e)))).2.1
  cases f with
  |next=>obtain⟨σ7,H7,I7,n7⟩:=q7;exact YB I7 n7
  |cont=>obtain⟨σ7,H7,I7,n7⟩:=q7;exact YB I7 n7
  |brk=>obtain⟨σ7,H7,I7,q7⟩:=q7;exact⟨σ7,H7,I7.nK,q7⟩
  |ret v=>obtain⟨x7,σ7,H7,I7,r7,q7⟩:=q7;exact⟨x7,σ7,H7,I7.nK,r7,q7⟩
end
abbrev R2:=V->V->Hp->VK->Prop
def hW(X:Cx)(f:Å->Å->Sem Å)(r:R2):Prop:=
 ∀ (aa:List (Ì × Obj)) (s:É) (σ:St) (H:Hp) (x y:V) (v u:Å) (Q:VK),Inv X aa σ H s->RelV x v->RelV y u->r x y H Q ->
  Ô (à X.prog X.w) X.A (f v u) (EP X aa σ Q) X.xe s
def N7(X:Cx)(f:Å->Sem Å)(r:V->Hp->VK->Prop):Prop:=
 ∀ (aa:List (Ì × Obj)) (s:É) (σ:St) (H:Hp) (x:V) (v:Å) (Q:VK),Inv X aa σ H s->RelV x v->r x H Q ->
  Ô (à X.prog X.w) X.A (f v) (EP X aa σ Q) X.xe s
def bZ(X:Cx)(f:Å)(r:List V->Hp->VK->Prop):Prop:=
 ∀ (aa:List (Ì × Obj)) (s:É) (σ:St) (H:Hp) (xs:List V) (us:Zj) (Q:VK),Inv X aa σ H s->Vals xs us->r xs H Q ->
  Ô (à X.prog X.w) X.A (call f us) (EP X aa σ Q) X.xe s
def Lj(r:R2)(ta tb:TE):TE:=λσ H Q=>ta σ H λx H1=>tb σ H1 λy H2=>r x y H2 Q
def P8(r:V->Hp->VK->Prop)(ta:TE):TE:=λσ H Q=>ta σ H λx H1=>r x H1 Q
def rI(C:Int->Int->Prop)(g:Int->Int->V):R2:=λx y H Q=>∃ i j,x=.int i/\y=.int j/\C i j/\Q (g i j) H
def H9(g:Int->Int->V):R2:=λx y H Q=>∃ i j,x=.int i/\y=.int j/\Q (g i j) H
def rU(g:Int->V):V->Hp->VK->Prop:=λx H Q=>∃ i,x=.int i/\Q (g i) H
section
variable {X:Cx}{a b c:Ù}{ta tb tc:TE}{pos:Pos}
theorem Ia(ha:PE X a ta)(hb:PE X b tb){aa:List (Ì × Obj)}{s:É}{σ:St}{H:Hp}{R:V->V->Hp->Prop}(I:Inv X aa σ H s)
 (h:ta σ H λx H1=>tb σ H1 λy H2=>R x y H2) {Q:Å->É->Prop}{f:Å->Å->Sem Å}
 (hf:∀ v u s2 x y H2,Inv X aa σ H2 s2->RelV x v->RelV y u->R x y H2->Ô (à X.prog X.w) X.A (f v u) Q X.xe s2) :
  Ô (à X.prog X.w) X.A (eval a X.env) (λv s₁=>Ô (à X.prog X.w) X.A (eval b X.env) (λu s₂=>Ô (à X.prog X.w) X.A (f v u) Q X.xe s₂) X.xe s₁) X.xe s:=by
 refine b7 (ha aa s σ H _ I h) λv s1 ⟨x,H1,I1,r1,q1⟩=>?_;refine b7 (hb aa s1 σ H1 _ I1 q1) λu s2 ⟨y,H2,I2,r2,q2⟩=>?_;exact hf v u s2 x y H2 I2 r1 r2 q2
theorem Lk{op:T6}{r:R2}(ho:hW X (RX op) r)(ha:PE X a ta)(hb:PE X b tb):PE X (.BinOp a op b pos) (Lj r ta tb):=by
 intro aa s σ H Q I h;exact wpAny_BinOp (Ia ha hb I h λv u s2 x y H2 I2 rx ry q=>ho aa s2 σ H2 x y v u Q I2 rx ry q)
theorem Ll(ho:N7 X (unaryOp op) r)(ha:PE X a ta):PE X (.UnaryOp op a pos) (P8 r ta):=by
 intro aa s σ H Q I h;exact UnaryOp_ (b7 (ha aa s σ H _ I h) λv s1 ⟨x,H1,I1,r1,q1⟩=>ho aa s1 σ H1 x v Q I1 r1 q1)
theorem PN{f:Å->Å->Sem Å}{C:Int->Int->Prop}{g:Int->Int->Int}
 (rule:∀ (i j:Int) (t u:Tok) (s:É) (Q:Å->É->Prop) (E:Å->É->Prop),C i j->Q (.int (g i j) s.toks) { s with toks:=s.toks + 1 }->Ô (à X.prog X.w) X.A (f (.int i t) (.int j u)) Q E s) :
  hW X f (rI C λi j=>.int (g i j)):=by
 intro aa s σ H x y v u Q I rx ry h;obtain⟨i,j,rfl,rfl,hc,q⟩:=h;obtain⟨t,rfl⟩:=rx;obtain⟨t',rfl⟩:=ry;exact rule i j t t' s _ _ hc ⟨.int (g i j),H,I.tok _,⟨_,rfl⟩,q⟩
theorem Lm{f:Å->Å->Sem Å}{g:Int->Int->Int}
 (rule:∀ (i j:Int) (t u:Tok) (s:É) (Q:Å->É->Prop) (E:Å->É->Prop),Q (.int (g i j) s.toks) { s with toks:=s.toks + 1 }->Ô (à X.prog X.w) X.A (f (.int i t) (.int j u)) Q E s) :
  hW X f (H9 λi j=>.int (g i j)):=by
 intro aa s σ H x y v u Q I rx ry h;obtain⟨i,j,rfl,rfl,q⟩:=h;obtain⟨t,rfl⟩:=rx;obtain⟨t',rfl⟩:=ry;exact rule i j t t' s _ _ ⟨.int (g i j),H,I.tok _,⟨_,rfl⟩,q⟩
theorem Ib{f:Å->Å->Sem Å}{g:Int->Int->Bool}
 (rule:∀ (i j:Int) (t u:Tok) (s:É) (Q:Å->É->Prop) (E:Å->É->Prop),Q (.bool (g i j)) s->Ô (à X.prog X.w) X.A (f (.int i t) (.int j u)) Q E s) :
 hW X f (H9 λi j=>.bl (g i j)):=by
 intro aa s σ H x y v u Q I rx ry h;obtain⟨i,j,rfl,rfl,q⟩:=h;obtain⟨t,rfl⟩:=rx;obtain⟨t',rfl⟩:=ry;exact rule i j t t' s _ _ ⟨.bl (g i j),H,I,rfl,q⟩
def N8(i j:Int):Prop:=0<=j/\j<=1000000/\i.natAbs < 2 ^ 64
def Ic:hW X (RX .Add) (H9 λi j=>.int (i + j)):=Lm λ_ _ _ _ _ _ _ q=>add_int q
def Ie:hW X (RX .Sub) (H9 λi j=>.int (i - j)):=Lm λ_ _ _ _ _ _ _ q=>sub_int q
theorem Ig:hW X (binaryOp .Mod) (rI (λ_ j=>0 < j) λi j=>.int (i % j)):=PN λi j _ _ _ _ _ hc q=>by
 have h1:(0:Int) < j:=hc;exact mod_int' ∅ (by rw[Int.fmod_eq_emod_of_nonneg i ∅];exact q)
def Ih:hW X (RX .Pow) (rI N8 λi j=>.int (i ^ j.toNat)):=PN λ_ _ _ _ _ _ _ hc q=>pow_int_small hc.1 hc.2.1 hc.2.2 q
theorem P9{f:Å->Sem Å}{g:Int->Int}
 (rule:∀ (i:Int) (t:Tok) (s:É) (Q:Å->É->Prop) (E:Å->É->Prop),Q (.int (g i) s.toks) { s with toks:=s.toks + 1 }->Ô (à X.prog X.w) X.A (f (.int i t)) Q E s) :
  N7 X f (rU λi=>.int (g i)):=by
 intro aa s σ H x v Q I rx h;obtain⟨i,rfl,q⟩:=h;obtain⟨t,rfl⟩:=rx;exact rule i t s _ _ ⟨.int (g i),H,I.tok _,⟨_,rfl⟩,q⟩
def Ii:N7 X (unaryOp .USub) (rU λi=>.int (-i)):=P9 λ_ _ _ _ _ q=>neg_int q
theorem Br{k k':Bool}(I:Inv X aa σ H s)(q:Q (.bl k) H)(e:k=k'):EP X aa σ Q (.bool k') s:=by
 subst e;exact⟨.bl k,H,I,rfl,q⟩
theorem Ln:hW X (Qw .LtE) (H9 λi j=>.bl (decide (i<=j))):=Ib λ_ _ _ _ _ _ _ q=>le_int q
theorem Lo:hW X (Qw .Gt) (H9 λi j=>.bl (decide (j < i))):=Ib λ_ _ _ _ _ _ _ q=>gt_int q
theorem Lp:hW X (Qw .GtE) (H9 λi j=>.bl (decide (j<=i))):=Ib λ_ _ _ _ _ _ _ q=>ge_int q
theorem EJ:hW X (Qw .IsNot) (λx y H Q=>y=.bp/\Q (.bl (!decide (x=.bp))) H):=by
 intro aa s σ H x y v u Q I rx ry h;obtain⟨rfl,q⟩:=h;cases ry;refine isnot_none_gen (Br I q ?_);cases x <;> first
  |(cases rx;rfl)
  |(obtain⟨t,rfl⟩:=rx;rfl)
theorem EK(ho:hW X (Qw op) r)(ha:PE X a ta)(hb:PE X b tb)(hm:Xy op b=false):PE X (.Compare a [op] [b] pos) (Lj r ta tb):=by
 intro aa s σ H Q I h;exact wpAny_Compare1 (Ia ha hb I h λv u s2 x y H2 I2 rx ry q=>ho aa s2 σ H2 x y v u Q I2 rx ry q) hm
def G3(t:TE):TT:=λσ H Q=>t σ H λx H'=>∃ k,x=.bl k/\Q k H'
theorem EL(ho:hW X (Qw op) r)(ha:PE X a ta)(hb:PE X b tb)(hm:Xy op b=false):PT X (.Compare a [op] [b] pos) (G3 (Lj r ta tb)):=by
 intro aa s σ H Q I h;refine wpAny_isTrue_Compare1 (b7 (ha aa s σ H _ I h) λv s1 ⟨x,H1,I1,r1,q1⟩=>b7 (hb aa s1 σ H1 _ I1 q1) λu s2 ⟨y,H2,I2,r2,q2⟩ =>
  b7 (ho aa s2 σ H2 x y v u _ I2 r1 r2 q2) λc s3 ⟨z,H3,I3,r3,k,e,q3⟩=>?_) hm
 subst e;cases r3;exact QR ⟨H3,I3,q3⟩
def wI(r r':R2)(ta tb tc:TE):TE:=λσ H Q=>ta σ H λx H1=>tb σ H1 λy H2=>r x y H2 λz H3=>∃ k,z=.bl k /\
 (if k=true then tc σ H3 λw' H4=>r' y w' H4 Q else Q (.bl false) H3)
theorem Bt(ho:hW X (Qw op) r)(ho':hW X (Qw op') r')(ha:PE X a ta)(hb:PE X b tb)(hc:PE X c tc)
 (hm:lastMarks [op,op'] [b,c]=false:=by with_unfolding_all rfl):PE X (.Compare a [op,op'] [b,c] pos) (wI r r' ta tb tc):=by
 intro aa s σ H Q I h;refine Compare_chain (b7 (ha aa s σ H _ I h) λv s1 ⟨x,H1,I1,r1,q1⟩=>chain_link (b7 (hb aa s1 σ H1 _ I1 q1) λu s2 ⟨y,H2,I2,r2,q2⟩ =>
  b7 (ho aa s2 σ H2 x y v u _ I2 r1 r2 q2) λd s3 ⟨z,H3,I3,r3,k,e,q3⟩=>?_)) hm
 subst e;cases r3;refine QR ?_;cases k with
 |false=>exact ite_ff ⟨.bl false,H3,I3,rfl,q3⟩|true=>exact ite_tt (chain_last (b7 (hc aa s3 σ H3 _ I3 q3) λw' s4 ⟨z',H4,I4,r4,q4⟩=>ho' aa s4 σ H4 y z' u w' Q I4 r2 r4 q4))
theorem Bu(ho:hW X (Qw op) r)(ho':hW X (Qw op') r')(ha:PE X a ta)(hb:PE X b tb)(hc:PE X c tc)
 (hm:lastMarks [op,op'] [b,c]=false:=by with_unfolding_all rfl):PT X (.Compare a [op,op'] [b,c] pos) (G3 (wI r r' ta tb tc)):=by
 intro aa s σ H Q I h;refine isTrue_chain (b7 (ha aa s σ H _ I h) λv s1 ⟨x,H1,I1,r1,q1⟩=>test_link (b7 (hb aa s1 σ H1 _ I1 q1) λu s2 ⟨y,H2,I2,r2,q2⟩ =>
  b7 (ho aa s2 σ H2 x y v u _ I2 r1 r2 q2) λd s3 ⟨z,H3,I3,r3,k,e,q3⟩=>?_)) hm
 subst e;cases r3;refine QR ?_;cases k with
 |false =>
  obtain⟨k',e',q'⟩:=q3;cases e';exact ite_ff ⟨H3,I3,q'⟩
 |true =>
  refine ite_tt (test_last (b7 (hc aa s3 σ H3 _ I3 q3) λw' s4 ⟨z',H4,I4,r4,q4⟩=>b7 (ho' aa s4 σ H4 y z' u w' _ I4 r2 r4 q4) λd' s5 ⟨z2,H5,I5,r5,k2,e2,q5⟩=>?_));subst e2;cases r5;exact QR ⟨H5,I5,q5⟩
theorem rN:(sizeLine:Nat) < 2 ^ 63:=by rw[Qy];decide
theorem vals1(r:Vals [x] us):∃ u,us=[u]/\RelV x u:=by
 cases r with
 |cons r1 r2=>cases r2;exact⟨_,rfl,r1⟩
theorem vals2(r:Vals [x,y] us):∃ u w',us=[u,w']/\RelV x u/\RelV y w':=by
 cases r with
 |cons r1 r2 =>
  cases r2 with
  |cons r3 r4=>cases r4;exact⟨_,_,rfl,r1,r3⟩
theorem Bv:bZ X (.builtin "abs") (λxs H Q=>∃ i,xs=[.int i]/\Q (.int (if i < 0 then -i else i)) H):=by
 intro aa s σ H xs us Q I r h;obtain⟨i,rfl,q⟩:=h;obtain⟨u,rfl,t,rfl⟩:=vals1 r;exact call_abs_int λu tk=>⟨.int (if i < 0 then -i else i),H,I.tok _,⟨_,rfl⟩,q⟩
theorem zU(hc:X.calm=true):bZ X (.builtin "max") (λxs H Q=>∃ i j,xs=[.int i,.int j]/\Q (.int (if j > i then j else i)) H):=by
 intro aa s σ H xs us Q I r h;obtain⟨i,j,rfl,q⟩:=h;obtain⟨u,w',rfl,⟨t,rfl⟩,⟨t',rfl⟩⟩:=vals2 r;refine max_two_ints (I.ok.hd hc) λh' tk k=>⟨_,H,I.kept k,?_,q⟩;by_cases hj:j > i
 ·rw[if_pos hj,if_pos hj];exact⟨_,rfl⟩
 ·rw[if_neg hj,if_neg hj];exact⟨_,rfl⟩
theorem zV(hc:X.calm=true):bZ X (.builtin "min") (λxs H Q=>∃ i j,xs=[.int i,.int j]/\Q (.int (if j < i then j else i)) H):=by
 intro aa s σ H xs us Q I r h;obtain⟨i,j,rfl,q⟩:=h;obtain⟨u,w',rfl,⟨t,rfl⟩,⟨t',rfl⟩⟩:=vals2 r;refine min_two_ints (I.ok.hd hc) λh' tk k=>⟨_,H,I.kept k,?_,q⟩;by_cases hj:j < i
 ·rw[if_pos hj,if_pos hj];exact⟨_,rfl⟩
 ·rw[if_neg hj,if_neg hj];exact⟨_,rfl⟩
theorem qw:bZ X (.type "int") (λxs H Q=>(∃ i,xs=[.int i]/\Q (.int i) H)\/∃ k,xs=[.bl k]/\Q (.int (if k then 1 else 0)) H):=by
 intro aa s σ H xs us Q I r h;rcases h with ⟨i,rfl,q⟩ | ⟨k,rfl,q⟩
 ·obtain⟨u,rfl,t,rfl⟩:=vals1 r;exact call_int_int ⟨.int i,H,I,⟨_,rfl⟩,q⟩
 ·obtain⟨u,rfl,r1⟩:=vals1 r;cases r1;exact call_int_bool ⟨.int (if k then 1 else 0),H,I.tok _,⟨_,rfl⟩,q⟩
end
structure dW(k:Nat)(A:Around):Prop where
 hd:A.handled=none
 dp:A.depth + 3 * k + 5 < recursionLimit
 un:A.units + 16 * k + 200 < cLine
theorem dW.deeper{k:Nat}(r:dW (k + 1) A)(env:Env):dW k (A.deeper env):=
 ⟨r.hd,by have:=r.dp;show A.depth + 1 + 3 * k + 5 < _;omega,by have:=r.un;show A.units + 3 + 16 * k + 200 < _;omega⟩
theorem dW.depth{k:Nat}(r:dW k A):A.depth < recursionLimit:=by have:=r.dp;omega
theorem dW.units{k:Nat}(r:dW k A):A.units + 64 < cLine:=by have:=r.un;omega
def Lq:TA:=λ_ H Q=>Q [] H
def G4(ta:TE)(tr:TA):TA:=λσ H Q=>ta σ H λx H1=>tr σ H1 λxs H2=>Q (x::xs) H2
section
variable {X:Cx}{e:Ù}{es:Zm}{te:TE}{t:TA}{pos:Pos}
def lE:PA X [] Lq:=λ_ _ _ _ H Q I h=>Vd ⟨[],H,I,.nil,h⟩
theorem hZ(ha:PE X e te)(hr:PA X es t)(hs:þ (e::es) X.env=(false,eval e X.env)::þ es X.env:=by rfl):PA X (e::es) (G4 te t):=by
 intro pos aa s σ H Q I h;rw[hs];show Ô _ _ (spliced ((false,eval e X.env)::Uq pos (þ es X.env))) _ _ s;refine XE (b7 (ha aa s σ H _ I h) λu s1 ⟨x,H1,I1,r1,q1⟩=>?_);exact b7 (hr pos aa s1 σ H1 _ I1 q1) λus s2 ⟨xs,H2,I2,r2,q2⟩=>⟨x::xs,H2,I2,.cons r1 r2,q2⟩
def N9(t:TA):TE:=λσ H Q=>t σ H λxs H1=>xs.length<=sizeLine/\∀ p,H1 p=none->Q (.ref p) (upd H1 p (.tup xs))
def Oa(t:TA):TE:=λσ H Q=>t σ H λxs H1=>xs.length<=sizeLine/\∀ p,H1 p=none->Q (.ref p) (upd H1 p (.lst xs))
theorem Ij(h:PA X es t):PE X (.Tuple es x1 pos) (N9 t):=by
 intro aa s σ H Q I hq;refine wpAny_Tuple_spliced (b7 (h pos aa s σ H _ I hq) λus s1 ⟨xs,H1,I1,r,z,q⟩=>⟨by rw[← r.length];exact z,?_⟩)
 have hf:H1 s1.heap.objs.size=none:=I1.aV.fresh (Ñ _);refine⟨.ref s1.heap.objs.size,upd H1 s1.heap.objs.size (.tup xs),I1.laid (t':=s1.toks) (λb u e=>Ã _ e) (Ñ _) ?_,rfl,q _ hf⟩;exact⟨z,us,r,⟨_,Ò _ rfl,rfl,_,rfl⟩⟩
theorem Ik(h:PA X es t):PE X (.List es pos) (Oa t):=by
 intro aa s σ H Q I hq;refine wpAny_List_spliced (b7 (h pos aa s σ H _ I hq) λus s1 ⟨xs,H1,I1,r,z,q⟩=>⟨by rw[← r.length];exact z,?_⟩)
 have hf:H1 s1.heap.objs.size=none:=I1.aV.fresh (Ñ _);refine⟨.ref s1.heap.objs.size,upd H1 s1.heap.objs.size (.lst xs),I1.laid (t':=s1.toks) (λb u e=>Ã _ e) (Ñ _) ?_,rfl,q _ hf⟩;exact⟨z,us,0,r,Ò _ rfl⟩
end
abbrev Sp:=List V->Hp->VK->XK->Prop
abbrev Ba:=List Env->Hp->É->XK->Å->É->Prop
structure uj(P:Program)(w:World)(K:PySem.W.Frag)(mg:Str->Option Value)(base:Heap)(A:Around)(outer:List Env)(s:Shared)(H:Hp):Prop where
 frames:A.frames=some outer
 mod:Mod K mg base
 bs:∀ b o,base.get? b=some o->s.heap.get? b=some o/\H b=none
 bsz:base.objs.size<=s.heap.objs.size
 nJ:s.heap.FunFrames base outer
 frf:∀ b∈hV outer,H b=none
 aV:jD P w H s.heap
 bare:AllBare s.gens
def CE(outer:List Env)(P:â)(w:ó)(H:Hp)(s:É)(Q:VK)(u:Å)(s':É):Prop:=
 ∃ v H',s'.os=s.os/\Um s'.gens/\Un (hV outer) [] H H' s.heap s'.heap/\jD P w H' s'.heap/\RelV v u/\Q v H'
def CR(CX:Ba)(outer:List Env)(P:â)(w:ó)(H:Hp)(s:É)(Q:VK)(E:XK)(r:Result)(s':É):Prop:=
 match r with
 |.ok (.ret u)=>CE outer P w H s Q u s'|.ok _=>False|.error e=>CX outer H s E e s'
structure jQ(P:Program)(w:World)(K:PySem.W.Frag)(mg:Str->Option Value)(base:Heap)(CX:Ba)(k:Nat)(f:Addr)(fd:FuncData)(ps:List Str)(sp:Sp):Prop where
 len:∀ vs H Q E,sp vs H Q E->vs.length=ps.length
 run:∀ (A:Around) (outer:List Env) (s:Shared) (H:Hp) (args:Args) (us:List Value) (vs:List V) (Q:VK) (E:XK),dW k A->uj P w K mg base A outer s H->BindsTo s fd args (ps.zip us)->Vals vs us->sp vs H Q E ->
  codeAny (model P w) A (.call (.ref f) args) (CR CX outer P w H s Q E) s
section
variable {X:Cx}{aa:List (Ì × Obj)}{σ:St}{H:Hp}{s s':É}
def Inv.EM(I:Inv X aa σ H s):uj X.prog X.w X.K X.mg X.base X.A X.stack s H:=
 ⟨I.ok.frames,I.ok.mod,I.bs,ê I.ok.bsz I.sz,I.stack,I.kF,I.aV,I.bare⟩
theorem Inv.after(I:Inv X aa σ H s)(h:CE X.stack X.prog X.w H s Q u s'):EP X aa σ Q u s':=by
 obtain⟨v,H',os,bare,un,aV,r,q⟩:=h;obtain⟨hh,g,d,t,os'⟩:=s';obtain rfl:os'=s.os:=os;exact⟨v,H',I.call (h':=hh) (g':=g) (d':=d) (t':=t) (ch:=[]) un aV bare (λb z=>absurd z (by simp)),r,q⟩
end
def Lr(sp:Sp)(dvs:List V)(E:XK)(t:TA):TE:=λσ H Q=>t σ H λvs H1=>sp (vs++dvs) H1 Q E
def Binds(K:Â)(fd:Rt)(ps:Zk)(ds:Zj):Prop:=
 ∀ (s:É) (us:Zj),K.In s.heap->(us++ds).length=ps.length->WW s fd ⟨us,[]⟩ (ps.zip (us++ds))
def Binds.all{K:Â}{fd:Rt}{ps:Zk}(h:∀ us:Zj,us.length=ps.length->W4 fd ⟨us,[]⟩=pure (ps.zip us)):Binds K fd ps []:=λs us _ hl=>by
 rw[Ri] at hl ⊢;exact .of_eq (h us hl)
def Passes(CX:Ba)(X:Cx)(E:XK):Prop:=∀ (aa:List (Ì × Obj)) (σ:St) (H:Hp) (s:É) (e:Å) (s':É),Inv X aa σ H s->CX X.stack H s E e s'->X.xe e s'
section
variable {X:Cx}{CX:Ba}{k:Nat}{f C:Ì}{fd:Rt}{ps:Zk}{sp:Sp}{dvs:List V}{ds:Zj}{E:XK}{x m:Str}{p pos apos:Pos}{e o:Ù}{es:Zm}{ta:TE}{t:TA}
theorem Il(F:jQ X.prog X.w X.K X.mg X.base CX k f fd ps sp)(hr:dW k X.A)(hb:Binds X.K fd ps ds)(hd:Vals dvs ds)(hx:Passes CX X E)
 (I:Inv X aa σ H s) (r:Vals vs us) (h:sp (vs++dvs) H Q E):Ô (à X.prog X.w) X.A (call (.ref f) us) (EP X aa σ Q) X.xe s:=by
 have r2:Vals (vs++dvs) (us++ds):=r.append hd;have hl:(us++ds).length=ps.length:=by rw[← r2.length];exact F.len _ _ _ _ h
 refine VJ (RP (F.run X.A X.stack s H ⟨us,[]⟩ (us++ds) (vs++dvs) Q E hr I.EM (hb s us I.t9 hl) r2 h) λr s' hq=>?_);cases r with
 |error e=>exact hx aa σ H s e s' I hq
 |ok fl =>
  cases fl with
  |ret u=>exact I.after hq|next=>exact My hq
  |brk=>exact My hq|cont=>exact My hq
theorem EN(F:jQ X.prog X.w X.K X.mg X.base CX k f fd ps sp)(hr:dW k X.A)(hg:Gl X x)(hm:X.mg x=some (.ref f))(hk:Ur X.K (.ref f)=true)(hb:Binds X.K fd ps ds)(hd:Vals dvs ds)(hx:Passes CX X E)
 (ha:PA X (e::es) t) (hdb:(x == ("__debug__":Str))=false:=by decide) (he:þ (e::es) X.env=(false,eval e X.env)::þ es X.env:=by rfl) (hpl:(Uq pos (þ es X.env)).any (·.1)=false:=by rfl) :
  PE X (.Call (.Name x p) (e::es) [] pos) (Lr sp dvs E t):=by
 intro aa s σ H Q I h;refine SJ (m7 I hg hm ?_ hdb);refine callWith_K (h₀:=X.base) I.ok.mod.kin hk (b7 (ha pos aa s σ H _ I h) λus s1 ⟨vs,H1,I1,r,q⟩=>⟨I1.t9,?_⟩) he hpl;exact Il F hr hb hd hx I1 r q
end
structure fb(N P:List Str)(sc:Scope):Prop where
 kind:sc.kind=.function
 co:sc.isCoroutine=false
 gen:sc.isGenerator=false
 nd:N.Nodup
 pre:N.take P.length=P
 par:∀ x∈P,sc.names.lookup x=some .local\/sc.names.lookup x=some .cell
 nofree:∀ y∈sc.names,y.2≠.free
theorem qx{kindOf:Str->Option SF}{x:Str}:∀ {binds:List (Str × Å)}{m:Str->Zn},(∀ v,(x,v) ∉ binds)->bindL kindOf binds m x=m x
 |[],_,_=>rfl
 |(n,v)::r,m,h=>by
  unfold bindL;rw[qx λw hw=>h w (È _ hw)];split
  ·have:x≠n:=by rintro rfl;exact h v Ë
   simp[this]
  ·rfl
theorem qy{kindOf:Str->Option SF}{x:Str}:∀ {binds:List (Str × Å)}{m:Str->Zn},(∀ v,(x,v) ∉ binds)->XN kindOf binds m x=m x
 |[],_,_=>rfl
 |(n,v)::r,m,h=>by
  unfold XN;rw[qy λw hw=>h w (È _ hw)];split
  ·rfl
  ·have:x≠n:=by rintro rfl;exact h v Ë
   simp[this]
theorem qz{kindOf:Str->Option SF}{x:Str}{v:Å}:∀ {P:Zk}{vs:Zj}{i:Nat}{m:Str->Zn},P.Nodup->P[i]?=some x->vs[i]?=some v->kindOf x=some .local ->
 bindL kindOf (P.zip vs) m x=some v
 |[],_,_,_,_,h,_,_=>by simp at h|_::_,[],_,_,_,_,h,_=>by simp at h
 |p::P,w::vs,0,m,nd,h1,h2,hk=>by
  simp at h1 h2;subst h1;subst h2;show bindL kindOf ((p,w)::P.zip vs) m p=_;unfold bindL;rw[qx λv hv=>(Q7.mp nd).1 (Vg hv).1,if_pos hk];simp
 |p::P,w::vs,i + 1,m,nd,h1,h2,hk=>by
  show bindL kindOf ((p,w)::P.zip vs) m x=_;unfold bindL;exact qz (i:=i) (Q7.mp nd).2 (by simpa using h1) (by simpa using h2) hk
theorem qA{kindOf:Str->Option SF}{x:Str}{v:Å}:∀ {P:Zk}{vs:Zj}{i:Nat}{m:Str->Zn},P.Nodup->P[i]?=some x->vs[i]?=some v->kindOf x≠some .local ->
 XN kindOf (P.zip vs) m x=some v
 |[],_,_,_,_,h,_,_=>by simp at h|_::_,[],_,_,_,_,h,_=>by simp at h
 |p::P,w::vs,0,m,nd,h1,h2,hk=>by
  simp at h1 h2;subst h1;subst h2;show XN kindOf ((p,w)::P.zip vs) m p=_;unfold XN;rw[qy λv hv=>(Q7.mp nd).1 (Vg hv).1,if_neg hk];simp
 |p::P,w::vs,i + 1,m,nd,h1,h2,hk=>by
  show XN kindOf ((p,w)::P.zip vs) m x=_;unfold XN;exact qA (i:=i) (Q7.mp nd).2 (by simpa using h1) (by simpa using h2) hk
def start(N:Zk)(vs:List V):St:=vs.map some++Sf (N.length - vs.length) none
def gu(CX:Ba)(P:â)(w:ó)(K:Â)(mg:Str->Zn)(base:ø)(N:Zk)(qual:Str)(scope:tv)(f:Ì)(cd:Å)(A:ö)(outer:List Env)(s:É)(H:Hp)(E:XK):Cx where
 prog:=P
 w:=w
 K:=K
 mg:=mg
 base:=base
 A:=A.deeper (T2 qual scope s.heap.objs.size f cd)
 N:=N
 s₀:=s
 H₀:=H
 env:=T2 qual scope s.heap.objs.size f cd
 outer:=outer
 stack:=T2 qual scope s.heap.objs.size f cd::outer
 ex:=[]
 calm:=true
 fn:=λ_=>true
 pn:=[]
 xe:=λe s'=>Ô (à P w) (A.deeper (T2 qual scope s.heap.objs.size f cd)) (X3 (T2 qual scope s.heap.objs.size f cd) e) (λ_ s''=>CX outer H s E e s'') (λe' s''=>CX outer H s E e' s'') s'
theorem uk{sc:tv}{n:Nat}{x:Str}(h:sc.names.lookup x=some .cell):∃ c,(XM n sc.names []).lookup x=some c:=by
 have q:=UO sc.names n [] (.inl h);exact Wd.mp q
theorem qB{CX:Ba}{P:â}{w:ó}{K:Â}{mg:Str->Zn}{base:ø}{N ps:Zk}{qual:Str}{scope:tv}{f:Ì}{cd:Å}{A:ö}{outer:List Env}{s s1:É}{H:Hp}{E:XK}{us:Zj}{vs:List V}
 (S:fb N ps scope) (hd:A.handled=none) (e0:uj P w K mg base A outer s H) (hl:vs.length=ps.length) (r:Vals vs us)
 (x:InCallC s s.heap.objs.size (bindL (T2 qual scope s.heap.objs.size f cd).kindOf (ps.zip us) λ_=>none) (XM (s.heap.objs.size + 1) scope.names []) (XN (T2 qual scope s.heap.objs.size f cd).kindOf (ps.zip us) λ_=>none) s1) :
 Inv (gu CX P w K mg base N qual scope f cd A outer s H E) [] (start N vs) H s1:=by
 have hpl:ps.length<=N.length:=by have:=congrArg List.length S.pre;rw[QP] at this;omega
 obtain⟨h1,tk,rfl,hk⟩:=x.done;have noA:∀ b:Ì,b ∉ (gu CX P w K mg base N qual scope f cd A outer s H E).ex:=λb z=>absurd (show b∈([]:Zr) from z) (by simp)
 refine⟨⟨e0.mod,S.kind,rfl,rfl,Ñ _,λy z c h1 h2=>?_,λy hy=>?_,λy c _ h=>?_,λ_=>hd,WY e0.frames,.inr ⟨rfl,rfl⟩,λb z=>absurd z (noA b),e0.bs,e0.bsz,λb _ _=>noA b,λb z=>absurd z (noA b),e0.nJ,e0.frf⟩,
  rfl,e0.bare,Un.kept hk,⟨_,x.toInCall.ns,λi y v h1 h2 h3=>?_⟩,λy c h=>⟨_,x.cell y c h⟩,e0.aV.fresh (Ñ _),λy c h=>?_,λp hp=>absurd (show p∈([]:List (Ì × Obj)) from hp) (by simp),e0.aV.kept hk,?_⟩
 ·exact name_of_addr x.apart (QN h1) (QN h2)
 ·have hy:scope.names.lookup y=some .cell\/scope.names.lookup y=some .free:=hy;rcases hy with hy | hy
  ·exact uk hy
  ·exact absurd rfl (S.nofree _ (QN hy))
 ·exact Rj (x.above y c (QN h))
 ·have hi:i < vs.length:=by
   unfold start at h2;by_cases hi:i < vs.length
   ·exact hi
   ·rw[QJ (by simpa using hi)] at h2
    rw[Ue] at h2;split at h2 <;> cases h2
  have ha:vs[i]?=some v:=by
   unfold start at h2;rw[Sb (by simpa using hi),Ø] at h2
   cases e:vs[i]? with
   |none=>rw[e] at h2;cases h2
   |some a=>rw[e] at h2;cases h2;rfl
  obtain⟨u,hu,rv⟩:=r.get ha;have hp:ps[i]?=some y:=by
   rw[← S.pre,List.getElem?_take_of_lt ∅];exact h1
  have ndP:ps.Nodup:=by rw[← S.pre];exact S.nd.sublist (List.take_sublist _ _)
  refine⟨u,rv,?_⟩;rcases S.par y (ð hp) with k | k
  ·exact .inl ⟨k,qz ndP hp hu k⟩
  ·obtain⟨c,e⟩:=uk (n:=s.heap.objs.size + 1) k;refine .inr ⟨.inl k,c,e,?_⟩;have q:=x.cell y c e;rw[qA ndP hp hu (by show scope.names.lookup y≠_;rw[k];decide)] at q
   exact q
 ·exact e0.aV.fresh (Rj (x.above y c (QN h)))
 ·unfold start;show _=N.length;rw[Rk,Ä,Xc];omega
theorem Ls{CX:Ba}{P:â}{w:ó}{K:Â}{mg:Str->Zn}{base:ø}{k:Nat}{f:Ì}{name qual:Str}{params:Su}{body:List RM}{scope:tv}{dV kV doc pm cdv ct oc:Å}{an od:Zl}
 {osl:Array Zn}{N ps:Zk}{sp:Sp} (lk:K.lookup f=some ⟨oc,od,.func (fnOf name qual params body scope dV kV doc pm an cdv ct),osl⟩) (hcd:X9 K cdv qual=true) (S:fb N ps scope)
 (len:∀ vs H Q E,sp vs H Q E->vs.length=ps.length)
 (hbody:∀ (A:ö) (outer:List Env) (s:É) (H:Hp) (vs:List V) (Q:VK) (E:XK),dW k (A.deeper (T2 qual scope s.heap.objs.size f cdv))->sp vs H Q E ->
   ∃ t,mr (gu CX P w K mg base N qual scope f cdv A outer s H E) body t/\t { nx:=λ_ H'=>Q .bp H',rt:=Q } (start N vs) H) :
  jQ P w K mg base CX (k + 1) f (fnOf name qual params body scope dV kV doc pm an cdv ct) ps sp:=by
 refine⟨len,λA outer s H args us vs Q E hr e0 hb r hsp=>?_⟩;have hl:=len _ _ _ _ hsp;have KX:K.In s.heap:=e0.mod.kin.keeps λb o e=>(e0.bs b o e).1;have lim:s.heap.NoLimit:=e0.mod.nolimit.keeps λb o e=>(e0.bs b o e).1;have hkind:∀ y∈ps.zip us,scope.names.lookup y.1=some .local\/(scope.names.lookup y.1=some .cell/\((XM (s.heap.objs.size + 1) scope.names []).lookup y.1).isSome=true):=λ⟨n,v⟩ hy=>by
  rcases S.par n (Vg hy).1 with q | q
  ·exact .inl q
  ·exact .inr ⟨q,UO _ _ _ (.inl q)⟩
 refine Ym hr.depth (KX _ _ lk) rfl S.co S.gen rfl (codeRec_of KX hcd) (hb _ _ _ _ ?_);refine WZ S.kind hkind λenv he s1 x=>?_;subst he;refine⟨lim.keeps x.toInCall.keep,codeAny_func ?_⟩;obtain⟨t,ht,hq⟩:=hbody A outer s H vs Q E (hr.deeper _) hsp;have I:Inv (gu CX P w K mg base N qual scope f cdv A outer s H E) [] (start N vs) H s1:=qB S hr.hd e0 hl r x;refine QM (ht [] s1 (start N vs) H _ I hq) (λfl s' hs=>?_) λe s' hs=>hs;have fin:∀ {σ':St}{H':Hp}{v:V}{u:Å},Inv (gu CX P w K mg base N qual scope f cdv A outer s H E) [] σ' H' s'->RelV v u->Q v H'->CE outer P w H s Q u s':=
  λ{σ' H' v u} J rv q=>⟨v,H',J.os,J.bare,J.base,J.aV,rv,q⟩
 cases fl with
 |ret u =>
  obtain⟨v,σ',H',J,rv,q⟩:=hs;exact fin J rv q
 |next =>
  obtain⟨σ',H',J,q⟩:=hs;exact fin (v:=V.bp) (u:=è) J rfl q
 |brk =>
  obtain⟨_,_,_,q⟩:=hs;exact My q
 |cont =>
  obtain⟨_,_,_,q⟩:=hs;exact My q
section
variable {X:Cx}{x:Str}{p pos:Pos}{e:Ù}{es:Zm}{t:TA}{id T:String}{r:List V->Hp->VK->Prop}
def Ob(r:List V->Hp->VK->Prop)(t:TA):TE:=λσ H Q=>t σ H λvs H1=>r vs H1 Q
theorem nM(hc:bZ X (.builtin id) r)(hg:Gl X x)(hm:X.mg x=none)(hv:õ x=some (.builtin id))(ha:PA X (e::es) t)(hn:x≠"__name__":=by decide)(hdb:(x == ("__debug__":Str))=false:=by decide)
  (he:þ (e::es) X.env=(false,eval e X.env)::þ es X.env:=by rfl) (hpl:(Uq pos (þ es X.env)).any (·.1)=false:=by rfl):PE X (.Call (.Name x p) (e::es) [] pos) (Ob r t):=by
 intro aa s σ H Q I h;refine SJ (hY I hg hm hv ?_ hn hdb);exact PyProof.Rows.callWith_builtin1 (b7 (ha pos aa s σ H _ I h) λus s1 ⟨vs,H1,I1,r1,q1⟩=>hc aa s1 σ H1 vs us Q I1 r1 q1) he hpl
theorem qC(hc:bZ X (.type T) r)(hg:Gl X x)(hm:X.mg x=none)(hv:õ x=some (.type T))(ha:PA X (e::es) t)(hn:x≠"__name__":=by decide)(hdb:(x == ("__debug__":Str))=false:=by decide)
  (he:þ (e::es) X.env=(false,eval e X.env)::þ es X.env:=by rfl) (hpl:(Uq pos (þ es X.env)).any (·.1)=false:=by rfl):PE X (.Call (.Name x p) (e::es) [] pos) (Ob r t):=by
 intro aa s σ H Q I h;refine SJ (hY I hg hm hv ?_ hn hdb);exact QA (b7 (ha pos aa s σ H _ I h) λus s1 ⟨vs,H1,I1,r1,q1⟩=>hc aa s1 σ H1 vs us Q I1 r1 q1) he hpl
end
end L2
namespace HT
open PySem PyProof.Rows
def Bw(A:ö)(s:É)(a:Int)(t:Tok)(c:Int)(u:Tok):∃ e,SeqAt.EqAt A s (.int a t) (.int c u) e/\(e=true↔a=c):=
 ⟨(a == c),SeqAt.EqAt.int_int a t c u,by simp⟩
theorem um(A:ö)(s:É)(a:Int)(t:Tok)(c:Int)(u:Tok)(prog:â)(w:ó)(E:Å->É->Prop)(Q:Å->É->Prop)(h:Q (.bool (decide (a < c))) s) :
  Ô (à prog w) A (Yx .Lt (.int a t) (.int c u)) Q E s:=
 (lt_int h:Ô (à prog w) A (Qw .Lt (.int a t) (.int c u)) Q E s)
section
variable {prog:â}{w:ó}{A:ö}{E:Å->É->Prop}{s:É}
theorem EO(ht:UE s.heap t vs.toArray)(hb:UE s.heap b ws.toArray)(hv:vs≠[])
 (h1:ws=[]->Q (.ref t) s) (h2:ws≠[]->Q (.ref s.heap.objs.size) { s with heap:=s.heap.push { cls:=.type "tuple",data:=.seq (vs++ws).toArray } })
  (hsz:vs.length + ws.length<=sizeLine):Ô (à prog w) A (RX .Add (.ref t) (.ref b)) Q E s:=by
 obtain⟨⟨cls,dd,data,sl⟩,ho,hc,n,hd⟩:=id ht;obtain⟨⟨cls2,dd2,data2,sl2⟩,ho2,hc2,n2,hd2⟩:=id hb;simp only at hc hd hc2 hd2;subst hc hd hc2 hd2;have e:vs.toArray++ws.toArray=(vs++ws).toArray:=by simp
 by_cases hw:ws=[]
 ·exact X7 ⟨_,ho,rfl⟩ ⟨_,ho2,rfl⟩ Wk Xw T5 TJ (To _ _)
   (tuple_addW1 t b vs.toArray ws.toArray n n2 dd dd2 sl sl2 (by simpa using hv) (by simp[hw])) ⟨ho,ho2,h1 hw⟩
 ·refine X7 ⟨_,ho,rfl⟩ ⟨_,ho2,rfl⟩ Wk Xw T5 TJ (To _ _)
   (tuple_addW2 t b vs.toArray ws.toArray n n2 dd dd2 sl sl2 (by simpa using hv) (by simpa using hw) (by rw[ã,ã];exact hsz)) ⟨ho,ho2,?_⟩
  rw[e];exact h2 hw
def dD(n d:Nat):Zp->Nat
 |none=>d|some v=>if v < 0 then(v + (n:Int)).toNat else min v.toNat n
theorem yh(n d k:Nat):dD n d (some (k:Int))=min k n:=by
 show(if (k:Int) < 0 then((k:Int) + (n:Int)).toNat else min (k:Int).toNat n)=min k n;rw[if_neg ∅,ä]
theorem Im(n d:Nat)(hd:d<=n)(o:Zp):dD n d o<=n:=by
 cases o with
 |none=>exact hd
 |some v =>
  show(if v < 0 then(v + (n:Int)).toNat else min v.toNat n)<=n;by_cases hv:v < 0
  ·rw[if_pos hv];omega
  ·rw[if_neg hv];exact YD _ _
theorem yj(v:Int)(n d:Nat):(if v < 0 then max (v + (n:Int)) 0 else min v (n:Int))=((dD n d (some v):Nat):Int):=by
 show(if v < 0 then max (v + (n:Int)) 0 else min v (n:Int))=(((if v < 0 then(v + (n:Int)).toNat else min v.toNat n):Nat):Int);by_cases hv:v < 0
 ·simp only[if_pos hv];omega
 ·simp only[if_neg hv];omega
theorem wJ(lo hi:Zp)(n:Nat):VW lo hi 1 (n:Int)=(((dD n 0 lo:Nat):Int),((dD n n hi:Nat):Int)):=by
 have h1:¬ ((1:Int) < 0):=∅
 unfold VW;simp only[h1,if_false];refine YW ?_ ?_
 ·cases lo with
  |none=>rfl|some v=>exact yj v n 0
 ·cases hi with
  |none=>rfl|some v=>exact yj v n n
theorem wK(i j:Nat):UM (i:Int) (j:Int) 1=j - i:=by
 unfold UM;have h1:(1:Int) > 0:=∅
 simp only[h1,if_true,Int.ediv_one];split <;> omega
theorem nN(p:Vb v o)(h:Q o s):Ô (à prog w) A (Builtin.Slice.slicePartIndex v) Q E s:=by
 cases p with
 |none=>exact slicePart_none h|int i t=>exact slicePart_int h
theorem gO{sl:Ì}{vl vu:Å}{lo hi:Zp}{n:Nat}{Q:Int × Int × Nat->É->Prop}(hs:s.heap.IsSliceOf sl vl vu .none)(pl:Vb vl lo)(pu:Vb vu hi)
 (h:Q (((dD n 0 lo:Nat):Int),1,dD n n hi - dD n 0 lo) s):Ô (à prog w) A (sliceApplied (.ref sl) (pure (n:Int))) Q E s:=by
 obtain⟨os,hos,hcs,hds⟩:=id hs;unfold sliceApplied Builtin.Slice.sliceFields;refine À (À (Q2 hos hds (x:=vl) rfl (À (Q2 hos hds (x:=vu) rfl (À (Q2 hos hds (x:=.none) rfl (Ê ?_)))))));refine À (slicePart_none ?_);show Ô _ _ (if ((1:Int) == 0)=true then _ else _) _ _ s;rw[if_neg 1e1]
 refine À (nN pl (À (nN pu (À (Ê ?_)))));show Ô _ _ (match VW lo hi 1 (n:Int) with | (lo,hi)=>pure (lo,(1:Int),UM lo hi 1)) _ _ s
 rw[wJ lo hi n];show Ô _ _ (pure (((dD n 0 lo:Nat):Int),(1:Int),UM ((dD n 0 lo:Nat):Int) ((dD n n hi:Nat):Int) 1)) _ _ s;rw[wK];exact Ê h
theorem Bx(xs:Zo)(i k:Nat):((Ö k).filterMap λ(m:Nat)=>xs[((i:Int) + (m:Int) * 1).toNat]?).toArray=((xs.toList.drop i).take k).toArray:=by
 have e:(λ(m:Nat)=>xs[((i:Int) + (m:Int) * 1).toNat]?)=λm=>xs[i + m]?:=by
  funext m
  have:((i:Int) + (m:Int) * 1).toNat=i + m:=∅
  rw[this]
 rw[e];have:=pick_run xs i k;rw[List.filterMap_map] at this;have e2:((λx=>xs[x]?) ∘ λx=>i + x)=λm=>xs[i + m]?:=rfl;rw[e2] at this;rw[this]
theorem kI{t sl:Ì}{items:Zo}{vl vu:Å}{lo hi:Zp}{Q:Å->É->Prop}(ht:UE s.heap t items)(hs:s.heap.IsSliceOf sl vl vu .none)(pl:Vb vl lo)(pu:Vb vu hi)
 (hw:¬ (dD items.size 0 lo=0/\dD items.size items.size hi=items.size))
 (h:Q (.ref s.heap.objs.size) { s with heap:=s.heap.push { cls:=.type "tuple",data:=.seq ((items.toList.drop (dD items.size 0 lo)).take (dD items.size items.size hi - dD items.size 0 lo)).toArray } })
  (hsz:items.size<=sizeLine):Ô (à prog w) A (Vj (.ref t) (.ref sl)) Q E s:=by
 have htake:sizeOk (.seq ((items.toList.drop (dD items.size 0 lo)).take (dD items.size items.size hi - dD items.size 0 lo)).toArray):=by
  show((items.toList.drop (dD items.size 0 lo)).take (dD items.size items.size hi - dD items.size 0 lo)).toArray.size<=sizeLine;rw[ã,QP,RV,Sw];omega
 have hj:dD items.size items.size hi<=items.size:=Im _ _ (Ñ _) hi;obtain⟨os,hos,hcs,hds⟩:=id hs;have hTs:s.TypeIs (.ref sl) "slice":=⟨os,hos,hcs⟩;unfold Vj
 try with_reducible refine Q9 ?_
 first | refine À (Ê ?_) | skip
 refine À (wpAny_sequenceKey ht.typeIs 1e1 ?_)
 refine À (QK (name:=QH "__getitem__") ht.typeIs QZ
  (QG QZ ht.typeIs entry_tuple_getitem ?_ (args_tuple_getitem _ _)))
 show Ô _ _ (tupleItemsOf (.ref t) >>= _) _ _ s;refine À (tupleItemsOf_ ht ?_);refine À (So hTs ?_);rw[if_pos 1e1]
 refine À (gO hs pl pu ?_);have hno:¬ ((((dD items.size 0 lo:Nat):Int) == 0&&(1:Int) == 1&&(dD items.size items.size hi - dD items.size 0 lo) == items.size)=true):=by
  intro q;rw[Á,Á] at q;have q1:((dD items.size 0 lo:Nat):Int)=0:=eq_of_beq q.1.1;have q2:dD items.size items.size hi - dD items.size 0 lo=items.size:=eq_of_beq q.2;exact hw ⟨∅,∅⟩
 show Ô _ _ (if (((dD items.size 0 lo:Nat):Int) == 0&&(1:Int) == 1&&(dD items.size items.size hi - dD items.size 0 lo) == items.size)=true then _ else _) _ _ s;rw[if_neg hno,Bx]
 first
  |exact À (m:=Tr _) (ÿ (Ê ⟨_,rfl,Ê h⟩) htake)
  |exact À (m:=Tr _) (ÿ (À (Ê (Ê ⟨_,rfl,Ê h⟩))) htake)
  |exact À (À (m:=Tr _) (ÿ (Ê (Ê ⟨_,rfl,Ê h⟩)) htake))
  |exact À (À (m:=Tr _) (ÿ (Ê ⟨_,rfl,Ê h⟩) htake))
end
end HT
namespace L2
open PySem PySem.Spec PyProof.Rows
abbrev TO:=St->Hp->(Zp->Hp->Prop)->Prop
def PO(X:Cx)(e:Option Ù)(t:TO):Prop:=
 ∀ (aa:List (Ì × Obj)) (s:É) (σ:St) (H:Hp) (Q:Zp->Hp->Prop),Inv X aa σ H s->t σ H Q ->
  Ô (à X.prog X.w) X.A (evalPart e X.env) (λu s'=>∃ o H',Inv X aa σ H' s'/\Vb u o/\Q o H') X.xe s
def ER:TO:=λ_ H Q=>Q none H
def Lu(t:TE):TO:=λσ H Q=>t σ H λx H1=>∃ i,x=.int i/\Q (some i) H1
theorem intsAre_of:∀ {us:Zj},Vals (ns.map V.int) us->SH us ns:=by
 induction ns with
 |nil=>intro us r;rw[VD] at r;cases r;exact .nil
 |cons n ns ih =>
  intro us r;rw[QS] at r;cases r with
  |cons r1 r2 =>
   obtain⟨t,e⟩:=r1;subst e;exact .cons n t (ih r2)
section
variable {X:Cx}{e:Ù}{te:TE}{lo hi:Option Ù}{tl th:TO}{pos p2:Pos}
theorem ES:PO X none ER:=by
 intro aa s σ H Q I h;rw[evalPart_none];exact Ê ⟨none,H,I,.none,h⟩
theorem ET(h:PE X e te):PO X (some e) (Lu te):=by
 intro aa s σ H Q I hw;rw[evalPart_some];refine b7 (h aa s σ H _ I hw) λu s1 ⟨x,H1,I1,r1,q1⟩=>?_;obtain⟨i,rfl,q⟩:=q1;obtain⟨t,rfl⟩:=r1;exact⟨some i,H1,I1,.int i t,q⟩
def Nw(X:Cx)(r:V->Zp->Zp->Hp->VK->Prop):Prop:=
 ∀ (aa:List (Ì × Obj)) (s:É) (σ:St) (H:Hp) (x:V) (v vl vu:Å) (lo hi:Zp) (sl:Ì) (Q:VK),Inv X aa σ H s->RelV x v->s.heap.IsSliceOf sl vl vu .none->Vb vl lo->Vb vu hi->r x lo hi H Q ->
  ∃ T id,typeLookup (.type T) "__getitem__"=pure (some (.builtin id))/\s.TypeIs v T/\Ô (à X.prog X.w) X.A (Vj v (.ref sl)) (EP X aa σ Q) X.xe s
def Qa(r:V->Zp->Zp->Hp->VK->Prop)(te:TE)(tl th:TO):TE:=λσ H Q=>te σ H λx H1=>tl σ H1 λl H2=>th σ H2 λu H3=>r x l u H3 Q
theorem By(hr:Nw X r)(he:PE X e te)(hl:PO X lo tl)(hu:PO X hi th):PE X (.Subscript e (.Slice lo hi none p2) pos) (Qa r te tl th):=by
 intro aa s σ H Q I h;refine Subscript_ (b7 (he aa s σ H _ I h) λv s1 ⟨x,H1,I1,r1,q1⟩=>?_);refine wpAny_Slice (b7 (hl aa s1 σ H1 _ I1 q1) λvl s2 ⟨l,H2,I2,pl,q2⟩=>b7 (hu aa s2 σ H2 _ I2 q2) λvu s3 ⟨u,H3,I3,pu,q3⟩=>?_);rw[evalPart_none];refine Ê ?_;have I4:Inv X aa σ H3 { s3 with heap:=s3.heap.push { cls:=.type "slice",data:=.fields #[vl,vu,.none] } }:=I3.kept (t':=s3.toks) λb ob q=>Ã _ q;obtain⟨T,id,hT,ht,hg⟩:=hr aa { s3 with heap:=s3.heap.push { cls:=.type "slice",data:=.fields #[vl,vu,.none] } } σ H3 x v vl vu l u s3.heap.objs.size Q I4 r1 (Heap.IsSliceOf.new ..) pl pu q3;show Ô (à X.prog X.w) X.A (subscriptTail e (.Slice lo hi none p2) v (.ref s3.heap.objs.size)) (EP X aa σ Q) X.xe { s3 with heap:=s3.heap.push { cls:=.type "slice",data:=.fields #[vl,vu,.none] } };exact tail_any (ops:=[.ref s3.heap.objs.size,v]) ht hT hg (by with_unfolding_all rfl)
def rO(xs:List V)(lo hi:Zp):List V:=(xs.drop (HT.dD xs.length 0 lo)).take (HT.dD xs.length xs.length hi - HT.dD xs.length 0 lo)
theorem mw(xs:List V)(lo hi:Zp):(rO xs lo hi).length<=xs.length:=by
 unfold rO;rw[QP,RV];omega
theorem Vals.rP(r:Vals xs us):us=[]↔xs=[]:=by
 cases r with
 |nil=>simp|cons _ _=>simp
end
def En(n:Nat)(i:Int):Zt:=if 0<=i then(if i < n then some i.toNat else none) else if -(n:Int)<=i then some (i + n).toNat else none
def Bz{α:Type}(xs:List α)(i:Int):Option α:=(En xs.length i).bind λj=>xs[j]?
theorem yk{n:Nat}{i:Int}{j:Nat}(h:En n i=some j):seqIndex? i n=some j/\j < n/\-(n:Int)<=i/\i < n:=by
 unfold En at h;by_cases h0:0<=i
 ·rw[if_pos h0] at h;by_cases h1:i < n
  ·rw[if_pos h1] at h;have e:i.toNat=j:=gV h;exact⟨by rw[Wy h0 h1,e],∅,∅,h1⟩
  ·rw[if_neg h1] at h;cases h
 ·rw[if_neg h0] at h;by_cases h1:-(n:Int)<=i
  ·rw[if_pos h1] at h;have e:(i + n).toNat=j:=gV h;exact⟨by rw[seqIndex_neg ∅ h1,e],∅,h1,∅⟩
  ·rw[if_neg h1] at h;cases h
theorem yl{α:Type}{xs:List α}{i:Int}{v:α}(h:Bz xs i=some v):∃ j,seqIndex? i xs.length=some j/\xs[j]?=some v/\j < xs.length/\-(xs.length:Int)<=i/\i < xs.length:=by
 unfold Bz at h;cases e:En xs.length i with
 |none=>rw[e] at h;cases h
 |some j =>
  rw[e] at h;obtain⟨h1,h2,h3,h4⟩:=yk e;exact⟨j,h1,h,h2,h3,h4⟩
theorem rQ{α:Type}{xs:List α}{j:Nat}{v:α}(h:xs[j]?=some v):Bz xs (j:Int)=some v:=by
 have hj:j < xs.length:=(ç.mp h).1;have e:En xs.length (j:Int)=some j:=by
  unfold En;rw[if_pos ∅,if_pos ∅];simp
 unfold Bz;rw[e];exact h
def yn(b:Ù):Prop:=∀ o i,subscripted b false o i=operate [o,i] (Vj o i)
def Nx(X:Cx)(r:R2):Prop:=
 ∀ (value slice:Ù) (aa:List (Ì × Obj)) (s:É) (σ:St) (H:Hp) (x y:V) (v u:Å) (Q:VK),Inv X aa σ H s->RelV x v->RelV y u->r x y H Q ->
  subscripted slice false v u=operate [v,u] (Vj v u)->Ô (à X.prog X.w) X.A (subscriptTail value slice v u) (EP X aa σ Q) X.xe s
def PQ(X:Cx)(id:String)(r:V->List V->Hp->VK->Prop):Prop:=
 ∀ (aa:List (Ì × Obj)) (s:É) (σ:St) (H:Hp) (x:V) (xs:List V) (v:Å) (us:Zj) (Q:VK),Inv X aa σ H s->RelV x v->Vals xs us->r x xs H Q ->
  Ô (à X.prog X.w) X.A (call (.builtin id) (v::us)) (EP X aa σ Q) X.xe s
section
variable {X:Cx}{a b:Ù}{ta tb:TE}{pos:Pos}
theorem G5(hr:Nx X r)(ha:PE X a ta)(hb:PE X b tb)(hs:yn b):PE X (.Subscript a b pos) (Lj r ta tb):=by
 intro aa s σ H Q I h;exact Subscript_ (Ia ha hb I h λv u s2 x y H2 I2 rx ry q=>hr a b aa s2 σ H2 x y v u Q I2 rx ry q (hs _ _))
def Oc(K:Â):R2:=λx y H Q=>∃ p xs i v,x=.ref p/\y=.int i/\jP K H p xs/\Bz xs i=some v/\Q v H
def Od(K:Â):R2:=λx y H Q=>∃ p xs i v,x=.ref p/\y=.int i/\dU K H p xs/\Bz xs i=some v/\Q v H
theorem yo:Nx X (Oc X.K):=by
 intro value slice aa s σ H x y v u Q I rx ry h hs;obtain⟨p,xs,i,z,rfl,rfl,hq,he,q⟩:=h;cases rx;obtain⟨t,rfl⟩:=ry;obtain⟨ar,r,pl,hz⟩:=I.list hq;obtain⟨j,h1,h2,h3,h4,h5⟩:=yl he;obtain⟨w,ew,rw'⟩:=r.get h2;have hl:=r.length;have hn:=rN;have fin:EP X aa σ Q w s:=⟨z,H,I,rw',q⟩;by_cases h0:0<=i
 ·have hj:i.toNat=j:=by
   rw[Wy h0 h5] at h1;exact gV h1
  exact item_listR pl.isList h0 ∅ (by rw[hj];simpa using ew) fin hs
 ·have hj:(i + (ar.toArray.size:Int)).toNat=j:=by
   rw[seqIndex_neg ∅ h4] at h1
   rw[ã,← hl];exact gV h1
  exact X0 (x:=w) pl.isList.typeIs slot_list_getitem.lookup
   (wpAny_getItem_list_neg (Q:=λr s'=>r=w/\EP X aa σ Q r s') pl.isList ∅ (by rw[ã] <;> omega) ∅ (by rw[hj];simpa using ew) ⟨rfl,fin⟩) hs
theorem Io:Nx X (Od X.K):=by
 intro value slice aa s σ H x y v u Q I rx ry h hs;obtain⟨p,xs,i,z,rfl,rfl,hq,he,q⟩:=h;cases rx;obtain⟨t,rfl⟩:=ry;obtain⟨ar,r,pl,hz⟩:=I.tuple hq;obtain⟨j,h1,h2,h3,h4,h5⟩:=yl he;obtain⟨w,ew,rw'⟩:=r.get h2;have hl:=r.length;have hn:=rN;have fin:EP X aa σ Q w s:=⟨z,H,I,rw',q⟩;exact X0 (x:=w) pl.typeIs slot_tuple_getitem.lookup
  (getItem_tuple (j:=j) (Q:=λr s'=>r=w/\EP X aa σ Q r s') pl ∅ ∅ (by rw[ã,← hl];exact h1) (by simpa using ew) ⟨rfl,fin⟩) hs
theorem wL(ar:Zj)(n j:Nat)(u:Å):Qs (·.setIfInBounds j u) { cls:=.type "list",data:=.seq ar.toArray n }={ cls:=.type "list",data:=.seq (ar.set j u).toArray n }:=by
 simp[Qs]
theorem Inv.lst{aa:List (Ì × Obj)}{σ:St}{H:Hp}{s:É}{p:Ì}{xs:List V}(I:Inv X aa σ H s)(h:H p=some (.lst xs)) :
 ∃ (ar:Zj) (n:Nat),Vals xs ar/\s.heap.get? p=some { cls:=.type "list",data:=.seq ar.toArray n }/\xs.length<=sizeLine:=by
 obtain⟨z,ar,n,r,e⟩:=I.aV p _ h;exact⟨ar,n,r,e,z⟩
theorem Inv.Ip{aa:List (Ì × Obj)}{σ:St}{H:Hp}{s:É}{p:Ì}{xs ys:List V}{ar its':Zj}{n n':Nat}{f:Obj->Obj}(I:Inv X aa σ H s)(h:H p=some (.lst xs))
 (ho:s.heap.get? p=some { cls:=.type "list",data:=.seq ar.toArray n }) (hf:f { cls:=.type "list",data:=.seq ar.toArray n }={ cls:=.type "list",data:=.seq its'.toArray n' }) (r:Vals ys its') (hz:ys.length<=sizeLine) (t:Nat) :
 Inv X aa σ (upd H p (.lst ys)) { s with heap:=s.heap.update p f,toks:=t }:=by
 have e:(s.heap.update p f).get? p=some { cls:=.type "list",data:=.seq its'.toArray n' }:=by
  rw[R3 f ho (by rw[hf] <;> rfl),hf]
 refine I.write (x:=p) (e:=p) (by rw[h];trivial) (.inl rfl) (λb u hb q=>(SI _ _ (QQ hb)).trans q) ⟨_,e⟩ ?_
 exact⟨hz,its',n',r,e⟩
def Lv:V->V->V->Hp->(Hp->Prop)->Prop:=λo i v H Q=>∃ p xs k j,o=.ref p/\i=.int k/\H p=some (.lst xs)/\En xs.length k=some j/\Q (upd H p (.lst (xs.set j v)))
theorem set_list:La X Lv:=by
 intro aa s σ H o i v ov iv u Q I ro ri rv h;obtain⟨p,xs,k,j,rfl,rfl,hp,hj,q⟩:=h;cases ro;obtain⟨t,rfl⟩:=ri;obtain⟨ar,n,r,ho,hz⟩:=I.lst hp;obtain⟨h1,h2,h3,h4⟩:=yk hj;have hl:=r.length;have hn:=rN;have I':Inv X aa σ (upd H p (.lst (xs.set j v))) { s with heap:=s.heap.update p (Qs (·.setIfInBounds j u)) }:=
  I.Ip hp ho (wL ar n j u) (r.set rv j) (by rw[QE];exact hz) s.toks
 by_cases h0:0<=k
 ·have hk:k.toNat=j:=by
   rw[Wy h0 h4] at h1;exact gV h1
  exact PySem.W.ki_setAt ho h0 ∅ (by rw[ã,← hl];exact h4) (by rw[hk];exact⟨_,I',q⟩)
 ·have hk:(k + (ar.toArray.size:Int)).toNat=j:=by
   rw[seqIndex_neg ∅ h3] at h1
   rw[ã,← hl];exact gV h1
  exact PySem.W.ki_setBack ho ∅ (by rw[ã,← hl];exact h3) ∅ (by rw[hk];exact⟨_,I',q⟩)
theorem rR(lo hi:Zp)(n:Nat):(Ta lo hi none n).1=((HT.dD n 0 lo:Nat):Int)/\(Ta lo hi none n).2.1=((HT.dD n n hi:Nat):Int)/\(Ta lo hi none n).2.2=1:=by
 refine⟨?_,?_,rfl⟩
 ·cases lo with
  |none=>simp[Ta,HT.dD]
  |some i =>
   simp only[Ta,HT.dD,getD_none,show(1:Int) > 0 by decide,if_true]
   by_cases h:i < 0
   ·simp only[h,if_true] <;> omega
   ·simp only[h,if_false] <;> omega
 ·cases hi with
  |none=>simp[Ta,HT.dD]
  |some i =>
   simp only[Ta,HT.dD,getD_none,show(1:Int) > 0 by decide,if_true]
   by_cases h:i < 0
   ·simp only[h,if_true] <;> omega
   ·simp only[h,if_false] <;> omega
theorem qb(ar:Zj)(lo hi:Zp):slicePick ar.toArray lo hi none=((ar.drop (HT.dD ar.length 0 lo)).take (HT.dD ar.length ar.length hi - HT.dD ar.length 0 lo)).toArray:=by
 obtain⟨h1,h2,h3⟩:=rR lo hi ar.toArray.size;unfold slicePick;rw[h1,h2,h3];simp only[sliceRange_one,pick_run,ã] <;> rfl
def Oe(K:Â):V->Zp->Zp->Hp->VK->Prop:=λx lo hi H Q=>∃ a xs,x=.ref a/\jP K H a xs/\∀ p,H p=none->Q (.ref p) (upd H p (.lst (rO xs lo hi)))
theorem EU:Nw X (Oe X.K):=by
 intro aa s σ H x v vl vu lo hi sl Q I rx hs pl pu h;obtain⟨a,xs,rfl,hx,q⟩:=h;cases rx;obtain⟨ar,r,ht,hz⟩:=I.list hx;have hlen:=r.length;refine⟨"list",_,slot_list_getitem.lookup,ht.isList.typeIs,?_⟩;refine wpAny_getItem_list_slice ht.isList hs pl pu .none (by simp) ?_ (by rw[ã] <;> omega)
 rw[qb,← hlen];refine⟨.ref s.heap.objs.size,_,I.laid (t':=s.toks) (o:=.lst (rO xs lo hi)) (λb ob q=>Ã _ q) (Ñ _) ?_,rfl,q _ (I.aV.fresh (Ñ _))⟩;exact⟨ê (mw xs lo hi) hz,_,0,(r.drop (HT.dD xs.length 0 lo)).take (HT.dD xs.length xs.length hi - HT.dD xs.length 0 lo),Ò _ rfl⟩
theorem rS:bZ X (.builtin "len") (λxs H Q=>∃ p ys,xs=[.ref p]/\(jP X.K H p ys\/dU X.K H p ys)/\Q (.int ys.length) H):=by
 intro aa s σ H xs us Q I r h;obtain⟨p,ys,rfl,hq,q⟩:=h;obtain⟨u,rfl,rx⟩:=vals1 r;cases rx;have hn:=rN;rcases hq with hq | hq
 ·obtain⟨ar,r',pl,hz⟩:=I.list hq;have hlen:=r'.length;exact Calls.call_len_list pl.isList (by simp only[ã] <;> omega) ⟨.int ys.length,H,I.tok _,⟨s.toks + 1,by rw[ã,hlen]⟩,q⟩
 ·obtain⟨ar,r',pl,hz⟩:=I.tuple hq;have hlen:=r'.length;exact len_tuple pl (by simp only[ã] <;> omega) ⟨.int ys.length,H,I.tok _,⟨s.toks + 1,by rw[ã,hlen]⟩,q⟩
theorem rT:bZ X (.type "list") (λxs H Q=>∃ p ys,xs=[.ref p]/\(jP X.K H p ys\/dU X.K H p ys)/\∀ l,H l=none->Q (.ref l) (upd H l (.lst ys))):=by
 intro aa s σ H xs us Q I r h;obtain⟨p,ys,rfl,hq,q⟩:=h;obtain⟨u,rfl,rx⟩:=vals1 r;cases rx;have fin:∀ (ar:Zj),Vals ys ar->ys.length<=sizeLine->∀ (h':ø) (c':Nat),(∀ b o',s.heap.get? b=some o'->h'.get? b=some o') ->
   h'.get? s.heap.objs.size=some { cls:=.type "list",dict:=none,data:=.seq ar.toArray c',slots:=#[] }->EP X aa σ Q (.ref s.heap.objs.size) { s with heap:=h' }:=λar r' hz h' c' kp e =>
  ⟨.ref s.heap.objs.size,_,I.laid (t':=s.toks) kp (Ñ _) (show c9 X.prog X.w _ h' _ (.lst ys) from⟨hz,ar,c',r',e⟩),rfl,q _ (I.aV.fresh (Ñ _))⟩
 rcases hq with hq | hq
 ·obtain⟨ar,r',pl,hz⟩:=I.list hq;have hlen:=r'.length;obtain⟨o,ho,hc,n,hd⟩:=pl.isList;exact call_list_seq p (.inl rfl) ho hc hd (λh' c' kp e=>fin ar r' hz h' c' kp e) (by simp only[ã] <;> omega)
 ·obtain⟨ar,r',pl,hz⟩:=I.tuple hq;have hlen:=r'.length;obtain⟨o,ho,hc,n,hd⟩:=pl;exact call_list_seq p (.inr rfl) ho hc hd (λh' c' kp e=>fin ar r' hz h' c' kp e) (by simp only[ã] <;> omega)
theorem qc:bZ X (.type "tuple") (λxs H Q=>∃ p ys,xs=[.ref p]/\((jP X.K H p ys/\∀ l,H l=none->Q (.ref l) (upd H l (.tup ys)))\/(dU X.K H p ys/\Q (.ref p) H))):=by
 intro aa s σ H xs us Q I r h;obtain⟨p,ys,rfl,h⟩:=h;obtain⟨u,rfl,rx⟩:=vals1 r;cases rx;rcases h with ⟨hq,q⟩ | ⟨hq,q⟩
 ·obtain⟨ar,r',pl,hz⟩:=I.list hq;have hlen:=r'.length;refine call_tuple_list pl.isList (λh' kp=>?_) (by simp only[ã] <;> omega)
  have I1:Inv X aa σ H { s with heap:=h' }:=I.kept (t':=s.toks) kp;have I2:Inv X aa σ (upd H h'.objs.size (.tup ys)) { s with heap:=h'.push { cls:=.type "tuple",data:=.seq ar.toArray } }:=
   I1.laid (t':=s.toks) (λb o e=>Ã _ e) (Ñ _) (show c9 X.prog X.w _ _ _ (.tup ys) from⟨hz,ar,r',Yi _ _⟩)
  exact⟨.ref h'.objs.size,_,I2,rfl,q _ (I1.aV.fresh (Ñ _))⟩
 ·obtain⟨ar,r',pl,hz⟩:=I.tuple hq;exact call_tuple_same pl ⟨.ref p,H,I,rfl,q⟩
def PR(K:Â)(T:String)(x:V)(H:Hp):Prop:=match x with
 |.str _=>T="str"|.int _=>T="int"
 |.ref p=>(T="list"/\∃ xs,jP K H p xs)\/(T="tuple"/\∃ o,K.lookup p=some o/\o.cls=.type "tuple"/\o.dict=none) \/
   (T="dict"/\((∃ kvs,H p=some (.dK kvs))\/∃ kvs,H p=some (.dT kvs)))\/(T="set"/\∃ S n,H p=some (.set S n))
 |_=>False
theorem Iq{aa:List (Ì × Obj)}{σ:St}{H:Hp}{s:É}{T:String}{x:V}{v:Å}(I:Inv X aa σ H s)(r:RelV x v)(ty:PR X.K T x H) :
 s.TypeIs v T/\∀ a,v=.ref a->∃ ob,s.heap.get? a=some ob/\ob.dict=none:=by
 cases x with
 |str z =>
  obtain⟨t,rfl⟩:=r;cases (show T="str" from ty);exact⟨typeIs_str s z t,λ_ e=>nomatch e⟩
 |int i =>
  obtain⟨t,rfl⟩:=r;cases (show T="int" from ty);exact⟨typeIs_int s i t,λ_ e=>nomatch e⟩
 |ref p =>
  cases r;rcases ty with ⟨rfl,xs,hq⟩ | ⟨rfl,o,hk,hc,hd⟩ | ⟨rfl,hk⟩ | ⟨rfl,S,n,hk⟩
  ·obtain⟨ar,_,pl,_⟩:=I.list hq;refine⟨pl.isList.typeIs,λa e=>?_⟩;cases e;obtain⟨o,n,e,c,hd,_⟩:=pl;exact⟨o,e,hd⟩
  ·refine⟨⟨o,I.t9 p o hk,hc⟩,λa e=>?_⟩;cases e;exact⟨o,I.t9 _ o hk,hd⟩
  ·have z:∃ o,s.heap.get? p=some o/\o.ExactDict:=by
    rcases hk with ⟨kvs,hk⟩ | ⟨kvs,hk⟩
    ·obtain⟨_,_,_,_,o,_,_,e,ex,_⟩:=I.aV p _ hk;exact⟨o,e,ex⟩
    ·obtain⟨_,_,_,_,o,_,_,e,ex,_⟩:=I.aV p _ hk;exact⟨o,e,ex⟩
   obtain⟨o,e,ex⟩:=z;refine⟨⟨o,e,ex.1⟩,λa e2=>?_⟩;cases e2;exact⟨o,e,ex.2.1⟩
  ·obtain⟨o,_,_,_,e,ex,_⟩:=I.aV p _ hk;refine⟨⟨o,e,ex.1⟩,λa e2=>?_⟩;cases e2;exact⟨o,e,ex.2.1⟩
 |_=>exact My ty
def Of(K:Â)(T:String)(r:V->List V->Hp->VK->Prop)(to:TE)(t:TA):TE:=λσ H Q=>to σ H λx H1=>PR K T x H1/\t σ H1 λxs H2=>r x xs H2 Q
variable {o e:Ù}{es:Zm}{to:TE}{t:TA}{name:Str}{apos cpos:Pos}{T id:String}{r:V->List V->Hp->VK->Prop}
theorem BB(pa:PlainAttrs T)(slot:Slot T name id)(hty:Y4 (.builtin id)=pure (.type "method_descriptor"))(hm:PQ X id r)(ho:PE X o to)(ha:PA X (e::es) t)
 (hbase:attributeBase o name X.env (eval o X.env)=eval o X.env:=by rfl)
  (hfew:((Uq cpos (þ (e::es) X.env)).all (λx=>!x.1)&&(backToKw cpos (keywordEach [] X.env)).all (λx=>x.1.isSome)
   &&decide ((e::es).length + ([]:List Keyword).length + (if ([]:List Keyword).isEmpty then 0 else 1) < 30))=true:=by rfl)
  (hline:(apos.endLine == cpos.line)=true:=by rfl) (hs:þ (e::es) X.env=(false,eval e X.env)::þ es X.env:=by rfl) (hplain:(Uq cpos (þ es X.env)).any (·.1)=false:=by rfl) :
  PE X (.Call (.Attribute o name apos) (e::es) [] cpos) (Of X.K T r to t):=by
 intro aa s σ H Q I h;refine wpAny_Call_method_late hbase hfew hline rfl (b7 (ho aa s σ H _ I h) λv s1 ⟨x,H1,I1,r1,ty,q1⟩=>?_);obtain⟨h1,h2⟩:=Iq I1 r1 ty;refine⟨T,id,pa,slot,hty,h1,h2,?_⟩;have hA:=ha cpos aa s1 σ H1 _ I1 q1;rw[hs] at hA ⊢;refine Calls.callWith_builtin (by show(false || (Uq cpos (þ es X.env)).any (·.1))=false;rw[hplain] <;> rfl) (Xe ?_)
 exact b7 hA λus s2 ⟨vs,H2,I2,r2,q2⟩=>hm aa s2 σ H2 x vs v us Q I2 r1 r2 q2
end
def PU(X:Cx)(id:String)(r:V->List V->Hp->VK->Prop):Prop:=
 ∀ (aa:List (Ì × Obj)) (s:É) (σ:St) (H:Hp) (x:V) (xs:List V) (v:Å) (us:Zj) (Q:VK),Inv X aa σ H s->RelV x v->Vals xs us->r x xs H Q ->
  Ô (à X.prog X.w) X.A (call (.builtin id) (v::us)) (EP X aa σ Q) X.xe s
theorem Vals.one:∀ {x:V}{us:Zj},Vals [x] us->∃ u,us=[u]/\RelV x u
 |_,_,.cons r .nil=>⟨_,rfl,r⟩
theorem Vals.eraseIdx:∀ {xs:List V}{us:Zj} (i:Nat),Vals xs us->Vals (xs.eraseIdx i) (us.eraseIdx i)
 |_,_,_,.nil=>.nil|_,_,0,.cons _ t=>t|_,_,i + 1,.cons r t=>.cons r (Vals.eraseIdx i t)
theorem Vals.reverse(h:Vals xs us):Vals xs.reverse us.reverse:=by
 induction h with
 |nil=>exact .nil|cons r t ih=>rw[Uv,Uv];exact Vals.append ih (.cons r .nil)
theorem qE{α:Type}:∀ (l:List α) (i:Nat),(l.eraseIdx i).length<=l.length
 |[],_=>Ñ _|_::_,0=>Nat.le_succ _|_::r,i + 1=>VN (qE r i)
section
variable {X:Cx}{aa:List (Ì × Obj)}{σ:St}{H:Hp}{s:É}{l b:Ì}{xs ys zs:List V}
theorem Inv.EV{ar its':Zj}{n:Nat}{f:Zo->Zo}{t':Nat}(I:Inv X aa σ H s)(hH:H l=some (.lst xs))
 (e:s.heap.get? l=some { cls:=.type "list",data:=.seq ar.toArray n }) (hf:f ar.toArray=its'.toArray) (hv:Vals ys its') (hz:ys.length<=sizeLine) :
 Inv X aa σ (upd H l (.lst ys)) { s with heap:=s.heap.update l (Qs f),toks:=t' }:=by
 have q:=PySem.IsL.update e f;rw[hf] at q;refine I.write (x:=l) (e:=l) (by rw[hH];exact trivial) (.inl rfl) (λb' u hb hu=>(SI s.heap (Qs f) (QQ hb)).trans hu) ⟨_,q⟩ ?_
 exact⟨hz,its',_,hv,q⟩
def Inv.Og{t':Nat}(I:Inv X aa σ H s)(hv:Vals ys ar)(hz:ys.length<=sizeLine) :
 Inv X aa σ (upd H s.heap.objs.size (.lst ys)) { s with heap:=s.heap.push { cls:=.type "list",data:=.seq ar.toArray },toks:=t' }:=
 I.laid (λ_ _ q=>Ã _ q) (Ñ _) ⟨hz,ar,0,hv,Ò _ rfl⟩
def Inv.fresh(I:Inv X aa σ H s):H s.heap.objs.size=none:=I.aV.fresh (Ñ _)
theorem Inv.Ir(I:Inv X aa σ H s)(hH:H l=some (.lst xs)):xs.length<=sizeLine/\∃ (ar:Zj) (n:Nat),Vals xs ar/\xs.length=ar.length/\s.heap.get? l=some { cls:=.type "list",data:=.seq ar.toArray n }:=by
 obtain⟨z,ar,n,r,e⟩:=I.aV l _ hH;exact⟨z,ar,n,r,r.length,e⟩
end
section
variable {X:Cx}
def yp:V->List V->Hp->VK->Prop:=λx vs H Q=>∃ l xs y,x=.ref l/\vs=[y]/\H l=some (.lst xs)/\xs.length < sizeLine/\Q .bp (upd H l (.lst (xs++[y])))
theorem qF:PU X "list.append" yp:=by
 intro aa s σ H x vs v us Q I rx rv h;obtain⟨l,xs,y,rfl,rfl,hH,hz,q⟩:=h;cases rx;obtain⟨u,rfl,ru⟩:=rv.one;obtain⟨z,ar,n,r,hl,e⟩:=I.Ir hH;refine Y8 F.slot_list_append ⟨_,e,rfl⟩ F.entry_list_append (F.args_list_append_2 _ _) (PySem.list_append l ar.toArray n u (by rw[ã];omega)) ⟨e,?_⟩
 refine⟨.bp,_,I.EV (its':=ar++[u]) hH e (by simp) (r.append (.cons ru .nil)) ?_,rfl,q⟩
 rw[Rk,List.length_singleton];omega
def BC:V->List V->Hp->VK->Prop:=λx vs H Q=>∃ l xs i k y,x=.ref l/\vs=[.int i]/\H l=some (.lst xs)/\-(2 ^ 63)<=i/\i < 2 ^ 63/\seqIndex? i xs.length=some k/\xs[k]?=some y/\Q y (upd H l (.lst (xs.eraseIdx k)))
theorem BD:PU X "list.pop" BC:=by
 intro aa s σ H x vs v us Q I rx rv h;obtain⟨l,xs,i,k,y,rfl,rfl,hH,h1,h2,hk,hy,q⟩:=h;cases rx;obtain⟨u,rfl,ru⟩:=rv.one;obtain⟨t,rfl⟩:=ru;obtain⟨z,ar,n,r,hl,e⟩:=I.Ir hH;obtain⟨w,hw,rw'⟩:=r.get hy;refine Y8 F.slot_list_pop ⟨_,e,rfl⟩ F.entry_list_pop (F.args_list_pop_2 _ _)
  (MeetsSeq.list_pop_at l ar.toArray n i t k w (fitsIndex_both h1 h2) (by rw[ã,← hl];exact hk) (by rw[← û];exact hw) (by rw[ã];omega)) ⟨e,?_⟩
 refine⟨y,_,I.EV (its':=ar.eraseIdx k) hH e ?_ (r.eraseIdx k) ?_,rw',q⟩
 ·show ar.toArray.eraseIdxIfInBounds k=(ar.eraseIdx k).toArray;rw[List.eraseIdxIfInBounds_toArray]
 ·have:=qE xs k;omega
end
end L2
namespace Att
open PySem PySem.W PySem.Calls PyProof.Rows
theorem mT:∀ (ns:Zi) (vs:Zj),WellAll P h vs (ns.map WData.int)->SH vs ns:=by
 intro ns
 induction ns with
 |nil =>
  intro vs w;rw[VD] at w;cases w;exact .nil
 |cons n ns ih =>
  intro vs w;rw[QS] at w;cases w with
  |cons a b =>
   cases a;exact .cons _ _ (ih _ b)
theorem zW{l:OpenLaw}{n:Nat}(hn:l.most=some n){P:Params}{h:ø}{args:List WData}{vals:Zj}
 (hpre:l.row.toRowW.claim.pre args=true) (hwl:WellAll P h vals args) :
 ∃ a vs ns,vals=[ò a]/\args=[WData.list (ns.map WData.int)]/\h.get? a=some { cls:=.type "list",data:=.seq vs.toArray }/\SH vs ns/\ns.length<=n:=by
 have hsh:WShape.hasAll [] args [.list .int]=true:=(pre_splitW hpre).1;have hc:l.pre.holds [] { args:=args }=true:=(pre_splitW hpre).2;obtain⟨d,r,rfl,h1,h2⟩:=hasAllW_cons hsh;obtain rfl:=hasAllW_nil h2;obtain⟨xs,rfl,h3⟩:=hasW_list h1;obtain⟨ns,rfl⟩:=items_int h3;have hlen:ns.length<=n:=by
  unfold OpenLaw.pre at hc;have h4:(WTm.not (.lt (.lit (.int (n:Int))) (.len (.arg 0)))).holds [] { args:=[.list (ns.map .int)] }=true:=by
   have h4:=(holds_andW hc).1;rw[hn] at h4;exact h4
  have h5:=condW_of h4 (w_not (w_lt w_lit (w_len_list (w_arg rfl))));rw[Ä] at h5;refine Nat.le_of_not_lt λq=>?_;have q':(n:Int) < ((ns.length:Nat):Int):=∅
  first
   |(rw[decide_eq_true q'] at h5;exact absurd h5 1e1)
   |(simp at h5;omega)
 cases hwl with
 |cons w1 w2 =>
  cases w2;cases w1 with
  |list ho hall=>exact⟨_,_,ns,rfl,rfl,ho,mT ns _ hall,hlen⟩
theorem zX(l:OpenLaw)(args:List WData):l.row.toRowW.claim.post args (.bool true) args=true:=
 postW_of (r:=l.row.toRowW) (X:=(true == true))
  (show WShape.has [] (.bool true) .bool=true by first | rfl | decide | simp[WShape.has,WShape.arms,WShape.armsAll])
  (show(WTm.eq .res (.lit (.bool true))).value [] { args:=args,res:=some (.bool true),after:=args }=some (.bool (true == true)) from w_eq_bool (w_res rfl) w_lit) rfl
theorem uo{l:OpenLaw}{n:Nat}{q:â}{loose:Zk}{XP:(Str->Zn)->ø->Prop}{YP:ó->ø->Prop}{d:DefRec}
 (hn:l.most=some n) (hdf:d.params.defaults=[])
 (call:∀ (w:ó) (s₀ s₁:É) (mg mb:Str->Zn) (fa:Ì) (o:Obj) (pm cd doc:Å) (a:Ì) (vs:Zj) (ns:Zi),
   Ground q loose [] XP w s₀ mg mb s₁.heap->YP w s₁.heap ->
   s₁.heap.get? fa=some o->o.data=.func (docDef d.name d.params d.body d.scope pm cd doc)->s₁.heap.CodeRec cd d.name->mg d.name=some (.ref fa) ->
   s₁.heap.get? a=some { cls:=.type "list",data:=.seq vs.toArray }->SH vs ns->ns.length<=n->s₁.gens=#[] ->
   TF (à l.prog w) V1 (.call (.ref fa) ⟨[.ref a],[]⟩) (λr s'=>r=.ok (.ret (.bool true))/\OldK s₁.heap s'.heap/\s'.os=s₁.os/\Um s'.gens) s₁) :
  WalkO q loose XP YP l.row.toRowW d [] (λf vs=>PySem.call f vs):=by
 intro w s₀ s₁ mg mb G Y fa o pm cd doc dV kV ho hd hcd hD hmg hg args vals as hpre hlay hrd hwl hlo;obtain rfl:dV=.none:=Dflts.none hD hdf;obtain rfl:kV=.none:=Dflts.noKw hD;obtain⟨a,vs,ns,rfl,rfl,hobj,hints,hlen⟩:=zW hn hpre hwl;refine enter_call (RP (call w s₀ s₁ mg mb fa o pm cd doc a vs ns G Y ho (fd_plain hd) hcd hmg hobj hints hlen hg) λr s' hq=>?_);obtain⟨rfl,h2,h3,h4⟩:=hq;exact⟨.inl ⟨.bool true,.bool true,[],rfl,λ_=>rfl,.bool true,zX l _,λ_=>⟨List.Pairwise.nil,λ_ hm=>(nomatch hm)⟩⟩,h2,h3,h4⟩
end Att
namespace L2
open PySem PySem.Spec PyProof.Rows
theorem qG:∀ {vs:Zj}{ns:Zi},SH vs ns->Vals (ns.map V.int) vs
 |_,_,.nil=>.nil|_,_,.cons n t h=>.cons ⟨t,rfl⟩ (qG h)
def m8(s:RM):Arguments:=match s with
 |.FunctionDef _ a _ _ _ _ _ _ _ _=>a|_=>{ posonlyargs:=[],args:=[],vararg:=none,kwonlyargs:=[],kw_defaults:=[],kwarg:=none,defaults:=[] }
def ff(s:RM):List Stmt:=match s with
 |.FunctionDef _ _ b _ _ _ _ _ _ _=>b|_=>[]
def aP(s:RM):Scope:=match s with
 |.FunctionDef _ _ _ _ _ _ sc _ _ _=>sc|_=>{ kind:=.function,names:=[],isGenerator:=false,isCoroutine:=false }
abbrev Lw:Ba:=λ_ _ _ _ _ _=>False
structure EW(K:PySem.W.Frag)(x qual:Str)(st:Stmt)(f:Addr)(fd:FuncData):Prop where
 ex:∃ (oc:Value) (od:Option Addr) (kV doc pm:Value) (an:Option Addr) (cdv ct:Value) (osl:Array (Option Value)),
  fd=fnOf x qual (m8 st) (ff st) (aP st) .none kV doc pm an cdv ct/\K.lookup f=some ⟨oc,od,.func fd,osl⟩/\PySem.W.codeIn K cdv qual=true
 kp:PySem.W.keepIn K (.ref f)=true
section
variable {P:â}{w:ó}{K:Â}{mg:Str->Zn}{base:ø}
theorem EW.binds{x qual:Str}{st:RM}{f:Ì}{fd:Rt}{ps:Zk}(F:EW K x qual st f fd)
 (h:∀ (kV doc pm:Å) (an:Zl) (cdv ct:Å) (us:Zj),us.length=ps.length->W4 (fnOf x qual (m8 st) (ff st) (aP st) .none kV doc pm an cdv ct) ⟨us,[]⟩=pure (ps.zip us)):Binds K fd ps []:=by
 obtain⟨oc,od,kV,doc,pm,an,cdv,ct,osl,rfl,lk,hcd⟩:=F.ex;exact .all (h kV doc pm an cdv ct)
end
def af(H H':Hp):Prop:=∀ b o,H b=some o->H' b=some o
def af.refl(H:Hp):af H H:=λ_ _ h=>h
def af.trans(a:af H H1)(b:af H1 H2):af H H2:=λc o h=>b c o (a c o h)
end L2
set_option maxHeartbeats 4000000
namespace L2
open PySem
abbrev EX:Å->É->Prop:=λ_ _=>False
theorem m9(env:Env):∀ (names:List (Str × SF)) (acc:List (Str × Ì)),(∀ y∈names,y.2=.free->∃ c,env.cells.lookup y.1=some c)->(∀ x c,acc.lookup x=some c->env.cells.lookup x=some c) ->
 ∃ cl:List (Str × Ì),(forIn names acc λ(x:Str × SF) (r:List (Str × Ì))=>(if (x.2 == .free)=true then do let c ← cellOf env x.1;pure (å ((x.1,c)::r)) else pure (å r):Sem (ForInStep (List (Str × Ì)))))=pure cl /\
   (∀ x c,cl.lookup x=some c->env.cells.lookup x=some c)/\(∀ x c,acc.lookup x=some c->∃ c',cl.lookup x=some c')/\(∀ y∈names,y.2=.free->∃ c,cl.lookup y.1=some c)
 |[],acc,_,ha=>⟨acc,by simp,ha,λx c e=>⟨c,e⟩,λy hy=>absurd hy (by simp)⟩
 |(n,k)::r,acc,hf,ha=>by
  by_cases hk:k=.free
  ·subst hk;obtain⟨c,hc⟩:=hf (n,.free) Ë rfl;have hcell:cellOf env n=pure c:=by unfold cellOf;rw[hc]
   obtain⟨cl,e,h1,h2,h3⟩:=m9 env r ((n,c)::acc) (λy hy=>hf y (È _ hy)) (λx c' e=>by
    rw[Qz] at e;by_cases hx:(x == n)=true
    ·rw[hx] at e;have:x=n:=by simpa using hx
     subst this;cases e;exact hc
    ·rw[show(x == n)=false by simpa using hx] at e
     exact ha x c' e)
   refine⟨cl,?_,h1,λx c' e'=>?_,λy hy hyk=>?_⟩
   ·rw[SA];simp only[beq_self_eq_true,if_true,hcell,pure_bind];exact e
   ·by_cases hx:(x == n)=true
    ·exact h2 x c (by rw[Qz,hx])
    ·exact h2 x c' (by rw[Qz,show(x == n)=false by simpa using hx];exact e')
   ·rcases ß.mp hy with rfl | hy
    ·exact h2 n c (by simp[Qz])
    ·exact h3 y hy hyk
  ·obtain⟨cl,e,h1,h2,h3⟩:=m9 env r acc (λy hy=>hf y (È _ hy)) ha;refine⟨cl,?_,h1,h2,λy hy hyk=>?_⟩
   ·rw[SA];have hb:((k == ù)=true)=False:=by simpa using hk
    simp only[hb,if_false,pure_bind];exact e
   ·rcases ß.mp hy with rfl | hy
    ·exact absurd hyk hk
    ·exact h3 y hy hyk
theorem yt(hf:∀ y∈scope.names,y.2=.free->∃ c,env.cells.lookup y.1=some c) :
 ∃ cl:List (Str × Ì),W3 scope env=pure cl/\(∀ x c,cl.lookup x=some c->env.cells.lookup x=some c)/\(∀ y∈scope.names,y.2=.free->∃ c,cl.lookup y.1=some c):=by
 obtain⟨cl,e,h1,_,h3⟩:=m9 env scope.names [] hf (λx c e=>by simp at e)
 refine⟨cl,?_,h1,h3⟩;simp only[W3];exact(congrArg (λt=>t >>= λr=>(pure r:Sem _)) e).trans (by simp)
section
variable {P:â}{w:ó}{A:ö}{R:Result->É->Prop}{s:É}
theorem zY{el tg src:Ù}{tests:Zm}{sc:tv}{ps:Pos}{itv av:Å}{en:Env}(J:Nat->É->Prop)
 (turn:∀ n s,J n s->Ô (à P w) A (TL itv) (λr s1=>match r with
   |none=>R (.ok .next) s1
   |some v=>Ô (à P w) A (WD tg itv v) (λ_ s2=>Ô (à P w) A (U8 tg en v) (λ_ s3 =>
     Ô (à P w) A (forIn tests true λc r=>if r=true then do let ok ← X6 c en (eval c en);pure (å ok) else pure (å r)) (λok s4 =>
      if ok=true then Ô (à P w) A (eval el en) (λx s5 =>
       Ô (à P w) A (call (.builtin "list.append") [av,x]) (λ_ s6=>∃ m,m < n/\J m s6) EX s5) EX s4
      else ∃ m,m < n/\J m s4) EX s3) EX s2) EX s1) EX s)
  (n:Nat) (h:J n s) :
  TF (à P w) A (.compLoop (.ListComp el [⟨tg,src,tests,0⟩] sc ps) 0 itv av en) R s:=by
 refine codeAny_loop rfl J (λn s hI=>?_) n h;show Ô _ A ((compTurn (.ListComp el [⟨tg,src,tests,0⟩] sc ps) 0 itv av en).onRaise (λx=>do noteFrame x en;theTreesLotGoes x)) _ _ s;refine wpAny_noted ?_;rw[compTurn_list];refine À (Vw (À (QM (turn n s hI) (λr s1 h1=>?_) λ_ _ x=>x.elim)));cases r with
 |none=>exact Ê h1
 |some v =>
  refine À (QM h1 (λ_ s2 h2=>?_) λ_ _ x=>x.elim);refine À (QM h2 (λ_ s3 h3=>À (QM h3 (λok s4 h4=>?_) λ_ _ x=>x.elim)) λ_ _ x=>x.elim);cases ok with
  |false=>exact Ê ⟨rfl,h4⟩|true=>exact À (À (QM h4 (λx s5 h5=>À (QM h5 (λ_ s6 h6=>Ê (Ê ⟨rfl,h6⟩)) λ_ _ x=>x.elim)) λ_ _ x=>x.elim))
end
open PySem PySem.Spec PyProof.Rows
abbrev aZ(X:Cx)(N':Zk)(sc:tv)(cl:List (Str × Ì))(C:Ì)(s:É)(H:Hp)(fp:Zr):Cx:=
 { X with N:=N',s₀:=s,H₀:=H,env:=compEnvC sc cl C X.env,outer:=X.stack,stack:=X.stack,ex:=fp,fn:=λ_=>false,pn:=[],xe:=EX }
def bj(own:Zk)(ak:List (Str × Nat)):Zk:=own++ak.map (·.1)
def fw(own:Zk)(ak:List (Str × Nat))(σ:St):St:=own.map (λ_=>none)++ak.map λp=>(σ[p.2]?).getD none
structure lF(X:Cx)(sc:Scope)(own:List Str)(ak:List (Str × Nat)):Prop where
 kind:sc.kind=.function
 nocell:∀ y∈sc.names,y.2≠.cell
 locs:∀ y∈sc.names,y.2=.local->sc.names.lookup y.1=some .local
 frees:∀ y∈sc.names,y.2=.free->X.env.kindOf y.1=some .cell\/X.env.kindOf y.1=some .free
 captd:∀ p∈ak,X.N[p.2]?=some p.1/\sc.names.lookup p.1=some .free
theorem nO{env:Env}:∀ {names:List (Str × SF)}{x:Str}{k:SF},
 (names.map λ(n,k)=>if (k == ù&&env.scope.kind == .function&&env.kindOf n == some .cell) then(n,RD) else(n,k)).lookup x=some k->(k=.cell\/k=.free)->(∀ y∈names,y.2≠.cell)->(x,ù)∈names
 |[],_,_,h,_,_=>by simp at h
 |(n,k0)::r,x,k,h,hk,hn=>by
  have h:SY x ((if (k0 == ù&&env.scope.kind == .function&&env.kindOf n == some .cell)=true then(n,RD) else(n,k0))::_)=some k:=h;have hn0:k0≠.cell:=hn (n,k0) Ë;cases hx:x == n with
  |true =>
   have e:x=n:=by simpa using hx
   subst e;by_cases hc:(k0 == ù&&env.scope.kind == .function&&env.kindOf x == some .cell)=true
   ·have:k0=.free:=by
     cases k0 <;> simp_all
    subst this;exact Ë
   ·rw[if_neg hc] at h;simp only[Qz,hx] at h;cases h;rcases hk with hk | hk
    ·exact absurd hk hn0
    ·subst hk;exact Ë
  |false =>
   have h':(r.map λ(n,k)=>if (k == ù&&env.scope.kind == .function&&env.kindOf n == some .cell) then(n,RD) else(n,k)).lookup x=some k:=by
    by_cases hc:(k0 == ù&&env.scope.kind == .function&&env.kindOf n == some .cell)=true
    ·rw[if_pos hc] at h;simp only[Qz,hx] at h;exact h
    ·rw[if_neg hc] at h;simp only[Qz,hx] at h;exact h
   exact È _ (nO h' hk λy hy=>hn y (È _ hy))
theorem ic{env:Env}:∀ {names:List (Str × SF)}{x:Str},names.lookup x=some .free ->
 (names.map λ(n,k)=>if (k == ù&&env.scope.kind == .function&&env.kindOf n == some .cell) then(n,RD) else(n,k)).lookup x=some .cell \/
 (names.map λ(n,k)=>if (k == ù&&env.scope.kind == .function&&env.kindOf n == some .cell) then(n,RD) else(n,k)).lookup x=some .free
 |[],_,h=>by simp at h
 |(n,k)::r,x,h=>by
  have ih:=@ic env r x;show SY x ((if (k == ù&&env.scope.kind == .function&&env.kindOf n == some .cell)=true then(n,RD) else(n,k))::_)=_\/SY x ((if (k == ù&&env.scope.kind == .function&&env.kindOf n == some .cell)=true then(n,RD) else(n,k))::_)=_;cases hx:x == n with
  |true =>
   simp only[Qz,hx] at h;cases h;by_cases hc:(ù == ù&&env.scope.kind == .function&&env.kindOf n == some .cell)=true
   ·rw[if_pos hc];left;simp only[Qz,hx]
   ·rw[if_neg hc];right;simp only[Qz,hx]
  |false =>
   simp only[Qz,hx] at h;by_cases hc:(k == ù&&env.scope.kind == .function&&env.kindOf n == some .cell)=true
   ·rw[if_pos hc];simp only[Qz,hx];exact ih h
   ·rw[if_neg hc];simp only[Qz,hx];exact ih h
theorem jD.yu{P:â}{w:ó}{H:Hp}{h:ø}{D:Ì}{ys:List V}{ar:Zj}{n:Nat}(x:jD P w H h)(hn:H D=none)(hv:Vals ys ar)(hz:ys.length<=sizeLine)
 (ho:h.get? D=some { cls:=.type "list",data:=.seq ar.toArray n }):jD P w (upd H D (.lst ys)) h:=λb u e=>by
 by_cases hb:b=D
 ·subst hb;rw[aO] at e;cases e;exact⟨hz,ar,n,hv,ho⟩
 ·rw[ai hb] at e;exact(x b u e).mR (λc v _ q=>q) (λc q=>by rw[ai (aB q hn)];exact q) λc xs q=>by rw[ai (aB q hn)];exact q
def Iu(X:Cx)(tests:Zm)(t:TT):Prop:=
 ∀ (aa:List (Ì × Obj)) (s:É) (σ:St) (H:Hp) (Q:Bool->Hp->Prop),Inv X aa σ H s->t σ H Q ->
  Ô (à X.prog X.w) X.A (forIn tests true λc r=>if r=true then do let ok ← X6 c X.env (eval c X.env);pure (å ok) else pure (å r)) (TP X aa σ Q) X.xe s
def yw:TT:=λ_ H Q=>Q true H
def EY:Iu X [] yw:=λ_ _ _ H _ I h=>wpAny_tests_nil ⟨H,I,h⟩
def EZ(hc:PT X c t):Iu X [c] t:=λaa s σ H Q I h=>wpAny_tests_one (hc aa s σ H Q I h)
section
variable {X:Cx}{aa:List (Ì × Obj)}{σ:St}{H2:Hp}{s2:É}{sc:tv}{own:Zk}{ak:List (Str × Nat)}{cl:List (Str × Ì)}{fp:Zr}{C:Ì}
theorem qH(I:Inv X aa σ H2 s2)(S:lF X sc own ak)(hcl:∀ x c,cl.lookup x=some c->X.env.cells.lookup x=some c)(hcf:∀ y∈sc.names,y.2=.free->∃ c,cl.lookup y.1=some c)
 (hx:∀ x c,X.env.cells.lookup x=some c->c ∉ fp) {h':ø} (un:∀ c o,s2.heap.get? c=some o->H2 c=none->c ∉ fp->∃ sl,h'.get? c=some { o with slots:=sl }) (m:Str->Zn) :
 ∀ (i:Nat) (x:Str) (v:V),(bj own ak)[i]?=some x->(fw own ak σ)[i]?=some (some v)->∃ u,RelV v u/\Look (compEnvC sc cl C X.env) h' m x u:=by
 intro i x v e1 e2;unfold bj at e1;unfold fw at e2;by_cases hi:i < own.length
 ·rw[Sb (by simpa using hi),Ø] at e2
  cases q:own[i]? with
  |none=>rw[q] at e2;cases e2
  |some y=>rw[q] at e2;cases e2
 ·rw[QJ (by simpa using hi),Ä,Ø] at e2
  rw[QJ (by simpa using hi),Ø] at e1
  cases q:ak[i - own.length]? with
  |none=>rw[q] at e1;cases e1
  |some p =>
   rw[q] at e1 e2;obtain rfl:p.1=x:=gV e1;have e3:(σ[p.2]?).getD none=some v:=gV e2;have e4:σ[p.2]?=some (some v):=by
    cases z:σ[p.2]? with
    |none=>rw[z] at e3;cases e3
    |some w=>rw[z] at e3;exact congrArg some e3
   obtain⟨hN,hf⟩:=S.captd p (ð q);have hmem:(p.1,ù)∈sc.names:=QN hf;have hk:=S.frees _ hmem rfl;obtain⟨m0,_,hl⟩:=I.loc;have vis:HJ X.env.scope p.1:=.inr hk;obtain⟨u,r,lk⟩:=hl p.2 p.1 v hN e4 vis;refine⟨u,r,.inr ⟨?_,?_⟩⟩
   ·exact ic hf
   ·rcases lk with ⟨hl0,_⟩ | ⟨_,c,hc,o,ho,hd⟩
    ·rcases hk with hk | hk <;> (rw[hk] at hl0;cases hl0)
    ·obtain⟨c',hc'⟩:=hcf _ hmem rfl;have:=hcl _ _ hc';rw[hc] at this;cases this;obtain⟨sl,q'⟩:=un c o ho (I.freeC _ _ hc) (hx _ _ hc);exact⟨c,hc',_,q',hd⟩
end
def E0(X:Cx)(aa:List (Ì × Obj))(σ:St)(R:V->Hp->Prop)(acc:Å)(C:Ì)(s':É):Prop:=
 ∃ D H' m',acc=.ref D/\Inv X aa σ H' s'/\kH X aa H' C/\s'.heap.Ns C m'/\R (.ref D) H'
def BE(J:It)(σ0:St)(H1:Hp)(g:TG)(tt:TT)(te:TE)(Q:VK):Prop:=∃ W:Nat->Nat->List V->Hp->Prop,(∃ m,W 0 m [] H1)/\∀ i m ys H,W i m ys H ->
 (J.stop i H/\∀ p,H p=none->Q (.ref p) (upd H p (.lst ys))) \/
 (J.go i H/\ys.length < sizeLine/\∃ N:List V->Hp->Prop,(∀ zs H',N zs H'->∃ m',m' < m/\W (i + 1) m' zs H')/\∀ x H',J.yld i H x H'->g x σ0 H' λσ2 H2=>tt σ2 H2 λb H3 =>
  if b=true then te σ2 H3 (λy H4=>N (ys++[y]) H4) else N ys H3)
def BF(own:Zk)(ak:List (Str × Nat))(wi:TI)(g:TG)(tt:TT)(te:TE):TE:=λσ H Q=>wi σ H λJ H1=>BE J (fw own ak σ) H1 g tt te Q
section
variable {X:Cx}{aa:List (Ì × Obj)}{σ:St}{H2:Hp}{s2:É}{sc:tv}{own:Zk}{ak:List (Str × Nat)}{cl:List (Str × Ì)}{el tg src:Ù}{tests:Zm}{ps:Pos}{g:TG}{tt:TT}{te:TE}
theorem nQ(hc:X.calm=true)(S:lF X sc own ak)(hcl:∀ x c,cl.lookup x=some c->X.env.cells.lookup x=some c)(hcf:∀ y∈sc.names,y.2=.free->∃ c,cl.lookup y.1=some c)
 (hg:∀ C s H fp,PG (aZ X (bj own ak) sc cl C s H fp) tg g) (ht:∀ C s H fp,Iu (aZ X (bj own ak) sc cl C s H fp) tests tt) (he:∀ C fp,(∀ b∈fp,kH X aa H2 b)->PE (aZ X (bj own ak) sc cl C s2 H2 fp) el te)
 {it:Ì}{fp:Zr}{tn:Nat->ø->Prop}{J:It} (I2:Inv X aa σ H2 s2) (T:Turn X.prog X.w X.K tg J fp it tn) (st2:tn 0 s2.heap) (f2:∀ b∈fp,kH X aa H2 b)
 {R:VK} (h:BE J (fw own ak σ) H2 g tt te R) {RR:Å->Ì->Result->É->Prop} (hRR:∀ acc C s',E0 X aa σ R acc C s'->RR acc C (.ok .next) s') {E:Å->É->Prop} :
  Ô (à X.prog X.w) X.A (X2 []) (λacc s3=>Ô (à X.prog X.w) X.A (newFunctionEnv sc X.env.globals cl [] X.env.qual none .none (some X.env)) (λce s4 =>
   TF (à X.prog X.w) X.A (.compStart (.ListComp el [⟨tg,src,tests,0⟩] sc ps) 0 (.ref it) acc { ce with scope:=relabel sc X.env }) (RR acc ce.locals) s4) E s3) E s2:=by
 obtain⟨W,⟨m0,w0⟩,turn⟩:=h;refine ÿ (U3 S.nocell (by intro y hy;simp at hy) (λh1 hns1 hsb1=>?_) S.kind)
 dsimp only at hns1 hsb1 ⊢;generalize hH3:s2.heap.push { cls:=.type "list",dict:=none,data:=.seq ([]:Zj).toArray }=h3 at hns1 hsb1 ⊢;have hC:h3.objs.size=s2.heap.objs.size + 1:=by rw[← hH3,SD]
 have below:∀ b,b < s2.heap.objs.size->b≠h3.objs.size/\b≠s2.heap.objs.size:=λb hb=>⟨∅,∅⟩
 have hDC:s2.heap.objs.size≠h3.objs.size:=∅
 have old:∀ b o,s2.heap.get? b=some o->h1.get? b=some o:=λb o e=>hsb1.extBut b o (below b (á e)).1 (Ã _ (hH3 ▸ Ã _ e));have hacc:h1.get? s2.heap.objs.size=some { cls:=.type "list",data:=.seq ([]:Zj).toArray 0 }:=hsb1.extBut _ _ hDC (Ã _ (hH3 ▸ Ò _ rfl));have fpLt:∀ b∈fp,b < s2.heap.objs.size:=λb hb=>by
  obtain⟨o,e,_⟩:=T.obj _ _ st2 b hb;exact á e
 have celLt:∀ x c,X.env.cells.lookup x=some c->c < s2.heap.objs.size:=λx c e=>by
  obtain⟨v,o,q,_⟩:=I2.cell x c e;exact á q
 have frLt:∀ b∈hV X.stack,b < s2.heap.objs.size:=λb hb=>by
  obtain⟨_,o,q,_⟩:=I2.stack.mem hb;exact á q
 have celFp:∀ x c,X.env.cells.lookup x=some c->c ∉ fp:=λx c e hb=>(f2 c hb).2.2.2.2.1 x c e rfl;have fpFr:∀ b∈fp,b ∉ hV X.stack:=λb hb hf=>by
  rcases ß.mp (I2.wz b hf) with z | z
  ·exact(f2 b hb).2.1 z
  ·exact(f2 b hb).2.2.1 z
 have okX:(aZ X (bj own ak) sc cl h3.objs.size s2 H2 fp).Ok:=by
  refine⟨I2.ok.mod,S.kind,I2.ok.glob,I2.ok.blt,(by show s2.heap.objs.size<=h3.objs.size;omega),λx y c e1 e2=>I2.ok.inj x y c (hcl x c e1) (hcl y c e2),λx hx=>?_,λx c hx=>(by cases hx),I2.ok.hd,I2.ok.frames,.inl rfl,
   λb hb=>⟨(below b (fpLt b hb)).1,λx c e z=>celFp x c (hcl x c e) (z ▸ hb)⟩,I2.bs,ê I2.ok.bsz I2.sz,λb o e hb=>?_,fpFr,I2.stack,I2.kF⟩
  ·have hx':(x,ù)∈sc.names:=by
    rcases hx with hx | hx
    ·exact nO hx (.inl rfl) S.nocell
    ·exact nO hx (.inr rfl) S.nocell
   exact hcf _ hx' rfl
  ·rcases (f2 b hb).2.2.2.1 with z | z
   ·exact I2.ok.noex b o e z
   ·have l1:b < X.base.objs.size:=á e;have l2:X.base.objs.size<=X.s₀.heap.objs.size:=I2.ok.bsz;have l3:X.s₀.heap.objs.size<=b:=z;exact absurd l1 (Ye.mpr (ê l2 l3))
 have reset:∀ {pl:List (Ì × Obj)}{σ':St}{H':Hp}{s':É},Inv (aZ X (bj own ak) sc cl h3.objs.size s2 H2 fp) pl σ' H' s'->Inv (aZ X (bj own ak) sc cl h3.objs.size s2 H2 fp) pl (fw own ak σ) H' s':=λ{pl σ' H' s'} I'=>by
  obtain⟨m,hn,_⟩:=I'.loc;refine⟨I'.ok,I'.os,I'.bare,I'.base,⟨m,hn,λi x v e1 e2 _=>qH I2 S hcl hcf celFp (λc o q n hx=>I'.base.any q n hx) m i x v e1 e2⟩,I'.cell,I'.free,I'.freeC,I'.pin,I'.aV,?_⟩;show(fw own ak σ).length=(bj own ak).length;simp[fw,bj]
 have start:Inv (aZ X (bj own ak) sc cl h3.objs.size s2 H2 fp) [(s2.heap.objs.size,{ cls:=.type "list",data:=.seq ([]:Zj).toArray 0 })] (fw own ak σ) H2 { s2 with heap:=h1,toks:=s2.toks + ([]:List (Str × Å)).length }:=by
  refine⟨okX,rfl,I2.bare,Un.kept old,⟨_,hns1,λi x v e1 e2 _=>qH I2 S hcl hcf celFp (λc o q _ _=>⟨o.slots,old c o q⟩) _ i x v e1 e2⟩,λx c e=>?_,?_,λx c e=>I2.freeC x c (hcl x c e),λp hp=>?_,I2.aV.kept old,?_⟩
  ·obtain⟨v,q⟩:=I2.cell x c (hcl x c e);exact⟨v,q.keeps old⟩
  ·exact I2.aV.fresh (by show s2.heap.objs.size<=h3.objs.size;omega)
  ·have hp':p=(s2.heap.objs.size,{ cls:=.type "list",data:=.seq ([]:Zj).toArray 0 }):=by simpa using hp
   subst hp';exact⟨hacc,I2.aV.fresh (Ñ _),hDC,λz=>Qt _ (frLt _ z),λv z=>by cases z⟩
  ·show(fw own ak σ).length=(bj own ak).length;simp[fw,bj]
 have mS:∀ {pl:List (Ì × Obj)}{H':Hp},(∀ p∈pl,p.1 ∉ fp)->(∀ b∈fp,H' b=none)->∀ b∈fp,kH (aZ X (bj own ak) sc cl h3.objs.size s2 H2 fp) pl H' b:=λ{pl H'} hp hn b hb =>
  ⟨hn b hb,(below b (fpLt b hb)).1,fpFr b hb,.inl hb,λx c e z=>celFp x c (hcl x c e) (z ▸ hb),λp hpp z=>hp p (by simpa using hpp) (z ▸ hb)⟩
 have hDfp:s2.heap.objs.size ∉ fp:=λz=>Qt _ (fpLt _ z);have loop:∀ s3:É,s3={ s2 with heap:=h1,toks:=s2.toks + ([]:List (Str × Å)).length } ->
   TF (à X.prog X.w) X.A (.compLoop (.ListComp el [⟨tg,src,tests,0⟩] sc ps) 0 (.ref it) (.ref s2.heap.objs.size) (compEnvC sc cl h3.objs.size X.env)) (RR (.ref s2.heap.objs.size) h3.objs.size) s3:=by
  rintro s3 rfl;refine zY (λn s'=>∃ i ys H' ar k,Inv (aZ X (bj own ak) sc cl h3.objs.size s2 H2 fp) [(s2.heap.objs.size,{ cls:=.type "list",data:=.seq (VA ar) k })] (fw own ak σ) H' s'/\tn i s'.heap/\(∀ b∈fp,H' b=none)/\Vals ys ar/\ys.length<=sizeLine/\W i n ys H') ?_ m0
   ⟨0,[],H2,[],0,start,T.keep _ _ _ st2 λb _ o e=>old b o e,λb hb=>(f2 b hb).1,.nil,Se _,w0⟩
  rintro n s' ⟨i,ys,H',ar,k,I',st',fr',hv,hz,w'⟩;have pinD:∀ p∈[((s2.heap.objs.size:Ì),({ cls:=.type "list",data:=.seq (VA ar) k }:Obj))],p.1 ∉ fp:=λp hp=>by
   have hp':p=(s2.heap.objs.size,{ cls:=.type "list",data:=.seq (VA ar) k }):=by simpa using hp
   subst hp';exact hDfp
  rcases turn i n ys H' w' with ⟨stop,q⟩ | ⟨go,hlt,N,hN,step⟩
  ·refine b7 (T.done (aZ X (bj own ak) sc cl h3.objs.size s2 H2 fp) rfl rfl rfl hc i _ s' _ H' EX I' (mS pinD fr') st' stop) λr s1 hr=>?_;obtain⟨hr,I1⟩:=hr;subst hr;obtain⟨gD,nD,_,_,_⟩:=I1.pin _ (é _ Ë);obtain⟨m',hn',_⟩:=id I1.loc;have un:Un (hV X.stack) fp H2 (upd H' s2.heap.objs.size (.lst ys)) s2.heap s1.heap:=by
    have u:=I1.base;have nD2:H2 s2.heap.objs.size=none:=I2.aV.fresh (Ñ _);refine⟨u.keep,u.slot,λb o e n hx=>?_,u.there,λb xs e=>?_,λb o xs e=>?_,λb ps' e=>?_⟩
    ·rw[ai (below b (á e)).2];exact u.free b o e n hx
    ·rw[ai (aB e nD2)];exact u.tups b xs e
    ·rw[ai (aB e nD2)];exact u.frzs b o xs e
    ·obtain⟨more,e'⟩:=u.tbls b ps' e;exact⟨more,by rw[ai (aB e nD2)];exact e'⟩
   have IX:Inv X aa σ (upd H' s2.heap.objs.size (.lst ys)) s1:=I2.G0 I1.os un (I1.aV.yu nD hv hz gD) I1.bare λb hb=>⟨(f2 b hb).2.2.2.1,(f2 b hb).2.1,(f2 b hb).2.2.2.2.1,(f2 b hb).2.2.2.2.2⟩;refine hRR _ _ _ ⟨_,_,m',rfl,IX,?_,hn',q _ nD⟩;exact I2.mS ∅ (by rw[ai hDC.symm];exact I1.free)
  ·refine b7 (T.item (aZ X (bj own ak) sc cl h3.objs.size s2 H2 fp) rfl rfl rfl hc i _ s' _ H' EX I' (mS pinD fr') st' go) λr s1 hr=>?_;obtain⟨u,hr,h4⟩:=hr;subst hr;refine b7 h4 λ_ s5 hr5=>?_;obtain⟨x,H5,I5,r5,y5,st5,fr5⟩:=hr5;have I5p:=I5.pinned (mS pinD fr5) (T.obj _ _ st5);refine b7 (hg _ _ _ _ _ s5 _ H5 x u _ I5p r5 (step x H5 y5)) λ_ s6 hr6=>?_;obtain⟨σ6,H6,I6,q6⟩:=hr6;refine b7 (ht _ _ _ _ _ s6 σ6 H6 _ I6 q6) λok s7 hr7=>?_;obtain⟨H7,I7,q7⟩:=hr7;have memFp:∀ {pl:List (Ì × Obj)}{b:Ì}{o:Obj},b∈fp->s5.heap.get? b=some o->(b,o)∈([]:List (Ì × Obj))++(pl++kg fp s5.heap):=λhb e=>é _ (é _ (fv hb e));cases ok with
   |false =>
    rw[if_neg Û] at q7 ⊢;obtain⟨m',hm,w7⟩:=hN _ _ q7;refine⟨m',hm,i + 1,ys,H7,ar,k,reset (I7.kG λp hp=>I7.pin p (é _ (Rb _ hp))),T.keep _ _ _ st5 λb hb o e=>(I7.pin (b,o) (memFp hb e)).1,λb hb=>?_,hv,hz,w7⟩;obtain⟨o,e,_⟩:=T.obj _ _ st5 b hb;exact(I7.pin (b,o) (memFp hb e)).2.1
   |true =>
    rw[if_pos rfl] at q7 ⊢;refine b7 (he _ _ f2 _ s7 σ6 H7 _ I7 q7) λuv s8 hr8=>?_;obtain⟨y,H8,I8,r8,q8⟩:=hr8;obtain⟨m',hm,w8⟩:=hN _ _ q8;obtain⟨gD,nD,dC,dF,_⟩:=I8.pin _ (é _ (Rb _ Ë));refine append_at gD (λh9 sb hD9=>?_) (by show(VA ar).size<=sizeLine;rw[ã,← hv.length];exact hz)
    have I8a:Inv (aZ X (bj own ak) sc cl h3.objs.size s2 H2 fp) (kg fp s5.heap) σ6 H8 s8:=I8.kG λp hp=>I8.pin p (é _ (é _ hp));have I9:Inv (aZ X (bj own ak) sc cl h3.objs.size s2 H2 fp) (kg fp s5.heap) σ6 H8 { s8 with heap:=h9 }:=I8a.turned (t':=s8.toks) (λb o hb e=>(sb.2 b hb).trans e) nD dC (.inr (Ñ _))
     (λx c e z=>Qt s2.heap.objs.size (by have:=celLt x c (hcl x c e);rw[z] at this;exact this)) (λp hp z=>hDfp (z ▸ (qv (by simpa using hp)).1))
    rw[List.push_toArray] at hD9;refine⟨m',hm,i + 1,ys++[y],H8,ar++[uv],k + 1,(reset I9).kG λp hp=>?_,T.keep _ _ _ st5 λb hb o e=>?_,λb hb=>?_,hv.append (.cons r8 .nil),by rw[Rk];exact hlt,w8⟩
    ·have hp':p=(s2.heap.objs.size,{ cls:=.type "list",data:=.seq (VA (ar++[uv])) (k + 1) }):=by simpa using hp
     subst hp';exact⟨hD9,nD,dC,dF,λv z=>by cases z⟩
    ·exact(I9.pin (b,o) (é _ (fv hb e))).1
    ·obtain⟨o,e,_⟩:=T.obj _ _ st5 b hb;exact(I9.pin (b,o) (é _ (fv hb e))).2.1
 exact codeAny_compStart_list (loop _ rfl) (T.self _ 0 _ _ _ (T.keep _ _ _ st2 λb _ o e=>old b o e) (loop _ rfl))
end
section
variable {X:Cx}{sc:tv}{own:Zk}{ak:List (Str × Nat)}{el tg src:Ù}{tests:Zm}{ps pos:Pos}{wi:TI}{g:TG}{tt:TT}{te:TE}
theorem E1(hc:X.calm=true)(S:lF X sc own ak)(hi:PI X tg src wi)(hg:∀ cl C s H fp,PG (aZ X (bj own ak) sc cl C s H fp) tg g)
 (ht:∀ cl C s H fp,Iu (aZ X (bj own ak) sc cl C s H fp) tests tt) (he:∀ cl C s H fp,PE (aZ X (bj own ak) sc cl C s H fp) el te)
 (hs:∀ x,SU src X.env x=pure x:=by intro _;rfl):PE X (.ListComp el [⟨tg,src,tests,0⟩] sc ps) (BF own ak wi g tt te):=by
 intro aa s σ H Q I h;obtain⟨cl,hclos,hcl,hcf⟩:=yt (scope:=sc) (env:=X.env) λy hy hk=>I.ok.has y.1 (S.frees y hy hk);rw[eval_ListComp];refine Xv (use:=none) rfl hs hclos S.kind S.locs (b7 (hi aa s σ H _ I h) λv s1 h1=>b7 h1 λitv s2 h2=>?_);obtain⟨it,fp,tn,J,H2,e,I2,T,st2,f2,hw⟩:=h2;subst e;refine nQ hc S hcl hcf (hg cl) (ht cl) (λC fp _=>he cl C _ _ fp) I2 T st2 f2 hw (RR:=λacc C=>compPost (à X.prog X.w) X.A X.xe none (EP X aa σ Q) acc C) λacc C s' hf=>?_;obtain⟨D,H',m',rfl,I',f',ns',r⟩:=hf;exact⟨m',ns',λh' sb=>⟨.ref D,H',I'.turned (t':=s'.toks) (λb o hb e=>(sb.2 b hb).trans e) f'.1 f'.2.1 f'.2.2.2.1 f'.2.2.2.2.1 f'.2.2.2.2.2,rfl,r⟩⟩
theorem E2{i:Nat}{y:Str}{py:Pos}(hN:X.N.Nodup)(hiN:X.N[i]?=some y)(hy:Loc X.env.scope y)(hsw:TK (.ListComp el [⟨tg,src,tests,0⟩] sc ps) (some (.Name y py)) pos.line X.env=pure true)
 (hc:X.calm=true) (S:lF X sc own ak) (hi:PI X tg src wi) (hg:∀ cl C s H fp,PG (aZ X (bj own ak) sc cl C s H fp) tg g)
 (ht:∀ cl C s H fp,Iu (aZ X (bj own ak) sc cl C s H fp) tests tt) (he:∀ cl C s H fp,PE (aZ X (bj own ak) sc cl C s H fp) el te)
 (hs:∀ x,SU src X.env x=pure x:=by intro _;rfl) (hf:X.fn y=true\/X.env.scope.names.lookup y=some .local:=by first | exact .inl rfl | exact .inr rfl | assumption) :
 PS X (.Assign [.Name y py] (.ListComp el [⟨tg,src,tests,0⟩] sc ps) pos) (Bm (BF own ak wi g tt te) (qu i)):=by
 intro aa s σ H D I h;obtain⟨cl,hclos,hcl,hcf⟩:=yt (scope:=sc) (env:=X.env) λy hy hk=>I.ok.has y.1 (S.frees y hy hk);rw[exec_Assign_Name_used _ _ _ _ hsw];refine À (Vw (À ?_));show Ô _ X.A (do let _ ← comprehension (.ListComp el [⟨tg,src,tests,0⟩] sc ps) sc X.env _ (X2 []) false (eval src X.env) (some (U8 (.Name y py) X.env))) _ _ s;refine À (QM (Xv (use:=some (U8 (.Name y py) X.env)) (Q:=λ_ s'=>SP X aa D .next s') rfl hs hclos S.kind S.locs
  (b7 (hi aa s σ H _ I h) λv s1 h1=>b7 h1 λitv s2 h2=>?_)) (λ_ s' hq=>Ê (Ê hq)) λ_ _ e=>e)
 obtain⟨it,fp,tn,J,H2,e,I2,T,st2,f2,hw⟩:=h2;subst e;refine nQ hc S hcl hcf (hg cl) (ht cl) (λC fp _=>he cl C _ _ fp) I2 T st2 f2 hw (RR:=λacc C=>compPost (à X.prog X.w) X.A X.xe (some (U8 (.Name y py) X.env)) (λ_ s'=>SP X aa D .next s') acc C) λacc C s' hfn=>?_;obtain⟨DA,H',m',rfl,I',f',ns',r⟩:=hfn;show Ô _ X.A (U8 (.Name y py) X.env (.ref DA)) _ _ _;refine wpAny_assign_Name (qr (v:=.ref DA) I' hN hiN hy rfl (λs3 I3 ha=>?_) hf);obtain⟨a,sb,ha⟩:=ha;have hCa:C≠a:=λz=>by
  rcases ha with q | q
  ·exact f'.2.1 (z.trans q)
  ·exact f'.2.2.2.2.1 _ _ q z.symm
 exact⟨m',ns'.sameBut sb hCa,λh' sb'=>⟨_,H',I3.turned (t':=s3.toks) (λb o hb e=>(sb'.2 b hb).trans e) f'.1 f'.2.1 f'.2.2.2.1 f'.2.2.2.2.1 f'.2.2.2.2.2,r⟩⟩
end
end L2
namespace L2
open PySem
section
variable {P:â}{w:ó}{A:ö}{E:Å->É->Prop}{s:É}
theorem ig(hr:s.heap.IsTupleIter r t k)(ht:s.heap.IsTuple t vs)(hx:vs[k]?=some x)
 (hQ:∀ h',h'.IsTupleIter r t (k + 1)->Ul r s.heap h'->Q x { s with heap:=h' }):Ô (à P w) A (Vh (.ref r)) Q E s:=by
 obtain⟨o,ho,hc,hd⟩:=id hr;obtain⟨ot,hot,_,nt,hdt⟩:=ht;unfold Vh;refine À (QK (name:=QH "__next__") hr.typeIs Sd (QG Sd hr.typeIs Wz ?_ (Wu _)));show Ô _ _ (XJ (.ref r) 0 >>= _) _ _ s;refine À (Q2 ho hd (x:=.ref t) rfl ?_);show Ô _ _ (if (ò t == è)=true then _ else _) _ _ s;rw[if_neg (show ¬ ((ò t == è)=true) from Û)];show Ô _ _ (XJ (.ref r) 1 >>= _) _ _ s;refine À (Q2 ho hd (x:=.int k 0) rfl ?_);show Ô _ _ (seqItems? (.ref t) >>= _) _ _ s;refine À (RE hot hdt ?_);simp only[ä,hx];refine À (wpAny_setField ho hd (by simp) (Ê ⟨x,rfl,Ê (hQ _ ⟨_,R3 _ ho (Obj.isFreed_of_fields (Yd hd _)),(Obj.cls_mapFields ..).trans hc,by rw[Yd hd];simp[Ra]⟩ (RC ..))⟩))
theorem gw(hh:A.handled=none)(hr:s.heap.IsTupleIter r t k)(ht:s.heap.IsTuple t vs)(hx:vs[k]?=none)
 (hE:∀ h' e,Heap.ExtBut r s.heap h'->(∃ o,h'.get? e=some o/\o.cls=.type "StopIteration")->E (.ref e) { s with heap:=h' }):Ô (à P w) A (Vh (.ref r)) Q E s:=by
 obtain⟨o,ho,hc,hd⟩:=id hr;obtain⟨ot,hot,_,nt,hdt⟩:=ht;unfold Vh;refine À (QK (name:=QH "__next__") hr.typeIs Sd (QG Sd hr.typeIs Wz ?_ (Wu _)));show Ô _ _ (XJ (.ref r) 0 >>= _) _ _ s;refine À (Q2 ho hd (x:=.ref t) rfl ?_);show Ô _ _ (if (ò t == è)=true then _ else _) _ _ s;rw[if_neg (show ¬ ((ò t == è)=true) from Û)];show Ô _ _ (XJ (.ref r) 1 >>= _) _ _ s;refine À (Q2 ho hd (x:=.int k 0) rfl ?_);show Ô _ _ (seqItems? (.ref t) >>= _) _ _ s;refine À (RE hot hdt ?_);simp only[ä,hx];refine À (S2 (À (wpAny_setField ho hd (by simp) ?_)));show Ô _ _ (newExc (.type "StopIteration") [] >>= _) _ _ _
 refine À ?_;simp only[newExc,newTuple];refine À (ÿ ?_ (by size_fits));refine À (m:=U7 _ _) (Ww (a:=è) (by first | rfl | (simp only[U7];rfl)) ?_)
 refine ÿ ?_ (by size_fits);simp only[raiseNew];refine À (wpAny_handled ?_)
 first | rw[show A.in1.handled=none from hh] | rw[hh]
 refine À (Ê (wpAny_throw (hE _ _ (((RC ..).extBut.push _).push _) ⟨_,Ò _ rfl,rfl⟩)))
theorem zZ{z TI TO i1 i2 l1 l2:Ì}{k:Nat}{xs ys:Zo}{x y a b:Å}{Q:Zn->É->Prop}(D:W5 z TI TO i1 i2 l1 l2)(hz:T7 s.heap z TI TO .none)
 (hTI:RF s.heap TI (.ref i1) (.ref i2)) (hTO:RF s.heap TO a b) (h1:s.heap.IsTupleIter i1 l1 k) (h2:s.heap.IsTupleIter i2 l2 k) (hl1:s.heap.IsTuple l1 xs) (hl2:s.heap.IsTuple l2 ys)
 (hx:xs[k]?=some x) (hy:ys[k]?=some y)
 (hQ:∀ h',T7 h' z TI TO (Ra s.heap.objs.size)->RF h' TO x y->h'.IsTupleIter i1 l1 (k + 1)->h'.IsTupleIter i2 l2 (k + 1)->RF h' s.heap.objs.size x y->h'.objs.size=s.heap.objs.size + 1 ->
   (∀ c o,c≠z->c≠TO->c≠i1->c≠i2->s.heap.get? c=some o->h'.get? c=some o)->Q (some (.ref s.heap.objs.size)) { s with heap:=h' }):Ô (à P w) A (TL (.ref z)) Q E s:=by
 have hT:s.TypeIs (.ref z) "zip":=⟨_,hz,rfl⟩;unfold TL;refine À (Uo (QK (name:=QH "__next__") hT UH (QG UH hT F.entry_zip_next ?_ (Y3 _))));show Ô _ _ (XJ (.ref z) 2 >>= _) _ _ _;refine À (Q2 hz rfl (x:=.bool false) rfl ?_);show Ô _ _ (XJ (.ref z) 3 >>= _) _ _ _;refine À (Q2 hz rfl (x:=.ref TI) rfl ?_);refine À (RE hTI rfl ?_);show Ô _ _ (SW (.ref z) >>= _) _ _ _;refine À ?_;unfold SW;refine À (Q2 hz rfl (x:=.none) rfl (Ê ?_));simp only[if_true];refine À (S2 (À (Q2 hz rfl (x:=.ref TO) rfl (À (Q0 hz (by simp) λg1 z1 e1=>?_)))))
 replace z1:T7 g1 z TI TO .ellipsis:=z1
 refine À ?_;simp only[Yr,YF,SA,Uj];refine À (À (Vx ?_));show Ô _ _ (Vh (.ref i1) >>= _) _ _ _;refine À (ig (h1.extBut e1.extBut D.i1z) (hl1.extBut e1.extBut D.l1z) hx λg2 r2 e2=>Ê ?_);have t2:RF g2 TO a b:=e2.extBut _ _ D.TOi1 (e1.extBut _ _ D.TOz hTO);refine À (RE t2 rfl (À (U0 t2 λg3 t3 e3=>?_)))
 replace t3:RF g3 TO x b:=t3
 refine À (Yv (Ê ?_));refine À (À (Vx ?_));show Ô _ _ (Vh (.ref i2) >>= _) _ _ _;refine À (ig (((h2.extBut e1.extBut D.i2z).extBut e2.extBut D.i12.symm).extBut e3.extBut D.TOi2.symm) (((hl2.extBut e1.extBut D.l2z).extBut e2.extBut D.l2i1).extBut e3.extBut D.l2TO) hy λg4 r4 e4=>Ê ?_);have t4:RF g4 TO x b:=e4.extBut _ _ D.TOi2 t3;refine À (RE t4 rfl (À (U0 t4 λg5 t5 e5=>?_)))
 replace t5:RF g5 TO x y:=t5
 refine À (Yv (Ê (Ê ?_)));refine À (RE t5 rfl (À (wpAny_newTuple ?_)));have sz:g5.objs.size=s.heap.objs.size:=by rw[e5.1,e4.1,e3.1,e2.1,e1.1]
 have z5:T7 g5 z TI TO .ellipsis:=e5.extBut _ _ D.TOz.symm (e4.extBut _ _ D.i2z.symm (e3.extBut _ _ D.TOz.symm (e2.extBut _ _ D.i1z.symm z1)));have kp:∀ c o,c≠z->c≠TO->c≠i1->c≠i2->s.heap.get? c=some o->g5.get? c=some o:=λc o c1 c2 c3 c4 e=>e5.extBut _ _ c2 (e4.extBut _ _ c4 (e3.extBut _ _ c2 (e2.extBut _ _ c3 (e1.extBut _ _ c1 e))));have r1:g5.IsTupleIter i1 l1 (k + 1):=((r2.extBut e3.extBut D.TOi1.symm).extBut e4.extBut D.i12).extBut e5.extBut D.TOi1.symm;have r5:g5.IsTupleIter i2 l2 (k + 1):=r4.extBut e5.extBut D.TOi2.symm;have zl:z < g5.objs.size:=á z5;show Ô _ _ (VB (.ref z) (.ref g5.objs.size) >>= _) _ _ _;refine À ?_;unfold VB;have z6:T7 (g5.push { cls:=.type "tuple",data:=.seq #[x,y] }) z TI TO .ellipsis:=Ã _ z5;refine À (Q0 z6 (by simp) λg7 z7 e7=>?_)
 replace z7:T7 g7 z TI TO (Ra g5.objs.size):=z7
 refine Q0 z7 (by simp) λg8 z8 e8=>?_
 replace z8:T7 g8 z TI TO (Ra g5.objs.size):=z8
 have up:∀ c o,c≠z->g5.get? c=some o->g8.get? c=some o:=λc o c1 e=>e8.extBut _ _ c1 (e7.extBut _ _ c1 (Ã _ e));have t8:RF g8 g5.objs.size x y:=e8.extBut _ _ (R0 zl) (e7.extBut _ _ (R0 zl) (Ò _ rfl));have s8:g8.objs.size=g5.objs.size + 1:=by rw[e8.1,e7.1,SD]
 rw[sz] at z8 t8 s8;refine Ê ⟨_,rfl,?_⟩;refine Ê ?_;show Q (some (.ref g5.objs.size)) _;rw[sz];exact hQ g8 z8 (up _ _ D.TOz t5) (by obtain⟨o,ho,q⟩:=r1;exact⟨o,up _ o D.i1z ho,q⟩) (by obtain⟨o,ho,q⟩:=r5;exact⟨o,up _ o D.i2z ho,q⟩) t8 s8 λc o c1 c2 c3 c4 e=>up c o c1 (kp c o c1 c2 c3 c4 e)
theorem BG{z TI TO i1 i2 l1 l2:Ì}{k:Nat}{xs ys:Zo}{a b:Å}{Q:Zn->É->Prop}(hh:A.handled=none)(D:W5 z TI TO i1 i2 l1 l2)(hz:T7 s.heap z TI TO .none)
 (hTI:RF s.heap TI (.ref i1) (.ref i2)) (hTO:RF s.heap TO a b) (h1:s.heap.IsTupleIter i1 l1 k) (h2:s.heap.IsTupleIter i2 l2 k) (hl1:s.heap.IsTuple l1 xs) (hl2:s.heap.IsTuple l2 ys)
 (hend:xs[k]?=none\/ys[k]?=none) (hQ:∀ h',(∀ c o,c≠z->c≠TO->c≠i1->c≠i2->s.heap.get? c=some o->h'.get? c=some o)->Q none { s with heap:=h' }):Ô (à P w) A (TL (.ref z)) Q E s:=by
 have hT:s.TypeIs (.ref z) "zip":=⟨_,hz,rfl⟩;have fin:∀ (h':ø) (e:Ì),(∀ c o,c≠z->c≠TO->c≠i1->c≠i2->s.heap.get? c=some o->h'.get? c=some o)->(∃ o,h'.get? e=some o/\o.cls=.type "StopIteration") ->
   Ô (à P w) A (isInstance (.ref e) (.type "StopIteration") >>= λb=>if b=true then pure none else throw (.ref e)) Q E { s with heap:=h' }:=λh' e kp he=>by
  obtain⟨o,ho,hc⟩:=he;exact À (Wj (T:="StopIteration") (b:=true) ⟨o,ho,hc⟩ isSubtype_stop (Ê (hQ _ kp)))
 unfold TL;refine À (Uo (QK (name:=QH "__next__") hT UH (QG UH hT F.entry_zip_next ?_ (Y3 _))));show Ô _ _ (XJ (.ref z) 2 >>= _) _ _ _;refine À (Q2 hz rfl (x:=.bool false) rfl ?_);show Ô _ _ (XJ (.ref z) 3 >>= _) _ _ _;refine À (Q2 hz rfl (x:=.ref TI) rfl ?_);refine À (RE hTI rfl ?_);show Ô _ _ (SW (.ref z) >>= _) _ _ _;refine À ?_;unfold SW;refine À (Q2 hz rfl (x:=.none) rfl (Ê ?_));simp only[if_true];refine À (S2 (À (Q2 hz rfl (x:=.ref TO) rfl (À (Q0 hz (by simp) λg1 z1 e1=>?_)))))
 replace z1:T7 g1 z TI TO .ellipsis:=z1
 refine À ?_;simp only[Yr,YF,SA,Uj];refine À (À (Vx ?_));show Ô _ _ (Vh (.ref i1) >>= _) _ _ _;cases hx:xs[k]? with
 |none =>
  refine À (gw hh (h1.extBut e1.extBut D.i1z) (hl1.extBut e1.extBut D.l1z) hx λg2 e e2 he=>?_);obtain⟨oe,hoe,hce⟩:=he;have z2:T7 g2 z TI TO .ellipsis:=e2 _ _ D.i1z.symm z1;have hez:e≠z:=λq=>by subst q;rw[z2] at hoe;cases hoe;simp at hce
  exact Q0 z2 (by simp) λg3 _ e3=>fin g3 e (λc o c1 _ c3 _ q=>e3.extBut _ _ c1 (e2 _ _ c3 (e1.extBut _ _ c1 q))) ⟨oe,e3.extBut _ _ hez hoe,hce⟩
 |some x =>
  have hy:ys[k]?=none:=by rcases hend with q | q;rw[hx] at q;cases q;exact q
  refine À (ig (h1.extBut e1.extBut D.i1z) (hl1.extBut e1.extBut D.l1z) hx λg2 r2 e2=>Ê ?_);have t2:RF g2 TO a b:=e2.extBut _ _ D.TOi1 (e1.extBut _ _ D.TOz hTO);refine À (RE t2 rfl (À (U0 t2 λg3 t3 e3=>?_)));refine À (Yv (Ê ?_));refine À (À (Vx ?_));show Ô _ _ (Vh (.ref i2) >>= _) _ _ _;refine À (gw hh (((h2.extBut e1.extBut D.i2z).extBut e2.extBut D.i12.symm).extBut e3.extBut D.TOi2.symm) (((hl2.extBut e1.extBut D.l2z).extBut e2.extBut D.l2i1).extBut e3.extBut D.l2TO) hy λg4 e e4 he=>?_);obtain⟨oe,hoe,hce⟩:=he;have z4:T7 g4 z TI TO .ellipsis:=e4 _ _ D.i2z.symm (e3.extBut _ _ D.TOz.symm (e2.extBut _ _ D.i1z.symm z1));have hez:e≠z:=λq=>by subst q;rw[z4] at hoe;cases hoe;simp at hce
  exact Q0 z4 (by simp) λg5 _ e5=>fin g5 e (λc o c1 c2 c3 c4 q=>e5.extBut _ _ c1 (e4 _ _ c4 (e3.extBut _ _ c2 (e2.extBut _ _ c3 (e1.extBut _ _ c1 q))))) ⟨oe,e5.extBut _ _ hez hoe,hce⟩
abbrev Ny(h:ø)(l1:Ì):Heap:=h.push { cls:=.type "tuple_iterator",data:=.fields #[.ref l1,.int 0 0] }
abbrev Nz(h:ø)(l1 l2:Ì):Heap:=(Ny h l1).push { cls:=.type "tuple_iterator",data:=.fields #[.ref l2,.int 0 0] }
abbrev NA(h:ø)(l1 l2:Ì):Heap:=(Nz h l1 l2).push { cls:=.type "tuple",data:=.seq #[.ref h.objs.size,.ref (Ny h l1).objs.size] }
abbrev NB(h:ø)(l1 l2:Ì):Heap:=(NA h l1 l2).push { cls:=.type "tuple",data:=.seq #[.none,.none] }
abbrev KP(h:ø)(l1 l2:Ì):Heap:=(NB h l1 l2).push { cls:=.type "zip",data:=.fields #[.none,.bool false,.bool false,.ref (Nz h l1 l2).objs.size,.ref (NA h l1 l2).objs.size] }
theorem wO(l1 l2:Ì)(xs ys:Zo) :
 Meets (Ss.«zip.__new__» ⟨[.type "zip",.ref l1,.ref l2],[]⟩) (λ_ R s=>s.heap.IsTuple l1 xs/\s.heap.IsTuple l2 ys/\R (.ok (.ret (.ref (NB s.heap l1 l2).objs.size))) { s with heap:=KP s.heap l1 l2 }):=
 .of_wp λP w A R s h=>by
  obtain⟨hp,g,d,tk,os⟩:=s;obtain⟨hl1,hl2,h⟩:=h;have hsub:=sub_zip;have hL1:Vn (WN ⟨hp,g,d,tk,os⟩) l1 xs:=hl1;have hL2:Vn (WN ⟨hp.push { cls:=.type "tuple_iterator",data:=.fields #[.ref l1,.int 0 0] },g,d,tk,os⟩) l2 ys:=Heap.IsTuple.push hl2 _
  wp_walk using R4 hL1,R4 hL2
  exact⟨_,rfl,h⟩
theorem z9(hl1:s.heap.IsTuple l1 xs)(hl2:s.heap.IsTuple l2 ys)
 (h:∀ h',T7 h' (s.heap.objs.size + 4) (s.heap.objs.size + 2) (s.heap.objs.size + 3) .none->RF h' (s.heap.objs.size + 2) (.ref s.heap.objs.size) (.ref (s.heap.objs.size + 1))->RF h' (s.heap.objs.size + 3) .none .none ->
   h'.IsTupleIter s.heap.objs.size l1 0->h'.IsTupleIter (s.heap.objs.size + 1) l2 0->(∀ c o,s.heap.get? c=some o->h'.get? c=some o)->Q (.ref (s.heap.objs.size + 4)) { s with heap:=h' }) :
  Ô (à P w) A (call (.type "zip") [.ref l1,.ref l2]) Q E s:=by
 refine callType_new F.called_zip 1e1 (F.typeCall_zip_2 _ _) (F.newCall_zip_2 _ _) (λobj=>F.args_object_init_3 obj _ _) F.entry_zip_new (wO l1 l2 xs ys) ⟨hl1,hl2,?_⟩
 have n1:(Ny s.heap l1).objs.size=s.heap.objs.size + 1:=SD ..;have n2:(Nz s.heap l1 l2).objs.size=s.heap.objs.size + 2:=by rw[SD,n1]
 have n3:(NA s.heap l1 l2).objs.size=s.heap.objs.size + 3:=by rw[SD,n2]
 have n4:(NB s.heap l1 l2).objs.size=s.heap.objs.size + 4:=by rw[SD,n3]
 have g5:(KP s.heap l1 l2).get? (NB s.heap l1 l2).objs.size=some _:=Ò _ rfl;have g4:(KP s.heap l1 l2).get? (NA s.heap l1 l2).objs.size=some _:=Ã _ (Ò _ rfl);have g3:(KP s.heap l1 l2).get? (Nz s.heap l1 l2).objs.size=some _:=Ã _ (Ã _ (Ò _ rfl));have g2:(KP s.heap l1 l2).get? (Ny s.heap l1).objs.size=some _:=Ã _ (Ã _ (Ã _ (Ò _ rfl)));have g1:(KP s.heap l1 l2).get? s.heap.objs.size=some _:=Ã _ (Ã _ (Ã _ (Ã _ (Ò _ rfl))));show _/\_;rw[n2,n3,n4] at g5;rw[n1,n2] at g3;rw[n3] at g4;rw[n1] at g2;rw[n4];exact⟨⟨_,g5,rfl⟩,h _ g5 g3 g4 ⟨_,g1,rfl,rfl⟩ ⟨_,g2,rfl,rfl⟩ λc o q=>Ã _ (Ã _ (Ã _ (Ã _ (Ã _ q))))⟩
end
open PySem PySem.Spec PyProof.Rows
section
variable {X:Cx}{aa:List (Ì × Obj)}{σ:St}{H:Hp}{s:É}{h':ø}
theorem Inv.ng{t':Nat}{ch:Zr}(I:Inv X aa σ H s)(hf:∀ b∈ch,kH X aa H b)(k:∀ b o,b ∉ ch->s.heap.get? b=some o->h'.get? b=some o):Inv X aa σ H { s with heap:=h',toks:=t' }:=by
 have nch:∀ b u,H b=some u->b ∉ ch:=λb u e z=>by rw[(hf b z).1] at e;cases e
 refine I.step (g':=s.gens) (d':=s.drawn) (ch:=ch) (λb hb=>⟨(hf b hb).2.2.2.1,(hf b hb).2.1,(hf b hb).2.2.2.2.1,(hf b hb).2.2.2.2.2⟩) (λb o _ _ hc e _=>k b o hc e) (λb o _ _ hc e _=>⟨o.slots,k b o hc e⟩) (λ_ _ _ _ n=>n)
  (λb o hc e=>⟨o,k b o hc e⟩) (λ_ _ e=>e) (λ_ _ _ e=>e) (λb ps e=>⟨#[],by rw[e];simp⟩) (λm hm=>?_) (λb u e=>?_) I.bare
 ·obtain⟨o,es,ep,ho,r⟩:=hm;exact⟨o,es,ep,k _ o (λz=>(hf _ z).2.1 rfl) ho,r⟩
 ·refine(I.aV b u e).mR (λc v hc q=>k c v ?_ q) (λ_ q=>q) λ_ _ q=>q;rcases hc with z | z
  ·rw[z];exact nch b u e
  ·exact nch c _ z
theorem Inv.yu{T:Ì}{o:HO}(I:Inv X aa σ H s)(f:kH X aa H T)(h0:X.s₀.heap.objs.size<=T)(aV:jD X.prog X.w (upd H T o) s.heap):Inv X aa σ (upd H T o) s:=by
 have u:=I.base;refine⟨I.ok,I.os,I.bare,⟨u.keep,u.slot,λb ob e n hx=>?_,u.there,λb xs e=>?_,λb ob xs e=>?_,λb ps e=>?_⟩,I.loc,I.cell,?_,λx c e=>?_,λp hp=>?_,aV,I.len⟩
 ·rw[ai (Ý (Þ (á e) h0))];exact u.free b ob e n hx
 ·have z:=u.tups b xs e;rw[ai (aB z f.1)];exact z
 ·have z:=u.frzs b ob xs e;rw[ai (aB z f.1)];exact z
 ·obtain⟨more,z⟩:=u.tbls b ps e;exact⟨more,by rw[ai (aB z f.1)];exact z⟩
 ·rw[ai f.2.1.symm];exact I.free
 ·rw[ai (f.2.2.2.2.1 x c e)];exact I.freeC x c e
 ·obtain⟨e,n,r⟩:=I.pin p hp;exact⟨e,by rw[ai (f.2.2.2.2.2 p hp)];exact n,r⟩
theorem jD.BH{P:â}{w:ó}{H:Hp}{h:ø}{D:Ì}{ys:List V}{ar:Zj}(x:jD P w H h)(hn:H D=none)(hv:Vals ys ar)(hz:ys.length<=sizeLine)(ho:UE h D ar.toArray):jD P w (upd H D (.tup ys)) h:=λb u e=>by
 by_cases hb:b=D
 ·subst hb;rw[aO] at e;cases e;exact⟨hz,ar,hv,ho⟩
 ·rw[ai hb] at e;exact(x b u e).mR (λc v _ q=>q) (λc q=>by rw[ai (aB q hn)];exact q) λc xs q=>by rw[ai (aB q hn)];exact q
end
def ua:Bool->Â->Hp->Ì->List V->Prop
 |true=>jP|false=>dU
def i7:Bool->ø->Ì->Ì->Nat->Prop
 |true=>ø.IsListIter|false=>ø.IsTupleIter
def rV:Bool->ø->Ì->Zo->Prop
 |true=>ø.IsList|false=>Vn
theorem i7.obj{b:Bool}{h:ø}{it a:Ì}{i:Nat}(st:i7 b h it a i):∃ o,h.get? it=some o/\(∀ v,o.data=.cell v->False)/\∀ h':ø,h'.get? it=some o->i7 b h' it a i:=by
 cases b with
 |true=>obtain⟨o,g,c,d⟩:=st;exact⟨o,g,(λv e=>by rw[d] at e;cases e),λh' k=>⟨o,k,c,d⟩⟩
 |false=>obtain⟨o,g,c,d⟩:=st;exact⟨o,g,(λv e=>by rw[d] at e;cases e),λh' k=>⟨o,k,c,d⟩⟩
theorem Inv.rW(I:Inv X aa σ H s)(h:ua b X.K H a xs):∃ ar:Zj,Vals xs ar/\rV b s.heap a ar.toArray/\a < s.heap.objs.size/\∀ ys,ua b X.K H a ys->ys=xs:=by
 cases b with
 |true=>obtain⟨ar,r,p,_⟩:=I.list h;exact⟨ar,r,p.isList,by obtain⟨o,e,_⟩:=p.isList;exact á e,λys h'=>I.ug h' h⟩
 |false=>obtain⟨ar,r,p,_⟩:=I.tuple h;exact⟨ar,r,p,by obtain⟨o,e,_⟩:=p;exact á e,λys h'=>I.qt h' h⟩
section
variable {P:â}{w:ó}{A:ö}{E:Å->É->Prop}{s:É}{b:Bool}{z TI TO i1 i2 l1 l2:Ì}{k:Nat}{xs ys:Zo}{x y p q:Å}
theorem Aa{Q:Zn->É->Prop}(D:W5 z TI TO i1 i2 l1 l2)(hz:T7 s.heap z TI TO .none)(hTI:RF s.heap TI (.ref i1) (.ref i2))(hTO:RF s.heap TO p q)(h1:i7 b s.heap i1 l1 k)(h2:i7 b s.heap i2 l2 k)(hl1:rV b s.heap l1 xs)(hl2:rV b s.heap l2 ys)(hx:xs[k]?=some x)(hy:ys[k]?=some y)
 (hQ:∀ h',T7 h' z TI TO (Ra s.heap.objs.size)->RF h' TO x y->i7 b h' i1 l1 (k + 1)->i7 b h' i2 l2 (k + 1)->RF h' s.heap.objs.size x y->h'.objs.size=s.heap.objs.size + 1 ->
   (∀ c o,c≠z->c≠TO->c≠i1->c≠i2->s.heap.get? c=some o->h'.get? c=some o)->Q (some (.ref s.heap.objs.size)) { s with heap:=h' }):Ô (à P w) A (TL (.ref z)) Q E s:=match b,h1,h2,hl1,hl2,hQ with
 |true,h1,h2,hl1,hl2,hQ=>wpAny_pyNext_zip_item D hz hTI hTO h1 h2 hl1 hl2 hx hy hQ|false,h1,h2,hl1,hl2,hQ=>zZ D hz hTI hTO h1 h2 hl1 hl2 hx hy hQ
theorem BI{Q:Zn->É->Prop}(hh:A.handled=none)(D:W5 z TI TO i1 i2 l1 l2)(hz:T7 s.heap z TI TO .none)(hTI:RF s.heap TI (.ref i1) (.ref i2))(hTO:RF s.heap TO p q)(h1:i7 b s.heap i1 l1 k)(h2:i7 b s.heap i2 l2 k)(hl1:rV b s.heap l1 xs)(hl2:rV b s.heap l2 ys)
 (hend:xs[k]?=none\/ys[k]?=none) (hQ:∀ h',(∀ c o,c≠z->c≠TO->c≠i1->c≠i2->s.heap.get? c=some o->h'.get? c=some o)->Q none { s with heap:=h' }):Ô (à P w) A (TL (.ref z)) Q E s:=match b,h1,h2,hl1,hl2 with
 |true,h1,h2,hl1,hl2=>wpAny_pyNext_zip_end hh D hz hTI hTO h1 h2 hl1 hl2 hend hQ|false,h1,h2,hl1,hl2=>BG hh D hz hTI hTO h1 h2 hl1 hl2 hend hQ
theorem Ab{Q:Å->É->Prop}(hl1:rV b s.heap l1 xs)(hl2:rV b s.heap l2 ys)
 (h:∀ h',T7 h' (s.heap.objs.size + 4) (s.heap.objs.size + 2) (s.heap.objs.size + 3) .none->RF h' (s.heap.objs.size + 2) (.ref s.heap.objs.size) (.ref (s.heap.objs.size + 1))->RF h' (s.heap.objs.size + 3) .none .none ->
   i7 b h' s.heap.objs.size l1 0->i7 b h' (s.heap.objs.size + 1) l2 0->(∀ c o,s.heap.get? c=some o->h'.get? c=some o)->Q (.ref (s.heap.objs.size + 4)) { s with heap:=h' }):Ô (à P w) A (call (.type "zip") [.ref l1,.ref l2]) Q E s:=match b,hl1,hl2,h with
 |true,hl1,hl2,h=>call_zip_2 hl1 hl2 λh' a1 a2 a3 a4 a5 _ a6=>h h' a1 a2 a3 a4 a5 a6|false,hl1,hl2,h=>z9 hl1 hl2 h
end
def Oh(b:Bool)(K:Â)(a c:Ì):It:=
 ⟨λi H=>∃ xs ys x y,ua b K H a xs/\ua b K H c ys/\xs[i]?=some x/\ys[i]?=some y,
  λi H v H'=>∃ T,v=.ref T/\H T=none/\∀ xs ys x y,ua b K H a xs->ua b K H c ys->xs[i]?=some x->ys[i]?=some y->H'=upd H T (.tup [x,y]),
  λi H=>∃ xs ys,ua b K H a xs/\ua b K H c ys/\(xs.length<=i\/ys.length<=i)⟩
theorem BJ{P:â}{w:ó}{K:Â}{es:Zm}{ek:Nat}{ep:Pos}{b:Bool}{a c z TI TO i1 i2:Ì}(D:W5 z TI TO i1 i2 a c) :
 Turn P w K (.Tuple es ek ep) (Oh b K a c) [z,TI,TO,i1,i2] z (λi h=>T7 h z TI TO .none/\RF h TI (.ref i1) (.ref i2)/\(∃ p q,RF h TO p q)/\i7 b h i1 a i/\i7 b h i2 c i) where
 mem:=by simp
 obj:=λi h st c hc=>by
  obtain⟨hz,hTI,⟨p,q,hTO⟩,h1,h2⟩:=st;obtain⟨o1,h1,d1,_⟩:=h1.obj;obtain⟨o2,h2,d2,_⟩:=h2.obj;simp only[ü,p9,or_false] at hc;rcases hc with rfl | rfl | rfl | rfl | rfl
  ·exact⟨_,hz,λv e=>by cases e⟩
  ·exact⟨_,hTI,λv e=>by cases e⟩
  ·exact⟨_,hTO,λv e=>by cases e⟩
  ·exact⟨_,h1,d1⟩
  ·exact⟨_,h2,d2⟩
 keep:=λi h h' st k=>by
  obtain⟨hz,hTI,⟨p,q,hTO⟩,h1,h2⟩:=st;obtain⟨o1,h1,_,r1⟩:=h1.obj;obtain⟨o2,h2,_,r2⟩:=h2.obj;exact⟨k z (by simp) _ hz,k TI (by simp) _ hTI,⟨p,q,k TO (by simp) _ hTO⟩,r1 _ (k i1 (by simp) _ h1),r2 _ (k i2 (by simp) _ h2)⟩
 item:=by
  intro X hP hw hK hc i aa s σ H E I hf st hg;subst hP hw hK;obtain⟨xs,ys,x,y,hq1,hq2,hx,hy⟩:=hg;obtain⟨v1,rv1,p1,_,z1⟩:=I.rW hq1;obtain⟨v2,rv2,p2,_,z2⟩:=I.rW hq2;obtain⟨u1,hu1,ru1⟩:=rv1.get hx;obtain⟨u2,hu2,ru2⟩:=rv2.get hy;obtain⟨hz,hTI,⟨p,q,hTO⟩,h1,h2⟩:=st;refine Aa D hz hTI hTO h1 h2 p1 p2 (x:=u1) (y:=u2) (by simpa using hu1) (by simpa using hu2) λg1 gz gTO g1' g2' gT gs kp=>⟨_,rfl,?_⟩
  refine wpAny_letOwnedTupleGo_zip (s:={ s with heap:=g1 }) gz λg2 gz2 sb=>?_;have hT:H s.heap.objs.size=none:=I.aV.fresh (Ñ _);have kall:∀ c o,c ∉ [z,TI,TO,i1,i2]->s.heap.get? c=some o->g2.get? c=some o:=λc o hc e=>by
   simp only[ü,p9,or_false,not_or] at hc;exact sb.extBut _ _ hc.1 (kp c o hc.1 hc.2.2.1 hc.2.2.2.1 hc.2.2.2.2 e)
  have I2:Inv X aa σ H { s with heap:=g2 }:=I.ng (t':=s.toks) hf kall;have fT:kH X aa H s.heap.objs.size:=I.mS (Ñ _) hT;have gT2:g2.get? s.heap.objs.size=some { cls:=.type "tuple",data:=.seq #[u1,u2] }:=sb.extBut _ _ (λe=>Qt _ (by have:=á hz;rw[← e] at this;exact this)) gT
  have I3:Inv X aa σ (upd H s.heap.objs.size (.tup [x,y])) { s with heap:=g2 }:=I2.yu fT I.sz (I2.aV.BH hT (ar:=[u1,u2]) (.cons ru1 (.cons ru2 .nil)) (by show 2<=sizeLine;rw[Qy];decide) ⟨_,gT2,rfl,_,rfl⟩)
  have TI0:RF g2 TI (.ref i1) (.ref i2):=sb.extBut _ _ D.TIz (kp _ _ D.TIz D.TITO D.TIi1 D.TIi2 hTI);obtain⟨o1,w1,_,r1⟩:=g1'.obj;obtain⟨o2,w2,_,r2⟩:=g2'.obj;refine⟨.ref s.heap.objs.size,_,I3,rfl,⟨_,rfl,hT,λxs' ys' x' y' e1 e2 e3 e4=>?_⟩,⟨gz2,TI0,⟨_,_,sb.extBut _ _ D.TOz gTO⟩,r1 _ (sb.extBut _ _ D.i1z w1),r2 _ (sb.extBut _ _ D.i2z w2)⟩,λc hc=>?_⟩
  ·rw[z1 _ e1] at e3;rw[z2 _ e2] at e4;rw[hx] at e3;rw[hy] at e4;cases e3;cases e4;rfl
  ·rw[ai]
   ·exact(hf c hc).1
   ·intro e;obtain⟨o1,h1,_⟩:=h1.obj;obtain⟨o2,h2,_⟩:=h2.obj;have lt:c < s.heap.objs.size:=by
     simp only[ü,p9,or_false] at hc;rcases hc with rfl | rfl | rfl | rfl | rfl
     ·exact á hz
     ·exact á hTI
     ·exact á hTO
     ·exact á h1
     ·exact á h2
    rw[e] at lt;exact Qt _ lt
 done:=by
  intro X hP hw hK hc i aa s σ H E I hf st hg;subst hP hw hK;obtain⟨xs,ys,hq1,hq2,hend⟩:=hg;obtain⟨v1,rv1,p1,_⟩:=I.rW hq1;obtain⟨v2,rv2,p2,_⟩:=I.rW hq2;obtain⟨hz,hTI,⟨p,q,hTO⟩,h1,h2⟩:=st;have l1:=rv1.length;have l2:=rv2.length;refine BI (I.ok.hd hc) D hz hTI hTO h1 h2 p1 p2 (hend.elim (λe=>.inl (by simp;omega)) λe=>.inr (by simp;omega)) λg kp=>⟨rfl,I.ng (t':=s.toks) hf λc o hcn e=>?_⟩
  simp only[ü,p9,or_false,not_or] at hcn;exact kp c o hcn.1 hcn.2.2.1 hcn.2.2.2.1 hcn.2.2.2.2 e
 self:=λ_ _ _ _ _ st h=>wpAny_pyIter_zip st.1 h
def Oi(K:Â)(ta:TA):TI:=λσ H R=>ta σ H λvs H1=>∃ b a c,vs=[.ref a,.ref c]/\(∃ xs,ua b K H1 a xs)/\(∃ ys,ua b K H1 c ys)/\R (Oh b K a c) H1
theorem boot_zip:õ "zip"=some (.type "zip"):=by decide +kernel
theorem Iv{X:Cx}{a b:Ù}{es:Zm}{ek:Nat}{ep:Pos}{ta:TA}{p pos:Pos}(hg:Gl X "zip")(hm:X.mg "zip"=none)(ha:PA X [a,b] ta)(hs:þ [a,b] X.env=[(false,eval a X.env),(false,eval b X.env)]:=by rfl)(hs2:þ [b] X.env=[(false,eval b X.env)]:=by rfl) :
  PI X (.Tuple es ek ep) (.Call (.Name "zip" p) [a,b] [] pos) (Oi X.K ta):=by
 intro aa s σ H R I h;refine Call_ (hY I hg hm boot_zip (QA (b7 (ha pos aa s σ H _ I h) λus s1 ⟨vs,H1,I1,r1,q1⟩=>?_) (by rw[hs,hs2]) (by rw[hs2];rfl)))
 obtain⟨b,l1,l2,e,⟨xs,hq1⟩,⟨ys,hq2⟩,q⟩:=q1;subst e;obtain⟨u,w',rfl,r,r'⟩:=vals2 r1;cases r;cases r';obtain⟨v1,rv1,p1,a1,_⟩:=I1.rW hq1;obtain⟨v2,rv2,p2,a2,_⟩:=I1.rW hq2;refine Ab p1 p2 λh' hz hTI hTO h1 h2 kp=>wpAny_pyIter_zip (s:={ s1 with heap:=h' }) hz ?_;refine⟨_,[s1.heap.objs.size + 4,s1.heap.objs.size + 2,s1.heap.objs.size + 3,s1.heap.objs.size,s1.heap.objs.size + 1],_,_,H1,rfl,I1.kept (t':=s1.toks) kp,BJ (PyProof.Rows.zipApart_new a1 a2),⟨hz,hTI,⟨_,_,hTO⟩,h1,h2⟩,λc hc=>?_,q⟩;have hc':s1.heap.objs.size<=c:=by
  simp only[ü,p9,or_false] at hc;rcases hc with rfl | rfl | rfl | rfl | rfl
  ·exact RY _ 4
  ·exact RY _ 2
  ·exact RY _ 3
  ·exact Ñ _
  ·exact RY _ 1
 exact I1.mS hc' (I1.aV.fresh hc')
theorem BK(hc:X.calm=true):bZ X (.builtin "all") (λxs H Q=>∃ (a:Ì) (bs:List Bool),xs=[.ref a]/\jP X.K H a (bs.map V.bl)/\Q (.bl (bs.all id)) H):=by
 intro aa s σ H xs us Q I r h;obtain⟨a,bs,rfl,hq,q⟩:=h;obtain⟨u,rfl,rx⟩:=vals1 r;cases rx;obtain⟨ar,rv,pl,hz⟩:=I.list hq;have hlt:a < s.heap.objs.size:=by obtain⟨_,e,_⟩:=pl.isList;exact á e
 have hlen:ar.length=bs.length:=by have:=rv.length;simpa using this.symm
 refine call_all_walk (VU pl.isList ⟨_,_,_,_,_,_,λi=>(bs[i]?).getD true,rfl,Walks.list (by exact I.ok.hd hc) s.heap.objs.size a (Ý hlt) ar.toArray,⟨⟨_,Ò _ rfl,rfl,rfl⟩,pl.isList.push _⟩,?_,?_⟩)
 ·intro i v s' Q' E' hP hQ;have hP':ar[i]?=some v:=by simpa using hP
  have hi:i < bs.length:=by rw[← hlen];exact(ç.mp hP').1
  obtain⟨v',hv',rv'⟩:=rv.get (i:=i) (x:=.bl bs[i]) (by simp[hi])
  rw[hP'] at hv';cases hv';cases (show v=Tc _ from rv');exact QR (by simpa [hi] using hQ)
 ·intro h' tk kp;refine⟨.bl (bs.all id),H,I.kept λb o e=>kp b o (by simpa using Ý (á e)) (Ã _ e),?_,q⟩
  show Tc _=Tc _;rw[ã,hlen,YV]
end L2
namespace MySort
open PySem PySem.W PyProof.Rows
def run{α:Type}(cmp:Nat->Nat->Bool):YI α->α
 |.ret a=>a|.ask i j k=>run cmp (k (cmp i j))
theorem run_bind(cmp:Nat->Nat->Bool)(f:α->YI β):∀ t:YI α,run cmp (t.bind f)=run cmp (f (run cmp t))
 |.ret _=>rfl|.ask i j k=>run_bind cmp f (k (cmp i j))
section
variable (O:KeyOrd) (key:Nat->O.α)
def kk(p:Zq)(i:Nat):O.α:=key (p.getD i 0)
abbrev bY:Nat->Nat->Bool:=λi j=>O.blt (key i) (key j)
def Up(p:Zq)(n:Nat):Prop:=∀ i j,i<=j->j < n->O.kle (kk O key p i) (kk O key p j)
def Dn(p:Zq)(n:Nat):Prop:=∀ i j,i<=j->j < n->O.kle (kk O key p j) (kk O key p i)
variable {O key}
theorem i8(h:p[i]?=q[j]?):kk O key p i=kk O key q j:=by
 unfold kk;rw[S5,S5,h]
theorem wQ(hj:j<=p.size)(k:Nat):kk O key (R5 p i j) k=if i<=k/\k < j then kk O key p (i + j - 1 - k) else kk O key p k:=by
 have e:=getElem?_mirror_all (i:=i) hj k;unfold R5;by_cases h1:i<=k/\k < j
 ·rw[if_pos h1] at e ⊢;exact i8 e
 ·rw[if_neg h1] at e ⊢;exact i8 e
theorem Iw(hs:k < p.size)(hd:d<=k)(i:Nat) :
 kk O key (Wn p k d) i=if i=k - d then kk O key p k else if k - d < i/\i<=k then kk O key p (i - 1) else kk O key p i:=by
 have e:=getElem?_bubble hs d hd i;by_cases h1:i=k - d
 ·rw[if_pos h1] at e ⊢;exact i8 e
 ·rw[if_neg h1] at e ⊢;by_cases h2:k - d < i/\i<=k
  ·rw[if_pos h2] at e ⊢;exact i8 e
  ·rw[if_neg h2] at e ⊢;exact i8 e
theorem Up.more(h:Up O key p n)(h1:1<=n)(hl:O.kle (kk O key p (n - 1)) (kk O key p n)):Up O key p (n + 1):=by
 intro i j hij hj;by_cases e:j=n
 ·subst e;by_cases e2:i=j
  ·subst e2;exact RU _
  ·exact Vm (h i (j - 1) ∅ ∅) hl
 ·exact h i j hij ∅
theorem Dn.more(h:Dn O key p n)(h1:1<=n)(hl:O.kle (kk O key p n) (kk O key p (n - 1))):Dn O key p (n + 1):=by
 intro i j hij hj;by_cases e:j=n
 ·subst e;by_cases e2:i=j
  ·subst e2;exact RU _
  ·exact Vm hl (h i (j - 1) ∅ ∅)
 ·exact h i j hij ∅
theorem wU:∀ (f n:Nat),1<=n->Up O key p n ->
 n<=run (bY O key) (R6 p f n)/\run (bY O key) (R6 p f n)<=n + f/\Up O key p (run (bY O key) (R6 p f n)) /\
   (run (bY O key) (R6 p f n) < n + f->O.klt (kk O key p (run (bY O key) (R6 p f n))) (kk O key p (run (bY O key) (R6 p f n) - 1)))
 |0,n,h1,hu=>⟨Ñ _,Ñ _,hu,λh=>absurd h (Qt _)⟩
 |f + 1,n,h1,hu=>by
  show n<=run _ (if O.blt (kk O key p n) (kk O key p (n - 1))=true then Ug n else R6 p f (n + 1))/\run _ (if O.blt (kk O key p n) (kk O key p (n - 1))=true then Ug n else R6 p f (n + 1))<=n + (f + 1) /\
   Up O key p (run _ (if O.blt (kk O key p n) (kk O key p (n - 1))=true then Ug n else R6 p f (n + 1))) /\
   (run _ (if O.blt (kk O key p n) (kk O key p (n - 1))=true then Ug n else R6 p f (n + 1)) < n + (f + 1) ->
    O.klt (kk O key p (run _ (if O.blt (kk O key p n) (kk O key p (n - 1))=true then Ug n else R6 p f (n + 1)))) (kk O key p (run _ (if O.blt (kk O key p n) (kk O key p (n - 1))=true then Ug n else R6 p f (n + 1)) - 1)))
  cases hb:O.blt (kk O key p n) (kk O key p (n - 1)) with
  |true =>
   simp only[if_true];exact⟨Ñ _,by show n<=n + (f + 1);omega,hu,λ_=>hb⟩
  |false =>
   simp only[Q5,if_false];have ih:=wU f (n + 1) ∅ (hu.more h1 hb)
   refine⟨∅,∅,ih.2.2.1,λh=>ih.2.2.2 ∅⟩
theorem rev_eq(hj:j<=p.size)(he:∀ k,i<=k->k < j->kk O key p k=kk O key p (j - 1))(k:Nat):kk O key (R5 p i j) k=kk O key p k:=by
 rw[wQ hj];split
 ·rw[he _ ∅ ∅,he k ∅ ∅]
 ·rfl
def nR(p:Zq)(i j:Nat):(R5 p i j).Perm p:=mirror_perm _ _ _ _
def nU(p:Zq)(i j:Nat):(R5 p i j).size=p.size:=mirror_size _ _ _ _
structure Iy(O:KeyOrd)(key:Nat->O.α)(p0 p:Array Nat)(n q:Nat):Prop where
 perm:p.Perm p0
 size:p.size=p0.size
 pos:q + 1<=n
 dn:Dn O key p n
 eq:∀ k,n - (q + 1)<=k->k < n->kk O key p k=kk O key p (n - 1)
theorem Iy.rev(h:Iy O key p0 p n q)(hn:n<=p0.size):Iy O key p0 (R5 p (n - (q + 1)) n) n q:=by
 have hz:=h.size;have e:=rev_eq (O:=O) (key:=key) (i:=n - (q + 1)) (j:=n) (p:=p) ∅ h.eq
 exact⟨(nR _ _ _).trans h.perm,(nU _ _ _).trans hz,h.pos,λi j hij hj=>by rw[e,e];exact h.dn i j hij hj,λk h1 h2=>by rw[e,e];exact h.eq k h1 h2⟩
theorem rX:∀ (f:Nat) (p:Zq) (n q:Nat),Iy O key p0 p n q->n + f<=p0.size ->
 n<=(run (bY O key) (Q4 f p n q)).2.1/\(run (bY O key) (Q4 f p n q)).2.1<=n + f /\
   Iy O key p0 (run (bY O key) (Q4 f p n q)).1 (run (bY O key) (Q4 f p n q)).2.1 (run (bY O key) (Q4 f p n q)).2.2
 |0,p,n,q,h,_=>⟨Ñ _,Ñ _,h⟩
 |f + 1,p,n,q,h,hn=>by
  have hp:=h.pos;have hz:=h.size;have unf:run (bY O key) (Q4 (f + 1) p n q)=run (bY O key) (if O.blt (kk O key p n) (kk O key p (n - 1))=true then(if q > 0 then Q4 f (R5 p (n - (q + 1)) n) (n + 1) 0 else Q4 f p (n + 1) 0)
   else .ask (p.getD (n - 1) 0) (p.getD n 0) λd=>if d=true then .ret (p,n,q) else Q4 f p (n + 1) (q + 1)):=rfl
  rw[unf];cases hb:O.blt (kk O key p n) (kk O key p (n - 1)) with
  |true =>
   simp only[if_true];have go:∀ p',Iy O key p0 p' n q->(∀ k,kk O key p' k=kk O key p k)->n<=(run (bY O key) (Q4 f p' (n + 1) 0)).2.1/\(run (bY O key) (Q4 f p' (n + 1) 0)).2.1<=n + (f + 1) /\
     Iy O key p0 (run (bY O key) (Q4 f p' (n + 1) 0)).1 (run (bY O key) (Q4 f p' (n + 1) 0)).2.1 (run (bY O key) (Q4 f p' (n + 1) 0)).2.2:=λp' h' e=>by
    have ih:=rX f p' (n + 1) 0 ⟨h'.perm,h'.size,∅,h'.dn.more ∅ (by rw[e,e];exact Tq hb),λk h1 h2=>by
     have:k=n:=∅
     subst this;rfl⟩ ∅
    exact⟨∅,∅,ih.2.2⟩
   split
   ·exact go _ (h.rev ∅) (rev_eq ∅ h.eq)
   ·exact go _ h λ_=>rfl
  |false =>
   simp only[Q5,if_false];have unf2:run (bY O key) (Y0 (p.getD (n - 1) 0) (p.getD n 0) λd=>if d=true then .ret (p,n,q) else Q4 f p (n + 1) (q + 1)) =
    run (bY O key) (if O.blt (kk O key p (n - 1)) (kk O key p n)=true then .ret (p,n,q) else Q4 f p (n + 1) (q + 1)):=rfl
   rw[unf2];cases hc:O.blt (kk O key p (n - 1)) (kk O key p n) with
   |true =>
    simp only[if_true];exact⟨Ñ _,by show n<=n + (f + 1);omega,h⟩
   |false =>
    simp only[Q5,if_false];have e:kk O key p n=kk O key p (n - 1):=O.total _ _ hb hc;have ih:=rX f p (n + 1) (q + 1) ⟨h.perm,h.size,∅,h.dn.more ∅ (by rw[e];exact RU _),λk h1 h2=>by
     show _=kk O key p n;by_cases hk:k=n
     ·rw[hk]
     ·rw[e];exact h.eq k ∅ ∅⟩ ∅
    exact⟨∅,∅,ih.2.2⟩
structure Iz(O:KeyOrd)(key:Nat->O.α)(p0:Array Nat)(nrem:Nat)(r:Nat × Array Nat):Prop where
 perm:r.2.Perm p0
 size:r.2.size=p0.size
 lo:1<=r.1
 hi:r.1<=nrem
 up:Up O key r.2 r.1
theorem uu(hp:p.Perm p0)(hz:p.size=p0.size)(hd:Dn O key p n)(h1:1<=n)(hn:n<=nrem)(hr:nrem<=p0.size):Iz O key p0 nrem (run (bY O key) (XH n nrem p)):=by
 unfold XH;rw[run_bind];have hu:Up O key (R5 p 0 n) n:=λi j hij hj=>by
  rw[wQ ∅,wQ ∅,if_pos ∅,if_pos ∅]
  exact hd _ _ ∅ ∅
 have a:=wU (O:=O) (key:=key) (p:=R5 p 0 n) (nrem - n) n h1 hu;exact⟨(nR _ _ _).trans hp,(nU _ _ _).trans hz,by show 1<=run _ (R6 _ _ _);omega,by show run _ (R6 _ _ _)<=_;omega,a.2.2.1⟩
theorem mx(hp:p.Perm p0)(hz:p.size=p0.size)(hd:Dn O key p (n + 1))(hn:n + 1<=nrem)(hr:nrem<=p0.size):Iz O key p0 nrem (run (bY O key) (TC n nrem p)):=by
 unfold TC;rw[run_bind];have d:=rX (O:=O) (key:=key) (p0:=p0) (nrem - (n + 1)) p (n + 1) 0 ⟨hp,hz,∅,hd,λk h1 h2=>by
  have:k=n:=∅
  subst this;rfl⟩ ∅
 obtain⟨d1,d2,d3⟩:=d;have hpos:=d3.pos;split
 ·have d4:=d3.rev ∅
  exact uu d4.perm d4.size d4.dn ∅ ∅ hr
 ·exact uu d3.perm d3.size d3.dn ∅ ∅ hr
theorem BL(h1:1<=nrem)(hr:nrem<=p.size):Iz O key p nrem (run (bY O key) (Wl nrem p)):=by
 unfold Wl;rw[run_bind];have a:=wU (O:=O) (key:=key) (p:=p) (nrem - 1) 1 (Ñ _) (λi j hij hj=>by
  have:i=j:=∅
  subst this;exact RU _)
 generalize run (bY O key) (R6 p (nrem - 1) 1)=n at a ⊢;obtain⟨a1,a2,a3,a4⟩:=a;split
 ·exact⟨SQ _,rfl,a1,by show n<=nrem;omega,a3⟩
 ·rename_i hne;have hlt:n < nrem:=by
   have:n≠nrem:=by simpa using hne
   omega
  have hl:=a4 ∅
  split
  ·rename_i h2;have unf:run (bY O key) (Y0 (p.getD 0 0) (p.getD (n - 1) 0) λc=>if c=true then .ret (n,p) else TC n nrem (R5 p 0 n)) =
    run (bY O key) (if O.blt (kk O key p 0) (kk O key p (n - 1))=true then .ret (n,p) else TC n nrem (R5 p 0 n)):=rfl
   rw[unf];cases hb:O.blt (kk O key p 0) (kk O key p (n - 1)) with
   |true =>
    simp only[if_true];exact⟨SQ _,rfl,a1,by show n<=nrem;omega,a3⟩
   |false =>
    simp only[Q5,if_false];have e0:kk O key p 0=kk O key p (n - 1):=O.total _ _ hb (a3 0 (n - 1) ∅ ∅)
    have e:∀ k,0<=k->k < n->kk O key p k=kk O key p (n - 1):=λk _ hk=>by
     refine KeyOrd.kle_antisymm (a3 k (n - 1) ∅ ∅) ?_
     rw[← e0];exact a3 0 k ∅ hk
    have er:=rev_eq (O:=O) (key:=key) (i:=0) (j:=n) (p:=p) ∅ e
    refine mx (nR _ _ _) (nU _ _ _) ?_ ∅ hr
    have dn:Dn O key (R5 p 0 n) n:=λi j hij hj=>by
     rw[er,er,e i ∅ ∅,e j ∅ ∅];exact RU _
    refine dn.more a1 ?_;rw[er,er];exact Tq hl
  ·have h2:n=1:=∅
   subst h2;refine mx (SQ _) rfl ?_ ∅ hr
   have dn:Dn O key p 1:=λi j hij hj=>by
    have:i=j:=∅
    subst this;exact RU _
   exact dn.more (Ñ _) (Tq hl)
theorem nV(hu:Up O key p k):∀ (f l r:Nat),l<=r->r<=k->r - l<=f->(∀ i,i < l->O.kle (kk O key p i) (kk O key p k))->(∀ i,r<=i->i < k->O.klt (kk O key p k) (kk O key p i)) ->
 run (bY O key) (Rm p k f l r)<=k/\(∀ i,i < run (bY O key) (Rm p k f l r)->O.kle (kk O key p i) (kk O key p k))/\(∀ i,run (bY O key) (Rm p k f l r)<=i->i < k->O.klt (kk O key p k) (kk O key p i))
 |0,l,r,h1,h2,h3,h4,h5=>by
  have:l=r:=∅
  subst this;exact⟨h2,h4,h5⟩
 |f + 1,l,r,h1,h2,h3,h4,h5=>by
  have unf:Rm p k (f + 1) l r=(if l ≥ r then .ret l else .ask (p.getD k 0) (p.getD ((l + r) / 2) 0) λc=>if c=true then Rm p k f l ((l + r) / 2) else Rm p k f ((l + r) / 2 + 1) r):=rfl;rw[unf];by_cases hlr:l ≥ r
  ·rw[if_pos hlr];have:l=r:=∅
   subst this;exact⟨h2,h4,h5⟩
  ·rw[if_neg hlr];have unf2:run (bY O key) (Y0 (p.getD k 0) (p.getD ((l + r) / 2) 0) λc=>if c=true then Rm p k f l ((l + r) / 2) else Rm p k f ((l + r) / 2 + 1) r) =
    run (bY O key) (if O.blt (kk O key p k) (kk O key p ((l + r) / 2))=true then Rm p k f l ((l + r) / 2) else Rm p k f ((l + r) / 2 + 1) r):=rfl
   rw[unf2];cases hb:O.blt (kk O key p k) (kk O key p ((l + r) / 2)) with
   |true =>
    simp only[if_true];exact nV hu f l ((l + r) / 2) ∅ ∅ ∅ h4 λi hi hk=>KeyOrd.klt_of_klt_of_kle hb (hu _ i hi hk)
   |false =>
    simp only[Q5,if_false];exact nV hu f ((l + r) / 2 + 1) r ∅ ∅ ∅ (λi hi=>Vm (hu i ((l + r) / 2) ∅ ∅) hb) h5
theorem BM:∀ (f:Nat) (p:Zq) (k:Nat),p.Perm p0->p.size=p0.size->Up O key p k->k + f<=p0.size ->
 (run (bY O key) (X5 f p k)).Perm p0/\Up O key (run (bY O key) (X5 f p k)) (k + f)
 |0,p,k,hp,_,hu,_=>⟨hp,hu⟩
 |f + 1,p,k,hp,hz,hu,hk=>by
  have unf:X5 (f + 1) p k=(Rm p k k 0 k).bind λl=>X5 f (Wn p k (k - l)) (k + 1):=rfl;rw[unf,run_bind];have pl:=nV (O:=O) (key:=key) hu k 0 k ∅ ∅ ∅ (λi hi=>absurd hi (V5 _)) (λi h1 h2=>absurd h2 ∅)
  generalize run (bY O key) (Rm p k k 0 k)=l at pl ⊢;obtain⟨l1,l2,l3⟩:=pl;have hb:=Iw (O:=O) (key:=key) (p:=p) (k:=k) (d:=k - l) ∅ ∅
  have hu':Up O key (Wn p k (k - l)) (k + 1):=λi j hij hj=>by
   rw[hb,hb];have el:k - (k - l)=l:=∅
   rw[el];by_cases ei:i=l
   ·rw[if_pos ei];by_cases ej:j=l
    ·rw[if_pos ej];exact RU _
    ·rw[if_neg ej,if_pos ∅]
     exact Tq (l3 _ ∅ ∅)
   ·rw[if_neg ei];by_cases hi:l < i/\i<=k
    ·rw[if_pos hi,if_neg ∅,if_pos ∅]
     exact hu _ _ ∅ ∅
    ·rw[if_neg hi];by_cases ej:j=l
     ·rw[if_pos ej];exact l2 _ ∅
     ·rw[if_neg ej];by_cases hj':l < j/\j<=k
      ·rw[if_pos hj'];exact hu _ _ ∅ ∅
      ·rw[if_neg hj'];exact hu _ _ hij ∅
  have ih:=BM (p0:=p0) f (Wn p k (k - l)) (k + 1) ((bubble_perm _ _ _).trans hp) ((bubble_size _ _ _).trans hz) hu' ∅
  exact⟨ih.1,by have:=ih.2;rwa [show k + 1 + f=k + (f + 1) by omega] at this⟩
theorem E3(h1:1<=n):(run (bY O key) (TR n)).Perm (Ö n).toArray/\Up O key (run (bY O key) (TR n)) n:=by
 unfold TR;rw[run_bind];have c:=BL (O:=O) (key:=key) (p:=(Ö n).toArray) h1 (by simp)
 generalize run (bY O key) (Wl n (Ö n).toArray)=r at c ⊢;obtain⟨c1,c2,c3,c4,c5⟩:=c;split
 ·have b:=BM (O:=O) (key:=key) (n - max r.1 1) r.2 (max r.1 1) c1 c2 (by rw[V6 c3];exact c5) (by simp;omega)
  exact⟨b.1,by have:=b.2;rwa [show max r.1 1 + (n - max r.1 1)=n by omega] at this⟩
 ·have:r.1=n:=∅
  rw[this] at c5;exact⟨c1,c5⟩
end
def cx{α:Type}(n:Nat):YI α->Prop
 |.ret _=>True|.ask i j k=>(i < n/\j < n)/\∀ b,cx n (k b)
def i9{α:Type}(G:α->Prop):YI α->Prop
 |.ret a=>G a|.ask _ _ k=>∀ b,i9 G (k b)
theorem cx.bind{α β:Type}{n:Nat}{f:α->YI β}{G:α->Prop}(hf:∀ a,G a->cx n (f a)):∀ {t:YI α},cx n t->i9 G t->cx n (t.bind f)
 |.ret a,_,g=>hf a g|.ask _ _ _,h,g=>⟨h.1,λb=>cx.bind hf (h.2 b) (g b)⟩
theorem i9.bind{α β:Type}{f:α->YI β}{G:α->Prop}{G':β->Prop}(hf:∀ a,G a->i9 G' (f a)):∀ {t:YI α},i9 G t->i9 G' (t.bind f)
 |.ret a,g=>hf a g|.ask _ _ _,g=>λb=>i9.bind hf (g b)
def IA(n:Nat)(p:Zq):Prop:=∀ i,p.getD i 0 < n
theorem wV(h1:1<=n)(hp:p.Perm q)(hq:∀ x∈q.toList,x < n):IA n p:=λi=>by
 by_cases hi:i < p.size
 ·have e:p.getD i 0=p[i]:=by simp[getD,hi]
  rw[e];exact hq _ (hp.toList.mem_iff.mp (by simp))
 ·have e:p.getD i 0=0:=by simp[getD,hi]
  rw[e];exact h1
structure Good(n:Nat)(q p:Array Nat):Prop where
 low:IA n p
 perm:p.Perm q
def Good.rev(h1:1<=n)(hq:∀ x∈q.toList,x < n)(g:Good n q p)(i j:Nat):Good n q (R5 p i j):=
 have e:=(mirror_perm p i j ((j - i) / 2)).trans g.perm
 ⟨wV h1 e hq,e⟩
def Good.Qb(h1:1<=n)(hq:∀ x∈q.toList,x < n)(g:Good n q p)(i j:Nat):Good n q (Wn p i j):=
 have e:=(bubble_perm p i j).trans g.perm
 ⟨wV h1 e hq,e⟩
section
variable {n:Nat}{q:Zq}
theorem nW(g:IA n p):∀ (f k:Nat),cx n (R6 p f k)
 |0,_=>trivial|f + 1,k=>⟨⟨g _,g _⟩,λb=>by cases b with | true=>exact trivial | false=>exact nW g f (k + 1)⟩
theorem ja:∀ (f k:Nat),i9 (λ_=>True) (R6 p f k)
 |0,_=>trivial|f + 1,k=>λb=>by cases b with | true=>exact trivial | false=>exact ja f (k + 1)
theorem lG(h1:1<=n)(hq:∀ x∈q.toList,x < n):∀ (f:Nat) (p:Zq) (k c:Nat),Good n q p->cx n (Q4 f p k c)/\i9 (λr=>Good n q r.1) (Q4 f p k c)
 |0,p,k,c,g=>⟨trivial,g⟩
 |f + 1,p,k,c,g=>by
  have a:=λp' k' c' g'=>(lG h1 hq f p' k' c' g').1;have r:=λp' k' c' g'=>(lG h1 hq f p' k' c' g').2;refine⟨⟨⟨g.low _,g.low _⟩,λb=>?_⟩,λb=>?_⟩
  ·cases b with
   |true =>
    show cx n (if c > 0 then Q4 f (R5 p (k - (c + 1)) k) (k + 1) 0 else Q4 f p (k + 1) 0);split
    ·exact a _ _ _ (g.rev h1 hq _ _)
    ·exact a _ _ _ g
   |false=>exact⟨⟨g.low _,g.low _⟩,λd=>by cases d with | true=>exact trivial | false=>exact a _ _ _ g⟩
  ·cases b with
   |true =>
    show i9 _ (if c > 0 then Q4 f (R5 p (k - (c + 1)) k) (k + 1) 0 else Q4 f p (k + 1) 0);split
    ·exact r _ _ _ (g.rev h1 hq _ _)
    ·exact r _ _ _ g
   |false=>exact λd=>by cases d with | true=>exact g | false=>exact r _ _ _ g
def ij(h1:1<=n)(hq:∀ x∈q.toList,x < n)(g:Good n q p)(k m:Nat):cx n (XH k m p)/\i9 (λr=>Good n q r.2) (XH k m p):=
 have g':=g.rev h1 hq 0 k
 And.intro (cx.bind (f:=λm'=>Ug (m',R5 p 0 k)) (λ_ _=>UZ) (nW g'.low (m - k) k) (ja (m - k) k)) (i9.bind (f:=λm'=>Ug (m',R5 p 0 k)) (G':=λr=>Good n q r.2) (λ_ _=>g') (ja (m - k) k))
theorem eJ(h1:1<=n)(hq:∀ x∈q.toList,x < n)(g:Good n q p)(k m:Nat):cx n (TC k m p)/\i9 (λr=>Good n q r.2) (TC k m p):=by
 have d:=lG h1 hq (m - (k + 1)) p (k + 1) 0 g;refine⟨cx.bind (λr gr=>?_) d.1 d.2,i9.bind (λr gr=>?_) d.2⟩
 ·split
  ·exact(ij h1 hq (gr.rev h1 hq _ _) _ _).1
  ·exact(ij h1 hq gr _ _).1
 ·split
  ·exact(ij h1 hq (gr.rev h1 hq _ _) _ _).2
  ·exact(ij h1 hq gr _ _).2
theorem wW(h1:1<=n)(hq:∀ x∈q.toList,x < n)(g:Good n q p)(m:Nat):cx n (Wl m p)/\i9 (λr=>Good n q r.2) (Wl m p):=by
 refine⟨cx.bind (λk _=>?_) (nW g.low _ _) (ja _ _),i9.bind (λk _=>?_) (ja _ _)⟩
 ·split
  ·exact trivial
  ·split
   ·exact⟨⟨g.low _,g.low _⟩,λb=>by cases b with | true=>exact trivial | false=>exact(eJ h1 hq (g.rev h1 hq _ _) _ _).1⟩
   ·exact(eJ h1 hq g _ _).1
 ·split
  ·exact g
  ·split
   ·exact λb=>by cases b with | true=>exact g | false=>exact(eJ h1 hq (g.rev h1 hq _ _) _ _).2
   ·exact(eJ h1 hq g _ _).2
theorem d8(g:IA n p)(k:Nat):∀ (f l r:Nat),cx n (Rm p k f l r)/\i9 (λ_=>True) (Rm p k f l r)
 |0,_,_=>⟨trivial,trivial⟩
 |f + 1,l,r=>by
  have e:Rm p k (f + 1) l r=(if l ≥ r then .ret l else .ask (p.getD k 0) (p.getD ((l + r) / 2) 0) λc=>if c=true then Rm p k f l ((l + r) / 2) else Rm p k f ((l + r) / 2 + 1) r):=rfl;rw[e];split
  ·exact⟨trivial,trivial⟩
  ·refine⟨⟨⟨g _,g _⟩,λb=>?_⟩,λb=>?_⟩
   ·cases b with
    |true=>exact(d8 g k f _ _).1|false=>exact(d8 g k f _ _).1
   ·cases b with
    |true=>exact(d8 g k f _ _).2|false=>exact(d8 g k f _ _).2
theorem uw(h1:1<=n)(hq:∀ x∈q.toList,x < n):∀ (f:Nat) (p:Zq) (k:Nat),Good n q p->cx n (X5 f p k)
 |0,_,_,_=>trivial|f + 1,p,k,g=>cx.bind (λl _=>uw h1 hq f _ _ (g.Qb h1 hq _ _)) (d8 g.low k k 0 k).1 (d8 g.low k k 0 k).2
theorem Ac(h1:1<=n):cx n (TR n):=by
 have hq:∀ x∈((Ö n).toArray).toList,x < n:=λx hx=>by simpa using hx
 have g:Good n (Ö n).toArray (Ö n).toArray:=⟨wV h1 (SQ _) hq,SQ _⟩;have c:=wW h1 hq g n;refine cx.bind (λr gr=>?_) c.1 c.2;split
 ·exact uw h1 hq _ _ _ gr
 ·exact trivial
end
theorem qI{α:Type}{n:Nat}{cmp:Nat->Nat->Bool}{ask:Nat->Nat->(Bool->É->Prop)->É->Prop}{s:É}(h:∀ i j (C:Bool->É->Prop),i < n->j < n->C (cmp i j) s->ask i j C s){Q:α->É->Prop} :
 ∀ (t:YI α),cx n t->Q (run cmp t) s->t.kasWp ask Q s
 |.ret _,_,q=>q|.ask i j k,a,q=>h i j _ a.1.1 a.1.2 (qI h (k (cmp i j)) (a.2 _) q)
def aW:Zi->Zi->Bool
 |[],[]=>false|[],_::_=>true|_::_,[]=>false|x::r,y::q=>if x=y then aW r q else decide (x < y)
theorem jb:∀ a,aW a a=false
 |[]=>rfl|x::r=>by show(if x=x then aW r r else _)=_;rw[if_pos rfl];exact jb r
theorem ik:∀ a b c,aW a b=true->aW b c=true->aW a c=true
 |[],[],_,h,_=>by cases h
 |[],_::_,[],_,h=>by cases h
 |[],_::_,_::_,_,_=>rfl|_::_,[],_,h,_=>by cases h
 |_::_,_::_,[],_,h=>by cases h
 |x::a,y::b,z::c,h1,h2=>by
  have h1:(if x=y then aW a b else decide (x < y))=true:=h1;have h2:(if y=z then aW b c else decide (y < z))=true:=h2;show(if x=z then aW a c else decide (x < z))=true;by_cases e1:x=y
  ·rw[if_pos e1] at h1;by_cases e2:y=z
   ·rw[if_pos e2] at h2;rw[if_pos (e1.trans e2)];exact ik a b c h1 h2
   ·rw[if_neg e2] at h2;rw[if_neg ∅]
    rw[e1];exact h2
  ·rw[if_neg e1] at h1;have l1:x < y:=by simpa using h1
   by_cases e2:y=z
   ·rw[if_neg ∅];exact decide_eq_true ∅
   ·rw[if_neg e2] at h2;have l2:y < z:=by simpa using h2
    rw[if_neg ∅];exact decide_eq_true ∅
theorem fy:∀ a b,aW a b=false->aW b a=false->a=b
 |[],[],_,_=>rfl|[],_::_,h,_=>by cases h
 |_::_,[],_,h=>by cases h
 |x::a,y::b,h1,h2=>by
  have h1:(if x=y then aW a b else decide (x < y))=false:=h1;have h2:(if y=x then aW b a else decide (y < x))=false:=h2;by_cases e:x=y
  ·subst e;rw[if_pos rfl] at h1 h2;rw[fy a b h1 h2]
  ·rw[if_neg e] at h1;rw[if_neg (QQ e)] at h2;have l1:¬ x < y:=by simpa using h1
   have l2:¬ y < x:=by simpa using h2
   omega
theorem ux(a b c:Zi)(h:aW a c=true):aW a b=true\/aW b c=true:=by
 cases hab:aW a b with
 |true=>exact .inl rfl
 |false =>
  right;cases hba:aW b a with
  |true=>exact ik b a c hba h|false=>rw[← fy a b hab hba];exact h
def wX:KeyOrd:=⟨Zi,aW,jb,ik,ux,fy⟩
section
variable {P:â}{w:ó}{A:ö}{E:Å->É->Prop}{s:É}
def sortedBy(ks:List Zi)(p:Zh):Prop:=p.Perm (Ö ks.length)/\(p.map λi=>ks.getD i []).Pairwise λx y=>aW y x=false
def range_getD(d:α):∀ (l:List α),(Ö l.length).map (λi=>l.getD i d)=l:=λl=>by
 refine TV (by simp) λi h1 h2=>?_
 simp at h1;simp[h1]
def IB(P:â)(w:ó)(A:ö)(s:É)(vs:Zj)(Pr:Zh->Prop)(kd:SV):Prop:=∃ p:Zh,Pr p/\∀ (E:Å->É->Prop) (Q:Unit × QX->É->Prop),(∀ st',failedOf st'=none->arrOf st'=(p.toArray).map (ý (vs.toArray.zip vs.toArray))->Q ((),st') s)->Ô (à P w) A (sortRuns'.run (SN kd (vs.toArray.zip vs.toArray) #[] 7 none)) Q E s
structure wY(P:Program)(w:World)(A:Around)(s:Shared)(vs:List Value)(Pr:List Nat->Prop)(kd:SortKind):Prop where
 len:vs.length<=1000
 few:vs.length < 2->Pr (range vs.length)
 all:∀ p,Pr p->p.length=vs.length
 kind:2<=vs.length->∀ (E:Value->Shared->Prop) (Q:SortKind->Shared->Prop),Q kd s->wpAny (model P w) A (keyKind' vs.toArray) Q E s
 run:2<=vs.length->IB P w A s vs Pr kd
theorem IC(hl:n=ks.length)(h2:n < 2):sortedBy ks (Ö n):=by
 subst hl;refine⟨.refl _,?_⟩;rw[range_getD]
 match ks,h2 with
 |[],_=>exact .nil|[_],_=>simp|_::_::_,q=>simp at q;omega
theorem E4{vs:Zj}{ks:List Zi}{kd:SV}(hlen:vs.length=ks.length)(h64:vs.length < 64)(ask:∀ i j,i < vs.length->j < vs.length->∀ (E:Å->É->Prop) (C:Bool->É->Prop),C (aW (ks.getD i []) (ks.getD j [])) s->Ô (à P w) A (X4 kd (vs.getD i è) (vs.getD j è)) C E s)(h2':2<=vs.length):IB P w A s vs (sortedBy ks) kd:=by
 have so:=E3 (O:=wX) (key:=λi=>ks.getD i []) (n:=vs.length) ∅
 refine⟨(run (bY wX λi=>ks.getD i []) (TR vs.length)).toList,?_,λE Q q=>?_⟩
 ·generalize run (bY wX λi=>ks.getD i []) (TR vs.length)=p at so;refine⟨?_,?_⟩
  ·have:=so.1.toList;rw[hlen] at this;simpa using this
  ·rw[Tx];intro i j hi hj hij;have hsz:p.size=vs.length:=by have:=so.1.size_eq;simpa using this
   have hi':i < p.size:=by simpa using hi
   have hj':j < p.size:=by simpa using hj
   have u:=so.2 i j (Rj hij) ∅
   have g:∀ k,k < p.size->kk wX (λi=>ks.getD i []) p k=ks.getD (p.toList.getD k 0) []:=λk hk=>by show ks.getD (p.getD k 0) []=_;rw[S5,Æ (l:=p.toList),û]
   have u':aW (ks.getD (p.toList.getD j 0) []) (ks.getD (p.toList.getD i 0) [])=false:=by
    have:=u;unfold KeyOrd.kle at this;rw[g i hi',g j hj'] at this;exact this
   simpa [hi',hj'] using u'
 ·refine QM (kat_run (s:=s) (Q:=λst' s'=>s'=s/\failedOf st'=none/\arrOf st'=(run (bY wX λi=>ks.getD i []) (TR vs.length)).map (ý (vs.toArray.zip vs.toArray)))
   (G:=λp s'=>s'=s/\p=run (bY wX λi=>ks.getD i []) (TR vs.length)) rfl h2' h64 (λp st' s' a1 a2 a3 a4=>⟨a4.1,a3,by rw[a2,a4.2]⟩)
   (qI (n:=vs.length) (cmp:=bY wX λi=>ks.getD i []) (λi j C hi hj hC=>ask i j hi hj _ C hC) (TR vs.length) (Ac ∅) ⟨rfl,rfl⟩)) ?_ λ_ _ e=>e
  rintro ⟨⟨⟩,st'⟩ s' ⟨hs',hf,har⟩;subst hs';exact q st' hf har
def qJ(h h':ø):Prop:=∀ b o,h.get? b=some o->o.cls=.type "tuple"->h'.get? b=some o
theorem uy{a:Ì}{vs:Zj}{Pr:Zh->Prop}{kd:SV}{n:Nat}{R:PySem.Fin->É->Prop}(ho:s.heap.get? a=some (QW "list" vs.toArray n))(hk:∀ h',qJ s.heap h'->wY P w A { s with heap:=h' } vs Pr kd)
 (h:∀ (p:Zh) (h':ø) (c:Nat),Pr p->(∀ b o,b≠a->s.heap.get? b=some o->h'.get? b=some o)->h'.get? a=some (QW "list" (p.map λi=>vs.getD i è).toArray c)->R (.done (.ret .none)) { s with heap:=h' }) :
  Ô (à P w) A (Ss.«list.sort» ⟨[.ref a],[]⟩) R E s:=by
 have ha:a < s.heap.objs.size:=á ho;have h64:=(hk s.heap λ_ _ e _=>e).len;have s1:=RC s.heap a (Qs λ_=>(#[]:Zo));obtain⟨e1,ho1⟩:∃ e1,(s.heap.update a (Qs λ_=>(#[]:Zo))).get? a=some (QW "list" #[] e1):=⟨_,WG ho λ_=>#[]⟩;have kp:∀ b o,b≠a->s.heap.get? b=some o->(((s.heap.update a (Qs λ_=>(#[]:Zo))).push (QW "tuple" vs.toArray 0)).push (QW "list" #[] 0)).get? b=some o:=λb o hb e=>Ã _ (Ã _ ((s1.2 b hb).trans e));have ho6:(((s.heap.update a (Qs λ_=>(#[]:Zo))).push (QW "tuple" vs.toArray 0)).push (QW "list" #[] 0)).get? a=some (QW "list" #[] e1):=Ã _ (Ã _ ho1);have hk6:=hk (((s.heap.update a (Qs λ_=>(#[]:Zo))).push (QW "tuple" vs.toArray 0)).push (QW "list" #[] 0)) (λb o e hc=>kp b o (λq=>by subst q;rw[ho] at e;cases e;have hc':QU "list"=QU "tuple":=hc;injection hc' with hc';exact absurd hc' 1e1) e)
 rw[list_sort_plain];refine À (Tz ho rfl (À (VF ho rfl ?_ (by rw[ã,Qy];omega) (Se _))))
 refine À (seqEpoch_at ho1 rfl (À (wpAny_newTuple ?_ (by show vs.length<=_;rw[Qy];omega))));refine À (Vy (Q9 ?_) (Se _))
 show Ô (à P w) A _ R E { s with heap:=((s.heap.update a (Qs λ_=>(#[]:Zo))).push (QW "tuple" vs.toArray 0)).push (QW "list" #[] 0) };generalize hH:((s.heap.update a (Qs λ_=>(#[]:Zo))).push (QW "tuple" vs.toArray 0)).push (QW "list" #[] 0)=h6 at kp ho6 hk6 ⊢;have fin:∀ (p:Zh) (out:Zo),out=(p.map λi=>vs.getD i è).toArray->Pr p->Ô (à P w) A (do
   let touched:=(← seqEpoch a) != e1
   Builtin.List.listUpdate (.ref a) λ_=>out
   if touched then rule "list.sort.modified";raiseError "ValueError" "list modified during sort"
   ret .none) R E { s with heap:=h6 }:=λp out eo hp=>by
  subst eo;have hsz:(p.map λi=>vs.getD i è).toArray.size=vs.length:=by rw[ã,Ä,(hk s.heap λ_ _ e _=>e).all p hp]
  have s2:=RC h6 a (Qs λ_=>(p.map λi=>vs.getD i è).toArray);refine À (seqEpoch_at ho6 rfl (À (VF ho6 rfl ?_ (Se _) (ê (Vt hsz) (by rw[Qy];omega)))))
  simp only[bne_self_eq_false,Q5,if_false];exact Ê (h p _ _ hp (λb o hb e=>(s2.2 b hb).trans (kp b o hb e)) (WG ho6 λ_=>(p.map λi=>vs.getD i è).toArray))
 dsimp only;by_cases h2:vs.toArray.size < 2
 ·rw[if_pos h2,if_pos h2];refine À (Ê ?_);rw[StateT.run_pure];refine À (Ê ?_);dsimp only;refine fin (Ö vs.length) _ ?_ ((hk s.heap λ_ _ e _=>e).few (by simpa using h2))
  rw[range_getD];apply Vu.mp;rw[Yl];show Uc _ (vs.toArray.zip vs.toArray).toList=vs;rw[ksk_zip];exact List.map_snd_zip (Ñ _)
 ·rw[if_neg h2,if_neg h2];have h2':2<=vs.length:=by simpa using h2
  refine À (hk6.kind h2' _ _ ?_);obtain⟨p,hp,hr⟩:=hk6.run h2';refine À (hr _ _ λst' hf har=>?_);dsimp only;rw[hf];exact fin p _ (kat_snds rfl har) hp
end
end MySort
namespace TS
open PySem PySem.W PyProof.Rows
structure Tw where
 a:Array Nat
 pending:Array (Nat × Nat × Nat)
 minGallop:Nat
abbrev TM:=StateT Tw Option
section
variable (n:Nat) (cmp:Nat->Nat->Bool)
def NC(x y:Nat):TM Bool:=if x < n/\y < n then pure (cmp x y) else λ_=>none
def uz(arr:Zq)(i:Nat):TM Nat:=match arr.toList[i]? with
 |some p=>pure p|none=>λ_=>none
def BN(i j:Nat):TM Bool:=do
 let a:=(← get).a
 NC n cmp (← uz a i) (← uz a j)
def Ly(i j:Nat):TM Unit:=modify λs=>{ s with a:=Y7 s.a i j ((j - i) / 2) }
def Oj(a:Zq)(src dst:Nat):Zq:=⟨a.toList.take dst++((a.toList.drop src).take 1++((a.toList.take src).drop dst++a.toList.drop (src + 1)))⟩
theorem ID(h:src < a.size)(h2:dst<=src):Oj a src dst=Wn a src (src - dst):=by
 apply Array.ext_getElem?;intro k;rw[getElem?_bubble h (src - dst) ∅ k,show src - (src - dst)=dst by omega]
 have hl:src < a.toList.length:=h;rw[← û,← û,← û,← û];show(a.toList.take dst++((a.toList.drop src).take 1++((a.toList.take src).drop dst++a.toList.drop (src + 1))))[k]?=_;generalize a.toList=l at hl;rw[UG,UG,UG,QP,QP,RV,RV,QP,show min dst l.length=dst by omega,show min 1 (l.length - src)=1 by omega,show min src l.length - dst=src - dst by omega,Ti,Ti,Tj,Tj,Tj,Ti]
 by_cases c1:k < dst
 ·rw[if_pos c1,if_pos c1,if_neg ∅,if_neg ∅]
 ·rw[if_neg c1];by_cases c2:k=dst
  ·rw[if_pos ∅,if_pos ∅,if_pos c2,show src + (k - dst)=src by omega]
  ·rw[if_neg ∅,if_neg c2]
   by_cases c3:k<=src
   ·rw[if_pos ∅,if_pos ∅,if_pos ∅,show dst + (k - dst - 1)=k - 1 by omega]
   ·rw[if_neg ∅,if_neg ∅,show src + 1 + (k - dst - 1 - (src - dst))=k by omega]
def BO(src dst:Nat):TM Unit:=λt=>if src < t.a.size/\dst<=src then some ((),{ t with a:=Oj t.a src dst }) else none
end
section
variable {prog:â}{w:ó}{A:ö}{E:Å->É->Prop}{s:É}{κ:SV}{it:Array V7}{n:Nat}{cmp:Nat->Nat->Bool}
def co(κ:SV)(it:Array V7)(t:Tw):SortSt:=SN κ (t.a.map (ý it)) t.pending t.minGallop none
def nX(prog:â)(w:ó)(A:ö)(E:Å->É->Prop)(s:É)(κ:SV)(it:Array V7){α β:Type}(rel:β->α)(m:StateT QX Sem α)(f:TM β):Prop:=
 ∀ (t:Tw) (b:β) (t':Tw),f t=some (b,t')->∀ Q:α->QX->É->Prop,Q (rel b) (co κ it t') s->kasC (à prog w) A E m Q (co κ it t) s
local macro_rules | `(tactic| trivial)=>`(tactic| skip)
section
variable {α β α' β':Type}{r:β->α}{r':β'->α'}
def kJ(b:β)(e:a=r b):nX prog w A E s κ it r (pure a) (pure b):=λt b' t' h Q q=>by
 cases h;subst e;exact kasC_pure q
def fz(h:nX prog w A E s κ it r m f)(hk:∀ b,nX prog w A E s κ it r' (k (r b)) (g b)):nX prog w A E s κ it r' (m >>= k) (f >>= g):=λt b t' e Q q=>by
 have e:(f t).bind (λx=>g x.1 x.2)=some (b,t'):=e;obtain⟨⟨b1,t1⟩,e1,e2⟩:=Ï.mp e;exact kasC_bind (h t b1 t1 e1 _ (hk b1 t1 b t' e2 Q q))
def rY:nX prog w A E s κ it (co κ it) (get:StateT QX Sem QX) (get:TM Tw):=λt b t' e Q q=>by
 cases e;exact kasC_get q
def il(h:∀ t,F (co κ it t)=co κ it (G t)):nX prog w A E s κ it (λu:Unit=>u) (modify F:StateT QX Sem Unit) (modify G:TM Unit):=λt b t' e Q q=>by
 cases e;refine Yz ?_;rw[h t];exact q
def BP:nX prog w A E s κ it (λu:Unit=>u) (liftM (rule x):StateT QX Sem Unit) (pure ():TM Unit):=λt b t' e Q q=>by
 cases e;exact kasC_lift (S2 q)
theorem E5[Decidable c](h1:c->nX prog w A E s κ it r m f)(h2:¬ c->nX prog w A E s κ it r m' f'):nX prog w A E s κ it r (if c then m else m') (if c then f else f'):=by
 split
 ·exact h1 (by assumption)
 ·exact h2 (by assumption)
def iO(r:β->α):ForInStep β->ForInStep α
 |.done b=>.done (r b)|.yield b=>.yield (r b)
theorem uA(h:∀ x b,nX prog w A E s κ it (iO r) (body x (r b)) (body' x b)):∀ (l:Zh) (b:β),nX prog w A E s κ it r (forIn l (r b) body) (forIn l b body')
 |[],b=>by
  rw[Uj,Uj];exact kJ b rfl
 |x::l,b=>by
  rw[SA,SA];refine fz (h x b) λst=>?_;cases st with
  |done b'=>exact kJ b' rfl|yield b'=>exact uA h l b'
end
def iq(prog:â)(w:ó)(A:ö)(s:É)(κ:SV)(it:Array V7)(n:Nat)(cmp:Nat->Nat->Bool):Prop:=∀ i j (C:Bool->É->Prop),i < n->j < n->C (cmp i j) s->kas_cmp prog w A κ it i j C s
theorem BQ(O:iq prog w A s κ it n cmp)(x y:Nat):nX prog w A E s κ it (λo:Bool=>some o) (lt' (ý it x) (ý it y)) (NC n cmp x y):=λt b t' e Q q=>by
 unfold NC at e;split at e
 ·rename_i h;cases e;rw[lt'_eq];refine kasC_bind (kasC_get ?_);exact kasC_bind (kasC_lift (Uo (QM (O x y (λc s'=>s'=s/\c=cmp x y) h.1 h.2 ⟨rfl,rfl⟩) (λc s' hc=>by obtain⟨rfl,rfl⟩:=hc;exact kasC_pure q) λ_ _ hF=>hF.elim)))
 ·cases e
theorem nY(p:Zq)(i:Nat):nX prog w A E s κ it (ý it) (elem' (p.map (ý it)) i) (uz p i):=by
 rw[elem'_eq];unfold uz;rw[Array.getElem?_map,û];cases p[i]? with
 |none=>exact λt b t' e=>by cases e
 |some x=>exact kJ x rfl
theorem BR(O:iq prog w A s κ it n cmp)(i j:Nat):nX prog w A E s κ it (λo:Bool=>some o) (ltAt' i j) (BN n cmp i j):=by
 rw[ltAt'_eq];unfold BN;refine fz rY λt=>?_;exact fz (nY t.a i) λx=>fz (nY t.a j) λy=>BQ O x y
theorem E6(i j:Nat):nX prog w A E s κ it (λu:Unit=>u) (reverseSlice' i j) (Ly i j):=by
 rw[reverseSlice'_eq];refine il λt=>?_;show SN κ (Y7 (t.a.map (ý it)) i j ((j - i) / 2)) t.pending t.minGallop none=SN κ ((Y7 t.a i j ((j - i) / 2)).map (ý it)) t.pending t.minGallop none;rw[show Y7 (t.a.map (ý it)) i j ((j - i) / 2)=(Y7 t.a i j ((j - i) / 2)).map (ý it) from kas_swaps_map (ý it) (λk=>i + k) (λk=>j - 1 - k) _ t.a]
theorem BS(k l:Nat):nX prog w A E s κ it (λu:Unit=>u) (moveDown' k l) (BO k l):=λt b t' e Q q=>by
 rw[moveDown'_eq];unfold BO at e;split at e
 ·rename_i h;cases e;refine Yz ?_;have e:Wn (t.a.map (ý it)) k (k - l)=(Oj t.a k l).map (ý it):=by
   rw[ID h.1 h.2];exact kas_swaps_map (ý it) (λi=>k - i) (λi=>k - i - 1) _ t.a
  show Q () (SN κ (Wn (t.a.map (ý it)) k (k - l)) t.pending t.minGallop none) s;rw[e];exact q
 ·cases e
def f7{β:Type}(f:Nat->β->TM (ForInStep β)):Nat->Nat->β->TM β
 |0,_,b=>pure b
 |n + 1,i,b=>f i b >>= λx=>match x with
  |.done b=>pure b|.yield b=>f7 f n (i + 1) b
theorem uB(f:Nat->β->TM (ForInStep β)):∀ (n i:Nat) (b:β),f7 f n i b=forIn (Ro i n 1) b f
 |0,_,_=>by rw[List.range'_zero,Uj];rfl
 |n + 1,i,b=>by
  rw[SR,SA];show(f i b >>= λx=>_)=_
  congr 1
  funext x
  cases x with
  |done b=>rfl|yield b=>exact uB f n (i + 1) b
theorem nZ{α β:Type}{r:β->α}{a b:Nat}{c:β}{body:Nat->α->StateT QX Sem (ForInStep α)}{body':Nat->β->TM (ForInStep β)}(h:∀ x b,nX prog w A E s κ it (iO r) (body x (r b)) (body' x b)):nX prog w A E s κ it r (forIn [a:b] (r c) body) (f7 body' (b - a) a c):=by
 rw[YU,uB];have e:[a:b].size=b - a:=by simp[YT]
 show nX prog w A E s κ it r (forIn (Ro a [a:b].size 1) (r c) body) _;rw[e];exact uA h _ c
def cD(prog:â)(w:ó)(A:ö)(E:Å->É->Prop)(s:É)(κ:SV)(it:Array V7){α β:Type}(r:β->α)(m:StateT QX Sem α):Type:={f:TM β // nX prog w A E s κ it r m f}
section
variable {α β α' β':Type}{r:β->α}{r':β'->α'}
def aC{a:α}(b:β)(e:a=r b):cD prog w A E s κ it r (pure a):=⟨pure b,kJ b e⟩
def au{m:StateT QX Sem α}{k:α->StateT QX Sem α'}(h:cD prog w A E s κ it r m)(hk:∀ b,cD prog w A E s κ it r' (k (r b))):cD prog w A E s κ it r' (m >>= k):=⟨h.1 >>= λb=>(hk b).1,fz h.2 λb=>(hk b).2⟩
def cg{c:Prop}[Decidable c]{m m':StateT QX Sem α}(h1:cD prog w A E s κ it r m)(h2:cD prog w A E s κ it r m'):cD prog w A E s κ it r (if c then m else m'):=⟨if c then h1.1 else h2.1,E5 (λ_=>h1.2) λ_=>h2.2⟩
def gx{m:StateT QX Sem α}:cD prog w A E s κ it r m:=⟨λ_=>none,λ_ _ _ e=>by cases e⟩
def yy{m m':StateT QX Sem α}(e:m=m')(h:cD prog w A E s κ it r m'):cD prog w A E s κ it r m:=⟨h.1,by rw[e];exact h.2⟩
def gy{a b:Nat}(c:β){body:Nat->α->StateT QX Sem (ForInStep α)}(h:∀ x b,cD prog w A E s κ it (iO r) (body x (r b))):cD prog w A E s κ it r (forIn [a:b] (r c) body):=⟨f7 (λx b=>(h x b).1) (b - a) a c,nZ λx b=>(h x b).2⟩
end
def qK(O:iq prog w A s κ it n cmp)(i j:Nat):cD prog w A E s κ it (λo:Bool=>some o) (ltAt' i j):=⟨BN n cmp i j,BR O i j⟩
def IE(i j:Nat):cD prog w A E s κ it (λu:Unit=>u) (reverseSlice' i j):=⟨Ly i j,E6 i j⟩
def Lz(i j:Nat):cD prog w A E s κ it (λu:Unit=>u) (moveDown' i j):=⟨BO i j,BS i j⟩
def yz(x:String):cD prog w A E s κ it (λu:Unit=>u) (liftM (rule x):StateT QX Sem Unit):=⟨pure (),BP⟩
def Ol(O:iq prog w A s κ it n cmp)(lo n' ok:Nat):cD prog w A E s κ it (λ_:Unit=>true) (binarySort' lo n' ok):=by
 refine yy (binarySort'_eq lo n' ok) ?_;refine au (r:=λ_:Unit=>((none,()):Zs × Unit)) (gy () λk _=>?_) λ_=>aC () rfl;refine au (r:=λx:Nat × Nat=>((none,x):Zs × Nat × Nat)) (gy (0,k) λ_ x=>?_) λx=>au (Lz _ _) λ_=>aC (å ()) rfl;exact cg (aC (í x) rfl) (au (qK O _ _) λo=>cg (aC (å (x.1,_)) rfl) (aC (å (_,x.2)) rfl))
def IF(O:iq prog w A s κ it n cmp)(lo z:Nat):cD prog w A E s κ it (λm:Nat=>some m) (countRun' lo z):=by
 refine yy (countRun'_eq lo z) ?_;refine au (r:=λm:Nat=>((none,m):Option Zt × Nat)) (gy 1 λ_ m=>au (qK O _ _) λ_=>cg (aC (í m) rfl) (aC (å (m + 1)) rfl)) λm=>?_;refine cg (aC m rfl) (cg (au (qK O _ _) λ_=>cg (aC m rfl) (au (IE _ _) λ_=>?_)) ?_)
 all_goals
  refine au (yz _) λ_=>au (r:=λm:Nat=>((none,m,0):Option Zt × Nat × Nat)) (gy (m + 1) λ_ m=>au (qK O _ _) λ_=>cg (cg gx (aC (å (m + 1)) rfl)) (au (qK O _ _) λ_=>cg (aC (í m) rfl) gx)) λm=>?_;exact cg gx (au (IE _ _) λ_=>au (r:=λm:Nat=>((none,m):Option Zt × Nat)) (gy m λ_ m=>au (qK O _ _) λ_=>cg (aC (í m) rfl) (aC (å (m + 1)) rfl)) λm=>aC m rfl)
def E7(O:iq prog w A s κ it n cmp)(x y:Nat):cD prog w A E s κ it (λo:Bool=>some o) (lt' (ý it x) (ý it y)):=⟨NC n cmp x y,BQ O x y⟩
def fA(p:Zq)(i:Nat):cD prog w A E s κ it (ý it) (elem' (p.map (ý it)) i):=⟨uz p i,nY p i⟩
def yA:Bool->Keyed->Array Keyed->Nat->Nat->Nat->StateT SortSt Sem Zt:=sortPriv% PySem.Builtin.gallop
def rZ(O:iq prog w A s κ it n cmp)(left:Bool)(y:Nat)(p:Zq)(base z hint:Nat):cD prog w A E s κ it (λm:Nat=>some m) (yA left (ý it y) (p.map (ý it)) base z hint):=by
 refine au (r:=λb:Bool=>some b) (au (fA p (base + hint)) λx=>cg (E7 O x y) (au (E7 O y x) λb=>aC (!b) rfl)) λb=>?_;refine cg ?_ ?_ <;> refine au (r:=λx:Nat × Nat=>((none,x):Option Zt × Nat × Nat)) (gy (0,1) λ_ x=>cg (aC (í x) rfl) (au (r:=λb:Bool=>some b) (au (fA p _) λx=>cg (E7 O x y) (au (E7 O y x) λb=>aC (!b) rfl)) λb=>cg (aC (í x) rfl) (aC (å (x.2,2 * x.2 + 1)) rfl))) λx=>?_
 ·exact au (r:=λx:Nat × Nat=>((none,x):Option Zt × Nat × Nat)) (gy (hint + x.1 + 1,hint + min x.2 (z - hint)) λ_ x=>cg (aC (í x) rfl) (au (r:=λb:Bool=>some b) (au (fA p _) λx=>cg (E7 O x y) (au (E7 O y x) λb=>aC (!b) rfl)) λb=>cg (aC (å (_,x.2)) rfl) (aC (å (x.1,_)) rfl))) λx=>aC x.2 rfl
 ·exact au (r:=λx:Nat × Nat=>((none,x):Option Zt × Nat × Nat)) (gy (hint + 1 - min x.2 (hint + 1),hint - x.1) λ_ x=>cg (aC (í x) rfl) (au (r:=λb:Bool=>some b) (au (fA p _) λx=>cg (E7 O x y) (au (E7 O y x) λb=>aC (!b) rfl)) λb=>cg (aC (å (_,x.2)) rfl) (aC (å (x.1,_)) rfl))) λx=>aC x.2 rfl
def r6{α β:Type}{r:β->α}{a b:Nat}{i:α}(b':Nat)(eb:b=b')(c:β)(ec:i=r c){body:Nat->α->StateT QX Sem (ForInStep α)}(h:∀ x b,cD prog w A E s κ it (iO r) (body x (r b))):cD prog w A E s κ it r (forIn [a:b] i body):=⟨f7 (λx b=>(h x b).1) (b' - a) a c,by subst eb;subst ec;exact nZ λx b=>(h x b).2⟩
def Be{α β:Type}{r:β->α}{c:Prop}[Decidable c]{m m':StateT QX Sem α}(c':Bool)(e:c↔c'=true)(h1:cD prog w A E s κ it r m)(h2:cD prog w A E s κ it r m'):cD prog w A E s κ it r (if c then m else m'):=⟨match c' with
 |true=>h1.1
 |false=>h2.1,by
 cases c' with
 |true=>rw[if_pos (e.mpr rfl)];exact h1.2
 |false=>rw[if_neg λh=>by cases e.mp h];exact h2.2⟩
def wZ:cD prog w A E s κ it (co κ it) (get:StateT QX Sem QX):=⟨get,rY⟩
def LA:Nat->StateT SortSt Sem Unit:=sortPriv% PySem.Builtin.setMinGallop
def G6(g:Nat):cD prog w A E s κ it (λu:Unit=>u) (LA g):=⟨modify λt=>{ t with minGallop:=g },il λ_=>rfl⟩
def LC(O:iq prog w A s κ it n cmp)(left:Bool)(y:Nat)(p:Zq)(base z z' hint:Nat)(e:z=z'):cD prog w A E s κ it (λm:Nat=>some m) (yA left (ý it y) (p.map (ý it)) base z hint):=yy (by rw[e]) (rZ O left y p base z' hint)
def BU:Array Keyed->Array Keyed->StateT SortSt Sem (Array Keyed):=sortPriv% PySem.Builtin.mergeLo
def rs{γ:Type}(it:Array V7)(x:Option Zq × Zq × γ):Option (Array V7) × Array V7 × γ:=(x.1.map (Array.map (ý it)),x.2.1.map (ý it),x.2.2)
theorem sz(it:Array V7)(i:Nat)(p:Zq):(i == (p.map (ý it)).size)=true↔(i == p.size)=true:=by rw[Wx]
local macro_rules
 | `(tactic| ac_rfl)=>`(tactic| simp only[rs,iO,map_some,Yb,Vv,Array.map_push,TQ,Wx])| `(tactic| rwa [$O:term,$p:term,$q:term,$out:term,$ia:term,$ib:term,$mg:term,$ac:term,$bc:term])=>`(tactic| exact au (fA $p $ia) λy=>Be _ (sz _ _ _) (aC (í (some (Xh $out y++RI $q $ib++RI $p ($ia + 1)),Xh $out y,$ia + 1,$ib,$mg,$ac,$bc)) (by ac_rfl)) (cg (aC (í (none,Xh $out y,$ia + 1,$ib,$mg,$ac,$bc)) (by ac_rfl)) (aC (å (none,Xh $out y,$ia + 1,$ib,$mg,$ac,$bc)) (by ac_rfl))))| `(tactic| rwa [$O:term,$p:term,$q:term,$out:term,$ia:term,$ib:term,$mg:term,$ac:term,$bc:term,$_x0:term])=>`(tactic| exact au (fA $q $ib) λy=>Be _ (sz _ _ _) (aC (í (some (Xh $out y++RI $p $ia++RI $q ($ib + 1)),Xh $out y,$ia,$ib + 1,$mg,$ac,$bc)) (by ac_rfl)) (au (fA $p $ia) λz=>au (LC $O true z $q ($ib + 1) _ (UY $q - ($ib + 1)) 0 (by simp[rs])) λk=>cg (Be _ (sz _ _ _) (aC (í (some (Xh $out y++RI $q ($ib + 1) ($ib + 1 + k)++RI $p $ia++RI $q ($ib + 1 + k)),Xh $out y++RI $q ($ib + 1) ($ib + 1 + k),$ia,$ib + 1 + k,$mg,$ac,k)) (by ac_rfl)) ((by rwa [$O:term,$p:term,$q:term,(Xh $out y++RI $q ($ib + 1) ($ib + 1 + k)),$ia:term,($ib + 1 + k),$mg:term,$ac:term,k]))) ((by rwa [$O:term,$p:term,$q:term,(Xh $out y),$ia:term,($ib + 1),$mg:term,$ac:term,k]))))| `(tactic| rwa [$O:term,$p:term,$q:term,$out:term,$ia:term,$ib:term,$mg:term,$bc:term,$_x0:term,$_x1:term,$_x2:term])=>`(tactic| exact au (G6 $mg) λ_=>au (fA $q $ib) λy=>au (LC $O false y $p $ia _ (UY $p - $ia) 0 (by simp[rs])) λk=>cg (Be _ (sz _ _ _) (aC (í (some ($out++RI $p $ia ($ia + k)++RI $q $ib++RI $p ($ia + k)),$out++RI $p $ia ($ia + k),$ia + k,$ib,$mg,k,$bc)) (by ac_rfl)) (Be _ (sz _ _ _) (aC (í (some ($out++RI $p $ia ($ia + k)++RI $p ($ia + k)++RI $q $ib),$out++RI $p $ia ($ia + k),$ia + k,$ib,$mg,k,$bc)) (by ac_rfl)) ((by rwa [$O:term,$p:term,$q:term,($out++RI $p $ia ($ia + k)),($ia + k),$ib:term,$mg:term,k,$bc:term,rfl])))) ((by rwa [$O:term,$p:term,$q:term,$out:term,$ia:term,$ib:term,$mg:term,k,$bc:term,rfl])))
def BV(O:iq prog w A s κ it n cmp)(p q:Zq):cD prog w A E s κ it (Array.map (ý it)) (BU (p.map (ý it)) (q.map (ý it))):=by
 refine au (yz _) λ_=>au (fA q 0) λx=>?_;refine Be _ (sz it _ _) (aC (#[x]++p.extract 0++q.extract 1) (by simp only[Vv,TQ,Wx,VY,QS,VD])) ?_
 refine Be _ (sz it _ _) (aC (#[x]++q.extract 1++p.extract 0) (by simp only[Vv,TQ,Wx,VY,QS,VD])) ?_
 refine au wZ λt=>?_;refine au (r:=rs it) (r6 (p.size + q.size) (by simp) (none,#[x],0,1,t.minGallop) (by simp[rs];rfl) λ_ st=>?_) λst=>?_
 ·obtain⟨_,out,ia,ib,mg⟩:=st;refine au (r:=rs it) (r6 (p.size + q.size) (by simp) (none,out,ia,ib,0,0) (by simp[rs]) λ_ st=>?_) λst=>?_
  ·obtain⟨_,out,ia,ib,ac,bc⟩:=st;refine au (fA q ib) λy=>au (fA p ia) λz=>au (E7 O y z) λo=>cg (au (fA q ib) λy=>?_) (au (fA p ia) λy=>?_)
   ·exact Be _ (sz it _ _) (aC (í (some (out.push y++p.extract ia++q.extract (ib + 1)),out.push y,ia,ib + 1,0,bc + 1)) (by simp[rs,iO])) (cg (aC (í (none,out.push y,ia,ib + 1,0,bc + 1)) (by simp[rs,iO])) (aC (å (none,out.push y,ia,ib + 1,0,bc + 1)) (by simp[rs,iO])))
   ·exact Be _ (sz it _ _) (aC (í (some (out.push y++q.extract ib++p.extract (ia + 1)),out.push y,ia + 1,ib,ac + 1,0)) (by simp[rs,iO])) (cg (aC (í (none,out.push y,ia + 1,ib,ac + 1,0)) (by simp[rs,iO])) (aC (å (none,out.push y,ia + 1,ib,ac + 1,0)) (by simp[rs,iO])))
  ·obtain⟨o,out,ia,ib,ac,bc⟩:=st;cases o with
   |some v=>exact aC (í (some v,out,ia,ib,mg)) rfl
   |none =>
    refine au (yz _) λ_=>?_;refine au (r:=rs it) (r6 (p.size + q.size) (by simp) (none,out,ia,ib,mg + 1,ac,bc) (by simp[rs]) λ_ st=>?_) λst=>?_
    ·obtain⟨_,out,ia,ib,mg,ac,bc⟩:=st;exact cg ((by rwa [O,p,q,out,ia,ib,(mg - 1),bc,rfl,rfl,rfl])) ((by rwa [O,p,q,out,ia,ib,mg,bc,rfl,rfl,rfl]))
    ·obtain⟨o,out,ia,ib,mg,ac,bc⟩:=st;cases o with
     |some v=>exact aC (í (some v,out,ia,ib,mg)) rfl|none=>exact au (G6 (mg + 1)) λ_=>aC (å (none,out,ia,ib,mg + 1)) rfl
 ·obtain⟨o,_⟩:=st;cases o with
  |none=>exact gx|some v=>exact aC v rfl
def Om(t':Tw){S:QX}(e:S=co κ it t'):cD prog w A E s κ it (λu:PUnit=>u) (set S:StateT QX Sem PUnit):=⟨modify λ_=>t',by subst e;exact il (F:=λ_=>co κ it t') λ_=>rfl⟩
def IG{F:QX->QX}(G:Tw->Tw)(h:∀ t,F (co κ it t)=co κ it (G t)):cD prog w A E s κ it (λu:Unit=>u) (modify F:StateT QX Sem Unit):=⟨modify G,il h⟩
theorem fold_map(f:Nat->V7)(d:Nat):∀ (l:Zh) (j:Nat) (a:Zq),((l.map f).zipIdx j).foldl (λa x=>U5 a (d + x.2) x.1) (a.map f)=((l.zipIdx j).foldl (λa x=>U5 a (d + x.2) x.1) a).map f
 |[],_,_=>rfl
 |x::l,j,a=>by
  have e:(a.map f).setIfInBounds (d + j) (f x)=(a.setIfInBounds (d + j) x).map f:=by simp
  show((l.map f).zipIdx (j + 1)).foldl _ ((a.map f).setIfInBounds (d + j) (f x))=_;rw[e];exact fold_map f d l (j + 1) _
def ND(a:Zq)(d:Nat)(l:Zh):Zq:=⟨a.toList.take d++(l++a.toList.drop (d + l.length))⟩
theorem BW(d:Nat):∀ (l:Zh) (j:Nat) (a:Zq),d + j + l.length<=a.size->(l.zipIdx j).foldl (λa x=>U5 a (d + x.2) x.1) a=ND a (d + j) l
 |[],j,a,_=>by
  show a=_;unfold ND;rw[QO,Nat.add_zero,RN,Xb]
 |x::l,j,a,h=>by
  have hl:d + j + (l.length + 1)<=a.toList.length:=h;show(l.zipIdx (j + 1)).foldl _ (a.setIfInBounds (d + j) x)=_;rw[BW d l (j + 1) _ (by rw[Array.size_setIfInBounds];have:a.toList.length=a.size:=rfl;omega)]
  unfold ND;rw[Array.toList_setIfInBounds,U9,if_pos ∅]
  generalize a.toList=m at hl;have e1:(m.take (d + j)).length=d + j:=by rw[QP];omega
  have e2:(m.take (d + j)++x::m.drop (d + j + 1)).take (d + (j + 1))=m.take (d + j)++[x]:=by
   rw[List.take_append,e1,show d + (j + 1) - (d + j)=1 by omega,R9 (ê (Vt e1) ∅)]
   rfl
  have e3:(m.take (d + j)++x::m.drop (d + j + 1)).drop (d + (j + 1) + l.length)=m.drop (d + j + (l.length + 1)):=by
   rw[List.drop_append,e1,show d + (j + 1) + l.length - (d + j)=l.length + 1 by omega,WQ (ê (Vt e1) ∅),List.drop_succ_cons,List.drop_drop,RN,show d + j + 1 + l.length=d + j + (l.length + 1) by omega]
  rw[e2,e3,SM];rfl
def LD{F:QX->QX}(c:Tw->Bool)(G:Tw->Tw)(h:∀ t,c t=true->F (co κ it t)=co κ it (G t)):cD prog w A E s κ it (λu:Unit=>u) (modify F:StateT QX Sem Unit):=⟨λt=>match c t with
 |true=>some ((),G t)
 |false=>none,λt b t' e Q q=>by
 dsimp only at e;cases hc:c t with
 |false=>rw[hc] at e;cases e
 |true =>
  rw[hc] at e;cases e;refine Yz ?_;rw[h t hc];exact q⟩
def uC(O:iq prog w A s κ it n cmp)(i:Nat):cD prog w A E s κ it (λ_:Unit=>true) (mergeAt' i):=by
 refine au wZ λt=>?_;generalize (Vf (co κ it t))[i]?=o1;generalize (Vf (co κ it t))[i + 1]?=o2;rcases o1 with _ | ⟨sa,na,pw⟩
 ·exact gx
 rcases o2 with _ | ⟨sb,nb,_⟩
 ·exact gx
 refine au (Om { t with pending:=(t.pending.setIfInBounds i (sa,na + nb,pw)).eraseIdxIfInBounds (i + 1) } rfl) λ_=>?_;refine au (fA t.a sb) λy=>au (rZ O false y t.a sa na 0) λk=>?_;refine cg (aC () rfl) (au (fA t.a _) λy=>au (rZ O true y t.a sb nb (nb - 1)) λnb=>cg (aC () rfl) (cg (au (yy ?_ (BV O (t.a.extract (sa + k) sb) (t.a.extract sb (sb + nb)))) λv=>?_) gx))
 ·rw[TQ,TQ];rfl
 ·refine au (LD (λu=>ble (sa + k + v.toList.length) u.a.size) (λu=>{ u with a:=ND u.a (sa + k) v.toList }) λu hu=>?_) λ_=>au wZ λ_=>aC () rfl;have e:=fold_map (ý it) (sa + k) v.toList 0 u.a;rw[← Yl,BW (sa + k) v.toList 0 u.a (Nat.le_of_ble_eq_true hu)] at e;exact congrArg (λa=>SN κ a u.pending u.minGallop none) e
structure LF(prog:Program)(w:World)(A:Around)(E:Value->Shared->Prop)(s:Shared)(κ:SortKind)(it:Array Keyed)(z:Nat)(m:StateT SortSt Sem Unit) where
 body:Nat->Nat->TM (ForInStep Nat)
 tail:Nat->TM Unit
 sim:nX prog w A E s κ it (λu:Unit=>u) m (f7 body z 0 0 >>= tail)
def Qc{α:Type}{r:Nat->α}{i:α}{z:Nat}(e0:i=r 0){B:Nat->α->StateT QX Sem (ForInStep α)}{k:α->StateT QX Sem Unit}(hb:∀ x lo,cD prog w A E s κ it (iO r) (B x (r lo)))(hk:∀ lo,cD prog w A E s κ it (λu:Unit=>u) (k (r lo))) :
  LF prog w A E s κ it z (forIn [0:z] i B >>= k) where
 body:=λx lo=>(hb x lo).1
 tail:=λlo=>(hk lo).1
 sim:=by
  subst e0;exact fz (nZ λx b=>(hb x b).2) λb=>(hk b).2
structure qL(prog:Program)(w:World)(A:Around)(E:Value->Shared->Prop)(s:Shared)(κ:SortKind)(it:Array Keyed)(m:StateT SortSt Sem Unit) where
 body:Tw->Nat->Nat->TM (ForInStep Nat)
 tail:Tw->Nat->TM Unit
 sim:nX prog w A E s κ it (λu:Unit=>u) m (get >>= λt=>f7 (body t) t.a.size 0 0 >>= tail t)
def Qd{F:QX->StateT QX Sem Unit}(h:∀ t:Tw,LF prog w A E s κ it t.a.size (F (co κ it t))):qL prog w A E s κ it (get >>= F) where
 body:=λt=>(h t).body
 tail:=λt=>(h t).tail
 sim:=fz rY λt=>(h t).sim
def qL.cast{m m':StateT QX Sem Unit}(e:m=m')(h:qL prog w A E s κ it m'):qL prog w A E s κ it m:=⟨h.body,h.tail,by rw[e];exact h.sim⟩
def cS(O:iq prog w A s κ it n cmp):qL prog w A E s κ it sortRuns':=by
 refine qL.cast sortRuns'_eq (Qd λt=>?_);generalize hz:UY (arrOf (co κ it t))=z;have hz':t.a.size=z:=Array.size_map.symm.trans hz;clear hz;subst hz';refine Qc (r:=λm:Nat=>((none,m):Option Unit × Nat)) rfl (λ_ lo=>cg (aC (í lo) rfl) (au (IF O _ _) λm=>?_)) (λ_=>?_)
 ·refine cg (au (yz _) λ_=>au (Ol O _ _ _) λ_=>cg gx (au wZ λu=>?_)) (au wZ λu=>?_)
  all_goals
   generalize Array.back? (Vf (co κ it u))=o1;rcases o1 with _ | ⟨s1,n1,_⟩
   ·exact au (IG (λu=>{ u with pending:=u.pending.push (lo,_,0) }) λ_=>rfl) λ_=>aC (å (lo + _)) rfl
   ·refine au (r:=λ_:Unit=>((none,()):Option Unit × Unit)) (gy () λ_ _=>au wZ λu=>?_) λ_=>au (IG (λu=>{ u with pending:=u.pending.modify (u.pending.size - 1) λx=>(x.1,x.2.1,_) }) λ_=>rfl) λ_=>au (IG (λu=>{ u with pending:=u.pending.push (lo,_,0) }) λ_=>rfl) λ_=>aC (å (lo + _)) rfl;dsimp only;generalize (if UY (Vf (co κ it u)) > 1 then(Vf (co κ it u))[UY (Vf (co κ it u)) - 2]? else none)=o2;rcases o2 with _ | ⟨_,_,old⟩
    ·exact aC (í ()) rfl
    ·exact cg (aC (í ()) rfl) (au (uC O _) λ_=>cg gx (aC (å ()) rfl))
 ·exact au (r:=λ_:Unit=>((none,()):Option Unit × Unit)) (gy () λ_ _=>au wZ λu=>cg (aC (í ()) rfl) (au (uC O _) λ_=>cg gx (aC (å ()) rfl))) λ_=>aC () rfl
end
def f9:Nat->Nat->Nat->Zh
 |0,_,h=>[h]|b + 1,v,h=>f9 b (2 * v) (h + v)++f9 b (2 * v) h
def neN:Nat->Nat->Nat->Zh
 |0,_,_=>[]|b + 1,v,h=>(h + v)::(neN b (2 * v) (h + v)++neN b (2 * v) h)
def sN(b:Nat):Zh:=0::neN b 1 0
def jc:Nat->Nat->Nat->Zh
 |0,_,_=>[]|k + 1,i,m=>if Nat.testBit m 0 then i::jc k (i + 1) (m / 2) else jc k (i + 1) (m / 2)
def E8:Zh->Zh->Bool
 |[],[]=>false|[],_::_=>true|_::_,[]=>false|a::r,b::q=>if beq a b then E8 r q else Xa a b
def dX(K i j:Nat):Bool:=E8 (jc K 0 i) (jc K 0 j)
section
variable {prog:â}{w:ó}{A:ö}{E:Å->É->Prop}{s:É}{κ:SV}{it:Array V7}
def T0(K:Nat):Tw:=⟨⟨Ö (2 ^ K)⟩,#[],7⟩
def TZ(K p:Nat):Tw:=⟨⟨sN K⟩,#[(0,2 ^ K,p)],7⟩
theorem iP{β:Type}{f:Nat->β->TM (ForInStep β)}{n i:Nat}{b b':β}{t t':Tw}{r:Option (β × Tw)}(h:f i b t=some (.yield b',t'))(h2:f7 f n (i + 1) b' t'=r):f7 f (n + 1) i b t=r:=by
 show Option.bind (f i b t) _=r;rw[h];exact h2
def Eo{K:Nat}(O:iq prog w A s κ it (2 ^ K) (dX K)):TM Unit:=get >>= λt=>f7 ((cS (E:=E) O).body t) t.a.size 0 0 >>= (cS (E:=E) O).tail t
theorem two{K n:Nat}{t:Tw}{r:Option (Unit × Tw)}(O:iq prog w A s κ it (2 ^ K) (dX K))(h:f7 ((cS (E:=E) O).body (T0 K)) (2 ^ K) 0 0 (T0 K)=some (n,t))(h2:(cS (E:=E) O).tail (T0 K) n t=r):Eo (E:=E) O (T0 K)=r:=by
 show Option.bind (f7 ((cS (E:=E) O).body (T0 K)) (Ö (2 ^ K)).length 0 0 (T0 K)) _=r;rw[ï,h];exact h2
theorem w1(O:iq prog w A s κ it (2 ^ 1) (dX 1)):Eo (E:=E) O (T0 1)=some ((),TZ 1 0):=by kernel_rfl
theorem w2(O:iq prog w A s κ it (2 ^ 2) (dX 2)):Eo (E:=E) O (T0 2)=some ((),TZ 2 0):=by kernel_rfl
theorem w3(O:iq prog w A s κ it (2 ^ 3) (dX 3)):Eo (E:=E) O (T0 3)=some ((),TZ 3 0):=by kernel_rfl
theorem w4(O:iq prog w A s κ it (2 ^ 4) (dX 4)):Eo (E:=E) O (T0 4)=some ((),TZ 4 0):=by kernel_rfl
theorem w5(O:iq prog w A s κ it (2 ^ 5) (dX 5)):Eo (E:=E) O (T0 5)=some ((),TZ 5 0):=by kernel_rfl
theorem w6(O:iq prog w A s κ it (2 ^ 6) (dX 6)):Eo (E:=E) O (T0 6)=some ((),TZ 6 1):=by kernel_rfl
theorem Oo(O:iq prog w A s κ it (2 ^ 7) (dX 7)):(cS (E:=E) O).body (T0 7) 0 0 (T0 7)=some (.yield 32,⟨⟨sN 5++Ro 32 96⟩,#[(0,32,0)],7⟩):=by kernel_rfl
theorem Oq(O:iq prog w A s κ it (2 ^ 7) (dX 7)):(cS (E:=E) O).body (T0 7) 1 32 ⟨⟨sN 5++Ro 32 96⟩,#[(0,32,0)],7⟩=some (.yield 64,⟨⟨sN 5++(f9 5 1 32++Ro 64 64)⟩,#[(0,32,2),(32,32,0)],7⟩):=by kernel_rfl
theorem Ot(O:iq prog w A s κ it (2 ^ 7) (dX 7)):(cS (E:=E) O).body (T0 7) 2 64 ⟨⟨sN 5++(f9 5 1 32++Ro 64 64)⟩,#[(0,32,2),(32,32,0)],7⟩=some (.yield 96,⟨⟨sN 6++(f9 5 1 64++Ro 96 32)⟩,#[(0,64,1),(64,32,0)],7⟩):=by kernel_rfl
theorem Ou(O:iq prog w A s κ it (2 ^ 7) (dX 7)):(cS (E:=E) O).body (T0 7) 3 96 ⟨⟨sN 6++(f9 5 1 64++Ro 96 32)⟩,#[(0,64,1),(64,32,0)],7⟩=some (.yield 128,⟨⟨sN 6++(f9 5 1 64++f9 5 1 96)⟩,#[(0,64,1),(64,32,2),(96,32,0)],7⟩):=by kernel_rfl
theorem Ov(O:iq prog w A s κ it (2 ^ 7) (dX 7)):f7 ((cS (E:=E) O).body (T0 7)) 124 4 128 ⟨⟨sN 6++(f9 5 1 64++f9 5 1 96)⟩,#[(0,64,1),(64,32,2),(96,32,0)],7⟩=some (128,⟨⟨sN 6++(f9 5 1 64++f9 5 1 96)⟩,#[(0,64,1),(64,32,2),(96,32,0)],7⟩):=by kernel_rfl
theorem Ow(O:iq prog w A s κ it (2 ^ 7) (dX 7)):(cS (E:=E) O).tail (T0 7) 128 ⟨⟨sN 6++(f9 5 1 64++f9 5 1 96)⟩,#[(0,64,1),(64,32,2),(96,32,0)],7⟩=some ((),TZ 7 1):=by kernel_rfl
def w7(O:iq prog w A s κ it (2 ^ 7) (dX 7)):Eo (E:=E) O (T0 7)=some ((),TZ 7 1):=two O (iP (Oo O) (iP (Oq O) (iP (Ot O) (iP (Ou O) (Ov O))))) (Ow O)
theorem Ox(O:iq prog w A s κ it (2 ^ 8) (dX 8)):(cS (E:=E) O).body (T0 8) 0 0 (T0 8)=some (.yield 32,⟨⟨sN 5++Ro 32 224⟩,#[(0,32,0)],7⟩):=by kernel_rfl
theorem Oy(O:iq prog w A s κ it (2 ^ 8) (dX 8)):(cS (E:=E) O).body (T0 8) 1 32 ⟨⟨sN 5++Ro 32 224⟩,#[(0,32,0)],7⟩=some (.yield 64,⟨⟨sN 5++(f9 5 1 32++Ro 64 192)⟩,#[(0,32,3),(32,32,0)],7⟩):=by kernel_rfl
theorem Oz(O:iq prog w A s κ it (2 ^ 8) (dX 8)):(cS (E:=E) O).body (T0 8) 2 64 ⟨⟨sN 5++(f9 5 1 32++Ro 64 192)⟩,#[(0,32,3),(32,32,0)],7⟩=some (.yield 96,⟨⟨sN 6++(f9 5 1 64++Ro 96 160)⟩,#[(0,64,2),(64,32,0)],7⟩):=by kernel_rfl
theorem OA(O:iq prog w A s κ it (2 ^ 8) (dX 8)):(cS (E:=E) O).body (T0 8) 3 96 ⟨⟨sN 6++(f9 5 1 64++Ro 96 160)⟩,#[(0,64,2),(64,32,0)],7⟩=some (.yield 128,⟨⟨sN 6++(f9 5 1 64++(f9 5 1 96++Ro 128 128))⟩,#[(0,64,2),(64,32,3),(96,32,0)],7⟩):=by kernel_rfl
theorem OB(O:iq prog w A s κ it (2 ^ 8) (dX 8)):(cS (E:=E) O).body (T0 8) 4 128 ⟨⟨sN 6++(f9 5 1 64++(f9 5 1 96++Ro 128 128))⟩,#[(0,64,2),(64,32,3),(96,32,0)],7⟩=some (.yield 160,⟨⟨sN 7++(f9 5 1 128++Ro 160 96)⟩,#[(0,128,1),(128,32,0)],7⟩):=by kernel_rfl
theorem OC(O:iq prog w A s κ it (2 ^ 8) (dX 8)):(cS (E:=E) O).body (T0 8) 5 160 ⟨⟨sN 7++(f9 5 1 128++Ro 160 96)⟩,#[(0,128,1),(128,32,0)],7⟩=some (.yield 192,⟨⟨sN 7++(f9 5 1 128++(f9 5 1 160++Ro 192 64))⟩,#[(0,128,1),(128,32,3),(160,32,0)],7⟩):=by kernel_rfl
theorem OD(O:iq prog w A s κ it (2 ^ 8) (dX 8)):(cS (E:=E) O).body (T0 8) 6 192 ⟨⟨sN 7++(f9 5 1 128++(f9 5 1 160++Ro 192 64))⟩,#[(0,128,1),(128,32,3),(160,32,0)],7⟩=some (.yield 224,⟨⟨sN 7++(f9 6 1 128++(f9 5 1 192++Ro 224 32))⟩,#[(0,128,1),(128,64,2),(192,32,0)],7⟩):=by kernel_rfl
theorem OE(O:iq prog w A s κ it (2 ^ 8) (dX 8)):(cS (E:=E) O).body (T0 8) 7 224 ⟨⟨sN 7++(f9 6 1 128++(f9 5 1 192++Ro 224 32))⟩,#[(0,128,1),(128,64,2),(192,32,0)],7⟩=some (.yield 256,⟨⟨sN 7++(f9 6 1 128++(f9 5 1 192++f9 5 1 224))⟩,#[(0,128,1),(128,64,2),(192,32,3),(224,32,0)],7⟩):=by kernel_rfl
theorem OF(O:iq prog w A s κ it (2 ^ 8) (dX 8)):f7 ((cS (E:=E) O).body (T0 8)) 248 8 256 ⟨⟨sN 7++(f9 6 1 128++(f9 5 1 192++f9 5 1 224))⟩,#[(0,128,1),(128,64,2),(192,32,3),(224,32,0)],7⟩=some (256,⟨⟨sN 7++(f9 6 1 128++(f9 5 1 192++f9 5 1 224))⟩,#[(0,128,1),(128,64,2),(192,32,3),(224,32,0)],7⟩):=by kernel_rfl
theorem OG(O:iq prog w A s κ it (2 ^ 8) (dX 8)):(cS (E:=E) O).tail (T0 8) 256 ⟨⟨sN 7++(f9 6 1 128++(f9 5 1 192++f9 5 1 224))⟩,#[(0,128,1),(128,64,2),(192,32,3),(224,32,0)],7⟩=some ((),TZ 8 1):=by kernel_rfl
def w8(O:iq prog w A s κ it (2 ^ 8) (dX 8)):Eo (E:=E) O (T0 8)=some ((),TZ 8 1):=two O (iP (Ox O) (iP (Oy O) (iP (Oz O) (iP (OA O) (iP (OB O) (iP (OC O) (iP (OD O) (iP (OE O) (OF O))))))))) (OG O)
theorem OH{K:Nat}(h1:1<=K)(h8:K<=8)(O:iq prog w A s κ it (2 ^ K) (dX K)):∃ p,Eo (E:=E) O (T0 K)=some ((),TZ K p):=by
 match K,h1,h8,O with
 |1,_,_,O=>exact⟨_,w1 O⟩|2,_,_,O=>exact⟨_,w2 O⟩|3,_,_,O=>exact⟨_,w3 O⟩|4,_,_,O=>exact⟨_,w4 O⟩|5,_,_,O=>exact⟨_,w5 O⟩|6,_,_,O=>exact⟨_,w6 O⟩|7,_,_,O=>exact⟨_,w7 O⟩|8,_,_,O=>exact⟨_,w8 O⟩
theorem runL{K:Nat}{vs:Zj}(h1:1<=K)(h8:K<=8)(hv:vs.length=2 ^ K)(O:iq prog w A s κ (vs.toArray.zip vs.toArray) (2 ^ K) (dX K)):MySort.IB prog w A s vs (λp=>p=sN K) κ:=by
 refine⟨sN K,rfl,λE Q q=>?_⟩;obtain⟨pp,e⟩:=OH (E:=E) h1 h8 O;have r:=(cS (E:=E) O).sim (T0 K) () (TZ K pp) e (λu st s'=>s'=s/\failedOf st=none/\arrOf st=((sN K).toArray).map (ý (vs.toArray.zip vs.toArray))) ⟨rfl,rfl,rfl⟩;have est:SN κ (vs.toArray.zip vs.toArray) #[] 7 none=co κ (vs.toArray.zip vs.toArray) (T0 K):=by
  have e:=kas_range (vs.toArray.zip vs.toArray);rw[show(vs.toArray.zip vs.toArray).size=2 ^ K by simp[hv]] at e
  show _=SN κ ((VA (Ö (2 ^ K))).map (ý (vs.toArray.zip vs.toArray))) #[] 7 none;rw[e]
 rw[est];refine QM r (λx s' h=>?_) λ_ _ e=>e;obtain⟨rfl,h2,h3⟩:=h;exact q x.2 h2 h3
end
end TS
namespace HT
open PySem PyProof.Rows
section
open PySem.SeqAt
open PySem.AutoSeq1 (wpAny_loadPart')
open PySem.MeetsSeq PySem.MeetsSeq2 PySem.MeetsSeq3
open MySort (aW)
def leB(ns ms:Zi):Bool:=!aW ms ns
theorem BX(x y:Int)(r q:Zi):leB (x::r) (y::q)=if x=y then leB r q else decide (x<=y):=by
 show(!(if y=x then aW q r else decide (y < x)))=_;by_cases e:x=y
 ·rw[if_pos e,if_pos e.symm];rfl
 ·rw[if_neg e,if_neg (QQ e)];by_cases l:y < x
  ·rw[decide_eq_true l,decide_eq_false ∅];rfl
  ·rw[decide_eq_false l,decide_eq_true ∅];rfl
theorem BY(A:ö)(s:É)(a:Int)(t:Tok)(c:Int)(u:Tok)(P:â)(w:ó)(E:Å->É->Prop)(Q:Å->É->Prop)(h:Q (.bool (decide (a<=c))) s):Ô (à P w) A (Yx .LtE (.int a t) (.int c u)) Q E s:=
 (PyProof.Rows.le_int h:Ô (à P w) A (Qw .LtE (.int a t) (.int c u)) Q E s)
theorem qd(l b:Ì)(i1 i2:Zo)(n n2:Nat)(dd dd2:Zl)(sl sl2:Array Zn)(ns ms:Zi)(hi:SH i1.toList ns)(hj:SH i2.toList ms) :
 Meets (Ss.«tuple.__le__» ⟨[.ref l,.ref b],[]⟩) (λ_ R s=>s.heap.get? l=some { cls:=.type "tuple",dict:=dd,data:=.seq i1 n,slots:=sl }/\s.heap.get? b=some { cls:=.type "tuple",dict:=dd2,data:=.seq i2 n2,slots:=sl2 }/\R (.ok (.ret (.bool (leB ns ms)))) s):=
 .of_wp λP w A R s h=>by
  obtain⟨hp,g,d,tk,os⟩:=s;obtain⟨hl,hb,h⟩:=h;have f2:=VT;have z1:i1.size=ns.length:=by rw[← hi.length];simp
  have z2:i2.size=ms.length:=by rw[← hj.length];simp
  wp_walk using S6 hl,S6 hb,wpAny_forIn_list _ (λrest b s'=>b.1=none/\s'=⟨hp,g,d,tk,os⟩/\∃ (vs ws:Zj) (ns' ms':Zi),rest=vs.zip ws/\SH vs ns'/\SH ws ms'/\ns'.length + i2.size=ms'.length + i1.size/\R (.ok (.ret (.bool (leB ns' ms')))) ⟨hp,g,d,tk,os⟩) _
  case turn =>
   rintro ⟨y,x⟩ rest b s' ⟨hb',rfl,vs,ws,ns',ms',hz,hvi,hwi,hlen,hR⟩;cases hvi with
   |nil=>rw[Vl] at hz;cases hz
   |cons a t hvi' =>
    cases hwi with
    |nil=>rw[XR] at hz;cases hz
    |cons c u hwi' =>
     rw[Sv] at hz;injection hz with hyx hrest;injection hyx with hy hx;subst hy hx;rw[BX] at hR;simp only[Ü] at hlen;obtain⟨e,he,hiff⟩:=Bw A.in1 ⟨hp,g,d,tk,os⟩ a t c u;refine À (he P w _ _ ?_);cases e with
     |true =>
      rw[if_pos (hiff.mp rfl)] at hR;wp_walk;exact⟨rfl,rfl,_,_,_,_,hrest,hvi',hwi',∅,hR⟩
     |false =>
      rw[if_neg (λq=>absurd (hiff.mpr q) Û)] at hR;have hri:=BY A.in1 ⟨hp,g,d,tk,os⟩ a t c u P w
      wp_walk using hri
      exact⟨_,rfl,by simpa using hR⟩
  case fin =>
   rintro ⟨b1,b2⟩ s' ⟨hb',rfl,vs,ws,ns',ms',hz,hvi,hwi,hlen,hR⟩;simp only at hb';subst hb';have hv:leB ns' ms'=decide (i1.size<=i2.size):=by
    cases hvi with
    |nil =>
     cases hwi with
     |nil=>simp only[QO] at hlen;exact(decide_eq_true ∅).symm|cons c u hw=>simp only[QO,Ü] at hlen;exact(decide_eq_true ∅).symm
    |cons a t hv =>
     cases hwi with
     |nil=>simp only[QO,Ü] at hlen;exact(decide_eq_false ∅).symm|cons c u hw=>rw[Sv] at hz;cases hz
   rw[hv] at hR;wp_walk;exact⟨_,rfl,by simpa [Vz] using hR⟩
  case h=>exact⟨rfl,rfl,i1.toList,i2.toList,ns,ms,rfl,hi,hj,∅,h⟩
end
section
variable {P:â}{w:ó}{A:ö}{E:Å->É->Prop}{s:É}
theorem w9(hl:UE s.heap l i1)(hb:UE s.heap b i2)(hi:SH i1.toList ns)(hj:SH i2.toList ms)
 (hu:A.units < Rz) (h:Q (.bool (leB ns ms)) s):Ô (à P w) A (Qw .LtE (.ref l) (.ref b)) Q E s:=by
 obtain⟨⟨cls,dd,data,sl⟩,ho,hc,n,hd⟩:=id hl;obtain⟨⟨cls2,dd2,data2,sl2⟩,ho2,hc2,n2,hd2⟩:=id hb;simp only at hc hd hc2 hd2;subst hc hd hc2 hd2;exact X1 (op:=.LtE) ⟨_,ho,rfl⟩ ⟨_,ho2,rfl⟩ PySem.F.slot_tuple_le PySem.F.entry_tuple_le (PySem.F.args_tuple_le_2 _ _) (qd l b i1 i2 n n2 dd dd2 sl sl2 ns ms hi hj)
  ⟨ho,ho2,show Tc (leB ns ms)≠W6/\Q (.bool (leB ns ms)) s from⟨(λx=>nomatch x),h⟩⟩ hu
theorem E9{t b:Ì}{ws:Zj}{Q:Å->É->Prop}(ht:UE s.heap t #[])(hb:UE s.heap b ws.toArray)(h:Q (.ref b) s):Ô (à P w) A (RX .Add (.ref t) (.ref b)) Q E s:=by
 obtain⟨⟨cls,dd,data,sl⟩,ho,hc,n,hd⟩:=id ht;obtain⟨⟨cls2,dd2,data2,sl2⟩,ho2,hc2,n2,hd2⟩:=id hb;simp only at hc hd hc2 hd2;subst hc hd hc2 hd2;exact X7 ⟨_,ho,rfl⟩ ⟨_,ho2,rfl⟩ Wk Xw T5 TJ (To _ _) (tuple_addW0 t b #[] ws.toArray n n2 dd dd2 sl sl2 (by simp)) ⟨ho,ho2,h⟩
theorem jR{t sl:Ì}{xs:Zo}{vl vu:Å}{lo hi:Zp}{Q:Å->É->Prop}(ht:UE s.heap t xs)(hs:s.heap.IsSliceOf sl vl vu .none)(pl:Vb vl lo)(pu:Vb vu hi)
 (hw:dD xs.size 0 lo=0/\dD xs.size xs.size hi=xs.size) (h:Q (.ref t) s):Ô (à P w) A (Vj (.ref t) (.ref sl)) Q E s:=by
 obtain⟨os,hos,hcs,hds⟩:=id hs;have hTs:s.TypeIs (.ref sl) "slice":=⟨os,hos,hcs⟩;unfold Vj;try with_reducible refine Q9 ?_
 first | refine À (Ê ?_) | skip
 refine À (wpAny_sequenceKey ht.typeIs 1e1 ?_);refine À (QK (name:=QH "__getitem__") ht.typeIs QZ (QG QZ ht.typeIs entry_tuple_getitem ?_ (args_tuple_getitem _ _)))
 show Ô _ _ (tupleItemsOf (.ref t) >>= _) _ _ s;refine À (tupleItemsOf_ ht (À (So hTs ?_)));rw[if_pos 1e1];refine À (gO hs pl pu ?_)
 rw[hw.1,hw.2];show Ô _ _ (if (((0:Nat):Int) == 0&&(1:Int) == 1&&(xs.size - 0) == xs.size)=true then _ else _) _ _ s;rw[if_pos (by simp)]
 refine À (m:=tupleIsExact _) ?_;unfold tupleIsExact;refine À (So ht.typeIs (Ê ?_));rw[if_pos 1e1]
 first
  |exact À (S2 (Ê ⟨_,rfl,Ê h⟩))
  |exact À (S2 (À (Ê (Ê ⟨_,rfl,Ê h⟩))))
end
end HT
namespace L2
open PySem PySem.Spec PyProof.Rows
theorem af.jV{K:Â}{H H':Hp}{a:Ì}{xs:List V}(e:af H H')(h:dU K H a xs):dU K H' a xs:=by
 rcases h with (h | ⟨o,h⟩) | h
 ·exact .inl (.inl (e _ _ h))
 ·exact .inl (.inr ⟨o,e _ _ h⟩)
 ·exact .inr h
def af.new(o:HO)(n:H p=none):af H (upd H p o):=λb u e=>by rw[ai (aB e n)];exact e
def uD(K:Â)(H:Hp)(zs:List V)(Q:VK):Prop:=∀ p H',af H H'->dU K H' p zs->Q (.ref p) H'
section
variable {X:Cx}{aa:List (Ì × Obj)}{σ:St}{H:Hp}{s:É}
def uD.here(q:uD X.K H zs Q)(I:Inv X aa σ H s)(h:dU X.K H a zs):EP X aa σ Q (.ref a) s:=⟨.ref a,H,I,rfl,q a H (af.refl H) h⟩
theorem uD.new(q:uD X.K H zs Q)(I:Inv X aa σ H s)(r:Vals zs us)(hz:zs.length<=sizeLine) :
 EP X aa σ Q (.ref s.heap.objs.size) { s with heap:=s.heap.push { cls:=.type "tuple",data:=.seq us.toArray } }:=
 have hn:H s.heap.objs.size=none:=I.aV.fresh (Ñ _)
 ⟨.ref s.heap.objs.size,_,I.laid (t':=s.toks) (o:=.tup zs) (λb ob q=>Ã _ q) (Ñ _) ⟨hz,_,r,Yi _ _⟩,rfl,q _ _ (af.new _ hn) (dU.of aO)⟩
end
section
variable {X:Cx}
def OI(K:Â):R2:=λx y H Q=>∃ a b ns ms,x=.ref a/\y=.ref b/\dU K H a (ns.map V.int)/\dU K H b (ms.map V.int)/\Q (.bl (HT.leB ns ms)) H
theorem IH(hu:X.A.units < Rz):hW X (Qw .LtE) (OI X.K):=by
 intro aa s σ H x y v u Q I rx ry h;obtain⟨a,b,ns,ms,rfl,rfl,ha,hb,q⟩:=h;cases rx;cases ry;obtain⟨v1,r1,p1,_⟩:=I.tuple ha;obtain⟨v2,r2,p2,_⟩:=I.tuple hb;exact HT.w9 p1 p2 (show SH v1.toArray.toList ns from intsAre_of r1) (show SH v2.toArray.toList ms from intsAre_of r2) hu ⟨.bl (HT.leB ns ms),H,I,rfl,q⟩
def LG(K:Â):R2:=λx y H Q=>∃ a b xs ys,x=.ref a/\y=.ref b/\dU K H a xs/\dU K H b ys/\xs.length + ys.length<=sizeLine/\uD K H (xs++ys) Q
theorem Fb:hW X (RX .Add) (LG X.K):=by
 intro aa s σ H x y v u Q I rx ry h;obtain⟨a,b,xs,ys,rfl,rfl,ha,hb,hz,q⟩:=h;cases rx;cases ry;obtain⟨v1,r1,p1,_⟩:=I.tuple ha;obtain⟨v2,r2,p2,_⟩:=I.tuple hb;by_cases hx:xs=[]
 ·subst hx;have e:=r1.rP.mpr rfl;subst e;exact HT.E9 p1 p2 (q.here I hb)
 ·refine HT.EO p1 p2 (λz=>hx (r1.rP.mp z)) (λz=>?_) (λz=>q.new I (r1.append r2) (by rw[Rk];exact hz)) (by rw[← r1.length,← r2.length];exact hz)
  have e:=r2.rP.mp z;subst e;rw[Ri] at q;exact q.here I ha
def OJ(K:Â):V->Zp->Zp->Hp->VK->Prop:=λx lo hi H Q=>∃ a xs,x=.ref a/\dU K H a xs/\uD K H (rO xs lo hi) Q
theorem Fc:Nw X (OJ X.K):=by
 intro aa s σ H x v vl vu lo hi sl Q I rx hs pl pu h;obtain⟨a,xs,rfl,hx,q⟩:=h;cases rx;obtain⟨ar,r,ht,hz⟩:=I.tuple hx;have hlen:ar.toArray.size=xs.length:=by rw[ã];exact r.length.symm
 refine⟨"tuple",_,QZ.lookup,ht.typeIs,?_⟩;by_cases hw:HT.dD xs.length 0 lo=0/\HT.dD xs.length xs.length hi=xs.length
 ·refine HT.jR ht hs pl pu (by rw[hlen];exact hw) ?_
  have e:rO xs lo hi=xs:=by unfold rO;rw[hw.1,hw.2];simp
  rw[e] at q;exact q.here I hx
 ·refine HT.kI ht hs pl pu (by rw[hlen];exact hw) ?_ (by rw[hlen];exact hz)
  rw[hlen];exact q.new I ((r.drop (HT.dD xs.length 0 lo)).take (HT.dD xs.length xs.length hi - HT.dD xs.length 0 lo)) (ê (mw xs lo hi) hz)
def IE(K:Â)(te ts:TE):TE:=λσ H Q=>te σ H λx H1=>ts σ H1 λy H2=>y=.int (-1)/\((∃ a xs,x=.ref a/\dU K H2 a xs/\uD K H2 xs.reverse Q)\/∃ a xs,x=.ref a/\jP K H2 a xs/\∀ p,H2 p=none->Q (.ref p) (upd H2 p (.lst xs.reverse)))
theorem Ad:hW X (Qw .IsNot) (λx y H Q=>∃ b c,x=.bl b/\y=.bl c/\Q (.bl (b != c)) H):=by
 intro aa s σ H x y v u Q I rx ry h;obtain⟨b,c,rfl,rfl,q⟩:=h;cases rx;cases ry;exact isnot_bool (Br I q rfl)
theorem Inv.big(I:Inv X aa σ H s):Y5 < s.heap.objs.size:=by
 have h:ì < s.heap.objs.size:=(I.mod.glob.keeps I.bk).lt;exact Nat.lt_trans 1e1 h
def LI:TE:=λ_ H Q=>∀ p,H p=none->Q (.ref p) (upd H p (.dK []))
def Fd:PE X (.Dict [] [] pos) LI:=λaa s σ H Q I h =>
 wpAny_Dict_empty ⟨.ref s.heap.objs.size,_,I.laid (a:=s.heap.objs.size) (o:=.dK []) (t':=s.toks) (λ_ _ q=>Ã _ q) (Ñ _) ⟨Se _,beq_eq_false_iff_ne.mpr (QQ (Ý I.big)),[],.nil,ø.DictOf.new _⟩,rfl,h _ (I.aV.fresh (Ñ _))⟩
end
end L2
namespace MySort
open PySem PySem.W PyProof.Rows
section
variable {P:â}{w:ó}{A:ö}{E:Å->É->Prop}{s:É}
theorem uE(ho:s.heap.get? l=some o)(hc:o.cls=.type "list"\/o.cls=.type "tuple")(hd:o.data=.seq vs.toArray n)
 (h:Q vs { s with heap:=(s.heap.push (QW "list" #[] 0)).update s.heap.objs.size (Qs (·++vs.toArray)) }) (hz:vs.length<=sizeLine):Ô (à P w) A (WL (.ref l)) Q E s:=by
 unfold WL;refine À (U2 (QY entry_proto_collect' ?_));show Ô _ _ (do YB (.builtin "list.__iadd__" ⟨[← X2 [],.ref l],[]⟩)) _ _ s;refine À (Vy (Ê ⟨XX _ (by decide +kernel),QY entry_list_iadd' ?_⟩))
 show Ô _ _ (Rl (.ref s.heap.objs.size) (.ref l) (.ref s.heap.objs.size)) _ _ { s with heap:=s.heap.push (QW "list" #[] 0) };unfold Rl;have ho':(s.heap.push (QW "list" #[] 0)).get? l=some o:=Ã _ ho;have fin:Ô (à P w) A (do
   let o ← load s.heap.objs.size
   match o.data with
   |.seq xs _=>pure xs.toList
   |_=>Yw "internal:collect") Q E { s with heap:=(s.heap.push (QW "list" #[] 0)).update s.heap.objs.size (Qs (·++vs.toArray)) }:=by
  refine À (W0 (WG (Ò _ rfl) _) ?_);show Ô _ _ (pure ((#[]:Zo)++vs.toArray).toList) Q E _;rw[show((#[]:Zo)++vs.toArray).toList=vs by simp];exact Ê h
 rcases hc with hc | hc
 ·refine À (So (T:="list") ⟨o,ho',hc⟩ ?_);rw[if_pos (by rw[show(QU "list" == QU "list")=true by rfl];simp)]
  refine À (Tz ho' hd (À (Tz (xs:=#[]) (n:=0) (Ò _ rfl) rfl ?_)));rw[if_neg (by simp)]
  exact À (VF (xs:=#[]) (n:=0) (Ò _ rfl) rfl (Ê fin) (Se _) (by show(#[]++vs.toArray).size<=sizeLine + 1;simp only[XY,ã,QO];omega))
 ·refine À (So (T:="tuple") ⟨o,ho',hc⟩ ?_);rw[if_pos (by rw[show(QU "tuple" == QU "tuple")=true by rfl];simp)]
  refine À (Tz ho' hd (À (Tz (xs:=#[]) (n:=0) (Ò _ rfl) rfl ?_)));rw[if_neg (by simp)]
  exact À (VF (xs:=#[]) (n:=0) (Ò _ rfl) rfl (Ê fin) (Se _) (by show(#[]++vs.toArray).size<=sizeLine + 1;simp only[XY,ã,QO];omega))
theorem Ae(ho:s.heap.get? l=some o)(hc:o.cls=.type "list"\/o.cls=.type "tuple")(hd:o.data=.seq vs.toArray n)
 (hk:∀ h',qJ s.heap h'->wY P w A.in1.in1 { s with heap:=h' } vs Pr kd)
 (h:∀ (p:Zh) (h':ø) (c:Nat),Pr p->(∀ b o,s.heap.get? b=some o->h'.get? b=some o)->h'.get? (s.heap.objs.size + 1)=some (QW "list" (p.map λi=>vs.getD i è).toArray c)->Q (.ref (s.heap.objs.size + 1)) { s with heap:=h' }) :
  Ô (à P w) A (call (.builtin "sorted") [.ref l]) Q E s:=by
 have h64:=(hk s.heap λ_ _ e _=>e).len;refine Wh kind_sorted plain_sorted entry_sorted (args_sorted1 _) ?_;unfold Ss.«sorted»;refine À (m:=checkCount "sorted" 1 1 _) (Ê ?_);refine À (uE ho hc hd ?_ (by rw[Qy];omega));refine À (Vy ?_ (by rw[Qy];omega))
 have hsz:((s.heap.push (QW "list" #[] 0)).update s.heap.objs.size (Qs (·++vs.toArray))).objs.size=s.heap.objs.size + 1:=by rw[ø.size_update,size_push']
 have hoL:(((s.heap.push (QW "list" #[] 0)).update s.heap.objs.size (Qs (·++vs.toArray))).push (QW "list" vs.toArray 0)).get? (s.heap.objs.size + 1)=some (QW "list" vs.toArray 0):=by rw[← hsz];exact Ò _ rfl
 have keep:∀ b o,s.heap.get? b=some o->(((s.heap.push (QW "list" #[] 0)).update s.heap.objs.size (Qs (·++vs.toArray))).push (QW "list" vs.toArray 0)).get? b=some o:=λb o q=>by
  have hlt:b < s.heap.objs.size:=á q;rw[Yk _ _ _ (by rw[hsz];exact Ý (Ry hlt)),Heap.get?_update_ne _ _ _ _ (Ý hlt),Yk _ _ _ (Ý hlt)];exact q
 show Ô _ _ _ _ _ { s with heap:=((s.heap.push (QW "list" #[] 0)).update s.heap.objs.size (Qs (·++vs.toArray))).push (QW "list" vs.toArray 0) };rw[hsz];refine À (Q9 (QG slot_list_sort ⟨_,hoL,rfl⟩ entry_list_sort (uy hoL (λh' kp=>hk h' λb o e hc=>kp b o (keep b o e) hc) λp h' c hp kp hD=>⟨_,rfl,Ê ⟨_,rfl,h p h' c hp (λb o e=>kp b o (Ý (Ry (á e))) (keep b o e)) hD⟩⟩) (args_list_sort _)))
end
end MySort
namespace L2
open PySem PySem.Spec PyProof.Rows
open MySort (sortedBy)
section
variable {X:Cx}
def yB(X:Cx)(H:Hp)(xs:List V)(Pr:Zh->Prop):Prop:=∀ (aa:List (Ì × Obj)) (σ:St) (s:É) (us:Zj),Inv X aa σ H s->Vals xs us->∃ kd,∀ h',MySort.qJ s.heap h'->MySort.wY X.prog X.w X.A.in1.in1 { s with heap:=h' } us Pr kd
theorem kK:bZ X (.builtin "sorted") (λargs H Q=>∃ a xs,∃ Pr:Zh->Prop,args=[.ref a]/\(jP X.K H a xs\/dU X.K H a xs)/\yB X H xs Pr/\(∀ p,Pr p->∀ i∈p,i < xs.length)/\∀ p l,Pr p->H l=none->Q (.ref l) (upd H l (.lst (p.map λi=>xs.getD i .bp)))):=by
 intro aa s σ H args us Q I r h;obtain⟨a,xs,Pr,rfl,hq,hk,hpr,q⟩:=h;obtain⟨u,rfl,rx⟩:=vals1 r;cases rx;have go:∀ (ar:Zj) (o:Obj) (n:Nat),Vals xs ar->s.heap.get? a=some o->(o.cls=.type "list"\/o.cls=.type "tuple")->o.data=.seq ar.toArray n->Ô (à X.prog X.w) X.A (call (.builtin "sorted") [.ref a]) (EP X aa σ Q) X.xe s:=λar o n rv ho hc hd=>by
  obtain⟨kd,kw⟩:=hk aa σ s ar I rv;have k0:=kw s.heap λ_ _ e _=>e;refine MySort.Ae ho hc hd kw λp h' c hp kp hD=>?_;have hn:H (s.heap.objs.size + 1)=none:=I.aV.fresh (RY _ 1);have hlen:(p.map λi=>xs.getD i .bp).length<=sizeLine:=by rw[Ä,k0.all p hp,Qy];have:=k0.len;omega
  have rv':Vals (p.map λi=>xs.getD i .bp) (p.map λi=>ar.getD i è):=by
   have hall:=hpr p hp;clear hp hD hlen
   induction p with
   |nil=>exact .nil
   |cons i r ih =>
    refine .cons ?_ (ih λj hj=>hall j (È _ hj));have hi:=hall i Ë;obtain⟨u,hu,ru⟩:=rv.get (i:=i) (x:=xs[i]) (by simp[hi])
    have e1:xs.getD i V.bp=xs[i]:=by simp[hi]
    have e2:ar.getD i è=u:=by rw[Æ,hu];rfl
    show RelV (xs.getD i V.bp) (ar.getD i è);rw[e1,e2];exact ru
  exact⟨.ref (s.heap.objs.size + 1),_,I.laid (t':=s.toks) kp (RY _ 1) (show c9 X.prog X.w _ h' _ (.lst _) from⟨hlen,_,c,rv',hD⟩),rfl,q p _ hp hn⟩
 rcases hq with hq | hq
 ·obtain⟨ar,rv,pl,_⟩:=I.list hq;obtain⟨o,ho,hc,n,hd⟩:=pl.isList;exact go ar o n rv ho (.inl hc) hd
 ·obtain⟨ar,rv,⟨o,ho,hc,n,hd⟩,_⟩:=I.tuple hq;exact go ar o n rv ho (.inr hc) hd
end
inductive D where
 |bp | bl (b:Bool) | int (i:Int) | str (x:Str) | tup (ds:List D) | lst (ds:List D) | dct
def D.ty:D->String
 |.bp=>"NoneType"|.bl _=>"bool"|.int _=>"int"|.str _=>"str"|.tup _=>"tuple"|.lst _=>"list"|.dct=>"dict"
mutual
def uF(K:Â)(H:Hp):D->V->Prop
 |.bp,v=>v=.bp|.bl b,v=>v=.bl b|.int i,v=>v=.int i|.str x,v=>v=.str x|.tup ds,v=>∃ a xs,v=.ref a/\dU K H a xs/\lH K H ds xs|.lst ds,v=>∃ a xs,v=.ref a/\jP K H a xs/\lH K H ds xs|.dct,v=>∃ a kvs,v=.ref a/\H a=some (.dK kvs)
def lH(K:Â)(H:Hp):List D->List V->Prop
 |[],xs=>xs=[]|d::ds,xs=>∃ x r,xs=x::r/\uF K H d x/\lH K H ds r
end
def NF(T C:String):Bool:=T == C || (T == "bool"&&C == "int")
theorem LJ(K:Â)(d:D):∀ C∈["int","bool","tuple","list","str"],PySem.W.kitOne K (.type d.ty) (.type C)=some (NF d.ty C):=by
 intro C hC;simp only[ü,p9,or_false] at hC;rcases hC with rfl | rfl | rfl | rfl | rfl <;> cases d <;> first | rfl | kernel_rfl | decide +kernel
section
variable {X:Cx}
theorem BZ:bZ X (.builtin "isinstance") (λxs H Q=>∃ d x C,xs=[x,.ty C]/\uF X.K H d x/\C∈["int","bool","tuple","list","str"]/\Q (.bl (NF d.ty C)) H):=by
 intro aa s σ H xs us Q I r h;obtain⟨d,x,C,rfl,hd,hC,q⟩:=h;obtain⟨u,w',rfl,rx,rt⟩:=vals2 r;cases (show w'=QU C from rt);have e:=LJ X.K d C hC;have fin:∀ tk,EP X aa σ Q (.bool (NF d.ty C)) { s with toks:=tk }:=λtk=>⟨.bl _,H,I.tok tk,rfl,q⟩;cases d with
 |bp=>unfold uF at hd;subst hd;cases rx;exact UX PySem.W.kitx_none I.t9 UZ e (λz=>nomatch z) fin
 |bl b=>unfold uF at hd;subst hd;cases rx;exact UX PySem.W.kitx_bool I.t9 UZ e (λz=>nomatch z) fin
 |int i=>unfold uF at hd;subst hd;obtain⟨t,rfl⟩:=rx;exact UX PySem.W.kitx_int I.t9 UZ e (λz=>nomatch z) fin
 |str y=>unfold uF at hd;subst hd;obtain⟨t,rfl⟩:=rx;exact UX PySem.W.kitx_str I.t9 UZ e (λz=>nomatch z) fin
 |tup ds =>
  unfold uF at hd;obtain⟨a,ys,rfl,hq,_⟩:=hd;cases rx;obtain⟨ar,_,⟨o,h1,h2,_⟩,_⟩:=I.tuple hq;exact UX PySem.W.kitx_tuple I.t9 ⟨o,h1,h2⟩ e (λz=>nomatch z) fin
 |lst ds =>
  unfold uF at hd;obtain⟨a,ys,rfl,hq,_⟩:=hd;cases rx;obtain⟨ar,_,pl,_⟩:=I.list hq;obtain⟨o,h1,h2,_⟩:=pl.isList;exact UX PySem.W.kitx_list I.t9 ⟨o,h1,h2⟩ e (λz=>nomatch z) fin
 |dct =>
  unfold uF at hd;obtain⟨a,kvs,rfl,hq⟩:=hd;cases rx;obtain⟨_,_,vs,_,p⟩:=(show c9 X.prog X.w H s.heap a (.dK kvs) from I.aV a _ hq);obtain⟨o,es,ep,h1,h2,_⟩:=p;exact UX PySem.W.kitx_dict I.t9 ⟨o,h1,h2.1⟩ e (λz=>nomatch z) fin
end
def hide(st:Ì)(H:Hp):Hp:=λb=>if b=st then none else H b
theorem cK(st:Ì)(H:Hp):af (hide st H) H:=λb o e=>by
 unfold hide at e;split at e
 ·cases e
 ·exact e
theorem lI{st:Ì}{H H':Hp}(e:∀ b o,b≠st->H b=some o->H' b=some o):af (hide st H) (hide st H'):=λb o h=>by
 unfold hide at h ⊢;by_cases q:b=st
 ·rw[if_pos q] at h;cases h
 ·rw[if_neg q] at h ⊢;exact e b o q h
theorem n5{st b:Ì}{H:Hp}{o:HO}(h:H b=some o)(n:b≠st):hide st H b=some o:=by
 unfold hide;rw[if_neg n];exact h
end L2
namespace L2
open PySem PySem.Spec PyProof.Rows
def B0{σ:St}{H:Hp}{R:Bool->Hp->Prop}(h:R true H):yw σ H R:=h
open PySem PySem.Spec PyProof.Rows PySem.SeqAt
end L2
namespace L2
open PySem PySem.Spec PyProof.Rows
section
variable {P:â}{w:ó}{A:ö}{E:Å->É->Prop}{s:É}
abbrev NG(h:ø)(l:Ì):Heap:=h.push { cls:=.type "tuple_iterator",data:=.fields #[.ref l,.int 0 0] }
abbrev OK(h:ø)(l:Ì):Heap:=(NG h l).push { cls:=.type "enumerate",data:=.fields #[.none,.bool false,.ref h.objs.size,Ra 0,.none,.none] }
theorem uG(l:Ì)(xs:Zo) :
 Meets (Ss.«enumerate.__new__» ⟨[.type "enumerate",.ref l],[]⟩) (λ_ R s=>s.heap.IsTuple l xs/\R (.ok (.ret (.ref (NG s.heap l).objs.size))) { s with heap:=OK s.heap l }):=
 .of_wp λP w A R s h=>by
  obtain⟨hp,g,d,tk,os⟩:=s;obtain⟨hl,h⟩:=h;have hsub:=sub_enumerate;have hL1:Vn (WN ⟨hp,g,d,tk,os⟩) l xs:=hl
  wp_walk;refine wpAny_stack_any λq=>Ê ?_;split
  ·rename_i c _ _ _ _ _;cases (c == QU "enumerate") <;> (wp_walk using R4 hL1) <;> exact⟨_,rfl,h⟩
  ·wp_walk using R4 hL1
   exact⟨_,rfl,h⟩
theorem xc(hl:s.heap.IsTuple l xs)
 (h:∀ h',IsEnum h' (s.heap.objs.size + 1) s.heap.objs.size 0 .none->h'.IsTupleIter s.heap.objs.size l 0->(∀ c o,s.heap.get? c=some o->h'.get? c=some o)->Q (.ref (s.heap.objs.size + 1)) { s with heap:=h' }) :
  Ô (à P w) A (call (.type "enumerate") [.ref l]) Q E s:=by
 refine callType_new F.called_enumerate 1e1 (F.typeCall_enumerate_1 _) (F.newCall_enumerate_1 _) (λobj=>F.args_object_init_2 obj _) F.entry_enumerate_new (uG l xs) ⟨hl,?_⟩
 have n1:(NG s.heap l).objs.size=s.heap.objs.size + 1:=SD ..;have g2:(OK s.heap l).get? (NG s.heap l).objs.size=some _:=Ò _ rfl;have g1:(OK s.heap l).get? s.heap.objs.size=some _:=Ã _ (Ò _ rfl);show _/\_;rw[n1] at g2;rw[n1];exact⟨⟨_,g2,rfl⟩,h _ g2 ⟨_,g1,rfl,rfl⟩ λc o q=>Ã _ (Ã _ q)⟩
theorem Af(hh:A.handled=none){it l:Ì}{xs:Zo}(n:l≠it):Draws P w A it [it,l] xs.size (λi x=>xs[i]?=some x) (λi h=>h.IsTupleIter it l i/\h.IsTuple l xs) where
 live:=λi h q=>by obtain⟨⟨o,e,_⟩,_⟩:=q;exact⟨o,e⟩
 frame:=λi h h' q k=>by
  obtain⟨⟨o,e,r⟩,⟨o',e',r'⟩⟩:=q;exact⟨⟨o,k it (by simp) _ e,r⟩,⟨o',k l (by simp) _ e',r'⟩⟩
 item:=λi s Q E hi q k=>ig q.1 q.2 (x:=xs[i]) (by simp[hi]) λh' h1 h2=>k _ h' s.toks (by simp[hi]) ⟨h1,q.2.extBut h2.extBut n⟩ h2
 done:=λs Q E q k=>gw hh q.1 q.2 (by simp) λh' e h1 h2=>k h' e h1 h2
end
theorem B1{P:â}{w:ó}{A:ö}(b:Bool)(hh:A.handled=none){it l:Ì}{xs:Zo}(n:l≠it):Draws P w A it [it,l] xs.size (λi x=>xs[i]?=some x) (λi h=>i7 b h it l i/\rV b h l xs):=match b with
 |true=>Draws.list hh it l n xs|false=>Af hh n
def NH(b:Bool)(K:Â)(a:Ì):It:=
 ⟨λi H=>∃ xs x,ua b K H a xs/\xs[i]?=some x,
  λi H v H'=>∃ T,v=.ref T/\H T=none/\∀ xs x,ua b K H a xs->xs[i]?=some x->H'=upd H T (.tup [.int i,x]),
  λi H=>∃ xs,ua b K H a xs/\xs.length=i⟩
theorem Ag{P:â}{w:ó}{K:Â}{es:Zm}{ek:Nat}{ep:Pos}{a e it:Ì}{b:Bool}(h1:e≠it)(h2:a≠e)(h3:a≠it) :
 Turn P w K (.Tuple es ek ep) (NH b K a) [e,it] e (λi h=>(∃ old,IsEnum h e it i old)/\i7 b h it a i) where
 mem:=by simp
 obj:=λi h st c hc=>by
  obtain⟨⟨old,he⟩,st⟩:=st;obtain⟨o1,g1,d1,_⟩:=st.obj;simp only[ü,p9,or_false] at hc;rcases hc with rfl | rfl
  ·exact⟨_,he,λv e=>by cases e⟩
  ·exact⟨_,g1,d1⟩
 keep:=λi h h' st k=>by
  obtain⟨⟨old,he⟩,st⟩:=st;obtain⟨o1,g1,_,r1⟩:=st.obj;exact⟨⟨old,k e (by simp) _ he⟩,r1 h' (k it (by simp) _ g1)⟩
 item:=by
  intro X hP hw hK hc i aa s σ H E I hf st hg;subst hP hw hK;obtain⟨xs,x,hq,hx⟩:=hg;obtain⟨v1,rv,p1,_,z1⟩:=I.rW hq;obtain⟨u,hu,ru⟩:=rv.get hx;obtain⟨⟨old,he⟩,hi⟩:=st;have hl:i < v1.toArray.size:=by simpa using (ç.mp hu).1
  refine wpAny_pyNext_enum_itemD (B1 (A:=X.A.in1) b (by exact I.ok.hd hc) h3) he ⟨hi,p1⟩ hl h1 (by simp[h1,h2.symm]) λy g1 tk hy ge gs gT sz kp=>⟨_,rfl,?_⟩
  have hy':v1[i]?=some y:=by simpa using hy
  rw[hu] at hy';cases hy';refine wpAny_letOwnedTupleGo_enum (s:={ s with heap:=g1,toks:=tk + 1 }) ge λg2 ge2 sb=>?_;have hT:H s.heap.objs.size=none:=I.aV.fresh (Ñ _);have kall:∀ c o,c ∉ [e,it]->s.heap.get? c=some o->g2.get? c=some o:=λc o hc q=>by
   simp only[ü,p9,or_false,not_or] at hc;exact sb.extBut _ _ hc.1 (kp c o hc.1 hc.2 q)
  have I2:Inv X aa σ H { s with heap:=g2,toks:=tk + 1 }:=I.ng (t':=tk + 1) hf kall;have fT:kH X aa H s.heap.objs.size:=I.mS (Ñ _) hT;have gT2:g2.get? s.heap.objs.size=some { cls:=.type "tuple",data:=.seq #[.int i tk,u] }:=sb.extBut _ _ (λq=>Qt _ (by have:=á he;rw[← q] at this;exact this)) gT
  have I3:Inv X aa σ (upd H s.heap.objs.size (.tup [.int i,x])) { s with heap:=g2,toks:=tk + 1 }:=I2.yu fT I.sz (I2.aV.BH hT (ar:=[.int i tk,u]) (.cons ⟨_,rfl⟩ (.cons ru .nil)) (by show 2<=sizeLine;rw[Qy];decide) ⟨_,gT2,rfl,_,rfl⟩)
  refine⟨.ref s.heap.objs.size,_,I3,rfl,⟨_,rfl,hT,λxs' x' e1 e2=>?_⟩,⟨⟨_,ge2⟩,by obtain⟨o,q1,_,q2⟩:=gs.1.obj;exact q2 _ (sb.extBut _ _ h1.symm q1)⟩,λc hc=>?_⟩
  ·rw[z1 _ e1] at e2;rw[hx] at e2;cases e2;rfl
  ·rw[ai]
   ·exact(hf c hc).1
   ·intro q;simp only[ü,p9,or_false] at hc;rcases hc with hc | hc
    ·exact Qt _ (by have:=á he;rw[← hc,q] at this;exact this)
    ·obtain⟨o,ho,_⟩:=i7.obj hi;exact Qt _ (by have:=á ho;rw[← hc,q] at this;exact this)
 done:=by
  intro X hP hw hK hc i aa s σ H E I hf st hg;subst hP hw hK;obtain⟨xs,hq,rfl⟩:=hg;obtain⟨v1,rv,p1,_,z1⟩:=I.rW hq;obtain⟨⟨old,he⟩,hi⟩:=st;refine wpAny_pyNext_enum_endD (B1 (A:=X.A.in1) (xs:=v1.toArray) b (by exact I.ok.hd hc) h3) he ⟨by rw[show v1.toArray.size=xs.length by simpa using rv.length.symm];exact hi,p1⟩ λg kp=>⟨rfl,I.ng (t':=s.toks) hf λc o hcn q=>?_⟩
  simp only[ü,p9,or_false,not_or] at hcn;exact kp c o hcn.2 q
 self:=λ_ _ _ _ _ st h=>by obtain⟨⟨_,he⟩,_⟩:=st;exact wpAny_pyIter_enum he h
def LK(K:Â)(ta:TA):TI:=λσ H R=>ta σ H λvs H1=>∃ b a,vs=[.ref a]/\(∃ xs,ua b K H1 a xs)/\R (NH b K a) H1
theorem xf(hl:rV b s.heap l xs)
 (h:∀ h',IsEnum h' (s.heap.objs.size + 1) s.heap.objs.size 0 .none->i7 b h' s.heap.objs.size l 0->(∀ c o,s.heap.get? c=some o->h'.get? c=some o)->Q (.ref (s.heap.objs.size + 1)) { s with heap:=h' }) :
  Ô (à P w) A (call (.type "enumerate") [.ref l]) Q E s:=match b,hl,h with
 |true,hl,h=>call_enumerate_list hl λh' a b _ c=>h h' a b c|false,hl,h=>xc hl h
theorem Ah:õ "enumerate"=some (.type "enumerate"):=by decide +kernel
theorem Fe{X:Cx}{a:Ù}{es:Zm}{ek:Nat}{ep:Pos}{ta:TA}{p pos:Pos}(hg:Gl X "enumerate")(hm:X.mg "enumerate"=none)(ha:PA X [a] ta)(hs:þ [a] X.env=[(false,eval a X.env)]:=by rfl) :
  PI X (.Tuple es ek ep) (.Call (.Name "enumerate" p) [a] [] pos) (LK X.K ta):=by
 intro aa s σ H R I h;refine Call_ (hY I hg hm Ah (QA (b7 (ha pos aa s σ H _ I h) λus s1 ⟨vs,H1,I1,r1,q1⟩=>?_) (by rw[hs];rfl) (by rfl)))
 obtain⟨b,l1,e,⟨xs,hq1⟩,q⟩:=q1;subst e;obtain⟨u,rfl,r⟩:=vals1 r1;cases r;obtain⟨v1,rv1,p1,a1,_⟩:=I1.rW hq1;refine xf p1 λh' he h1 kp=>wpAny_pyIter_enum (s:={ s1 with heap:=h' }) he ?_;refine⟨_,[s1.heap.objs.size + 1,s1.heap.objs.size],_,_,H1,rfl,I1.kept (t':=s1.toks) kp,Ag (Nat.succ_ne_self _) (Ý (Ry a1)) (Ý a1),⟨⟨_,he⟩,h1⟩,λc hc=>?_,q⟩;have hc':s1.heap.objs.size<=c:=by
  simp only[ü,p9,or_false] at hc;rcases hc with rfl | rfl
  ·exact RY _ 1
  ·exact Ñ _
 exact I1.mS hc' (I1.aV.fresh hc')
end L2
namespace HT
open PySem PySem.W PyProof.Rows
set_option maxRecDepth 100000
section
variable {P:â}{w:ó}{A:ö}{E:Å->É->Prop}{s:É}
theorem qe{a b c:Int}{n:Nat}(hh:A.handled=none)(hr:WT s.heap r a b c t u v)(hs:T8 a b c=true)(hn:Rf a b c=n)(hl:n<=2 ^ 24)
 (hQ:∀ (h':ø) (tk:Nat) (acc:Zo),(∀ b o,s.heap.get? b=some o->h'.get? b=some o)->s.heap.objs.size<=h'.objs.size->WR (λi v=>∃ t,v=.int (a + i * c) t) acc n->Q acc.toList { s with heap:=h',toks:=tk }):Ô (à P w) A (WL (.ref r)) Q E s:=by
 unfold WL;refine À (U2 (QY PySem.F.entry_proto_collect ?_));rw[QV PySem.F.plain_proto_collect _];show Ô _ A.in1 (X2 [] >>= λl=>YB (.builtin "list.__iadd__" ⟨[l,.ref r],[]⟩)) _ _ s;refine À (ÿ (Ê ⟨S7 Wb _,QY PySem.F.entry_list_iadd ?_⟩));rw[QV Wb _];show Ô _ A.in1 (Rl (.ref s.heap.objs.size) (.ref r) (.ref s.heap.objs.size)) _ _ { s with heap:=s.heap.push (QW "list" #[] 0) };have hS:(s.heap.push (QW "list" #[] 0)).get? s.heap.objs.size=some { cls:=.type "list",data:=.seq #[] 0 }:=Ò _ rfl;refine QM (wpAny_extend_range (A:=A) (s:={ s with heap:=s.heap.push (QW "list" #[] 0) }) (R:=λx s'=>x=.ok (.ret (.ref s.heap.objs.size))/\∃ h' tk acc c',s'={ s with heap:=h',toks:=tk }/\(∀ b o,s.heap.get? b=some o->h'.get? b=some o)/\h'.get? s.heap.objs.size=some { cls:=.type "list",dict:=none,data:=.seq acc c',slots:=#[] }/\WR (λi v=>∃ t,v=.int (a + i * c) t) acc n) hh (Ã _ hr) hs hn hl _ (.ref s.heap.objs.size) 0 hS λh' tk acc c' hk hS' hi=>⟨rfl,h',tk,acc,c',rfl,λb o e=>hk b o (Ý (á e)) (Ã _ e),hS',hi⟩) (λfin s' h=>?_) λe s' h=>?_
 ·have go:∀ s',(∃ h' tk acc c',s'={ s with heap:=h',toks:=tk }/\(∀ b o,s.heap.get? b=some o->h'.get? b=some o)/\h'.get? s.heap.objs.size=some { cls:=.type "list",dict:=none,data:=.seq acc c',slots:=#[] }/\WR (λi v=>∃ t,v=.int (a + i * c) t) acc n)->Ô (à P w) A (match ò s.heap.objs.size with
   |ò a=>do
    match (← load a).data with
     |Data.seq xs _=>pure xs.toList|_=>Yw "internal:collect"
   |_=>Yw "internal:collect") Q E s':=λs' ⟨h',tk,acc,c',e,hk,hS',hi⟩=>by
   subst e;show Ô _ A (load s.heap.objs.size >>= _) _ _ _;exact À (W0 hS' (Ê (hQ h' tk acc hk (Rj (á hS')) hi)))
  cases fin with
  |done f =>
   obtain⟨e,h⟩:=h;cases e;exact go _ h
  |again c'=>exact⟨h.1,RP h.2 λx s'' hx=>by obtain⟨rfl,hx⟩:=hx;exact go _ hx⟩
 ·exact absurd h.1 (by simp)
open AutoSeq1 (wpAny_loadPart')
theorem mU{a b c:Int}{n:Nat}(hh:A.handled=none)(hr:WT s.heap r a b c t u v)(hs:T8 a b c=true)(hn:Rf a b c=n)(hl:n<=200000)
 (hQ:∀ (h':ø) (tk:Nat) (acc:Zo),(∀ b o,s.heap.get? b=some o->h'.get? b=some o)->s.heap.objs.size<=h'.objs.size->WR (λi v=>∃ t,v=.int (a + i * c) t) acc n->Q (.ref h'.objs.size) { s with heap:=h'.push { cls:=.type "tuple",data:=.seq acc },toks:=tk }) :
  TF (à P w) A (.call (.builtin "tuple.__new__") ⟨[.type "tuple",.ref r],[]⟩) (wants Q E) s:=by
 refine WH ?_;show Ô _ A.in1 (do checkBuiltinCall "tuple.__new__" ⟨[.type "tuple",.ref r],[]⟩;YB (.builtin "tuple.__new__" ⟨[.type "tuple",.ref r],[]⟩)) _ _ s;refine À (Ww (PySem.F.newCall_tuple_1 _) (Ê ⟨S7 Wa _,QY PySem.F.entry_tuple_new ?_⟩));rw[QV Wa _];have k1:=sub_tuple_self;have k2:=init_tuple_lookup;have k3:=madeHere_tuple;have k4:s.TypeIs (.ref r) "range":=⟨_,hr,rfl⟩
 wp_walk using So k4,qe (n:=n) (show A.in1.handled=none from hh) hr hs hn ∅
 intro h' tk acc hk hz hi;show Ô _ _ (Tr acc.toList.toArray >>= λv=>ret v) _ _ _;unfold Tr;rw[Ts];refine À (ÿ (Ê (hQ h' tk acc hk hz hi)) (by show acc.size<=_;rw[hi.1,Qy];omega))
theorem tuple_range{a b c:Int}{n:Nat}(hh:A.handled=none)(hr:WT s.heap r a b c t u v)(hs:T8 a b c=true)(hn:Rf a b c=n)(hl:n<=200000)
 (hQ:∀ (h':ø) (tk:Nat) (acc:Zo),(∀ b o,s.heap.get? b=some o->h'.get? b=some o)->s.heap.objs.size<=h'.objs.size->WR (λi v=>∃ t,v=.int (a + i * c) t) acc n->Q (.ref h'.objs.size) { s with heap:=h'.push { cls:=.type "tuple",data:=.seq acc },toks:=tk }):Ô (à P w) A (call (.type "tuple") [.ref r]) Q E s:=by
 refine callType_codes (Q₁:=λobj s₁=>s₁.TypeIs obj "tuple"/\Q obj s₁) Us (PySem.F.typeCall_tuple_1 _) PySem.F.entry_object_init (mU hh hr hs hn hl λh' tk acc hk hz hi=>⟨⟨_,Ò _ rfl,rfl⟩,hQ h' tk acc hk hz hi⟩) λobj s₁ h₁=>?_;exact⟨h₁.1,PySem.F.args_object_init_2 obj _,object_init_meets Us.init.lookup Us.made 1e1 P w A.in1 _ s₁ ⟨h₁.1,rfl,h₁.2⟩⟩
end
end HT
namespace L2
open PySem PySem.Spec PyProof.Rows
theorem c9.there(x:c9 P w H h a o):∃ u,h.get? a=some u:=by
 cases o with
 |lst xs=>obtain⟨_,_,_,_,e⟩:=x;exact⟨_,e⟩
 |tup xs=>obtain⟨_,_,_,o,e,_⟩:=x;exact⟨_,e⟩
 |dK kvs=>obtain⟨_,_,_,_,o,_,_,e,_⟩:=x;exact⟨_,e⟩
 |dT kvs=>obtain⟨_,_,_,_,o,_,_,e,_⟩:=x;exact⟨_,e⟩
 |set S n=>obtain⟨o,_,_,_,e,_⟩:=x;exact⟨_,e⟩
 |ins C dx fs=>obtain⟨_,_,_,e,_⟩:=x;exact⟨_,e⟩
 |own y=>obtain⟨_,e⟩:=x;exact⟨_,e⟩
 |xd fs=>obtain⟨_,⟨_,_,_,e,_⟩,_⟩:=x;exact⟨_,e⟩
 |pI lo hi=>obtain⟨_,_,_,e⟩:=x;exact⟨_,e⟩
 |frz ob u=>obtain⟨e,_⟩:=x;exact⟨_,e⟩
 |tbl ps=>exact⟨_,(show h.get? a=some _ from x)⟩|met f y=>exact⟨_,(show h.get? a=some _ from x)⟩|ext φ=>obtain⟨_,⟨_,e⟩,_⟩:=x;exact⟨_,e⟩
def OL(B:ø)(fs:Zr)(H':Hp)(h h':ø):Prop:=∀ b u,h'.get? b=some u->b ∉ fs->((∃ o,h.get? b=some o)\/H' b≠none)->B.get? b=some u
def jE(P:â)(w:ó):Ba:=λouter H s E e s'=>∃ (a:Ì) (cls a0:Å) (H':Hp) (B:ø),e=.ref a/\s'.os=s.os/\Um s'.gens/\Un (hV outer) [] H H' s.heap s'.heap/\jD P w H' s'.heap /\
 Heap.FlyingW B outer a cls a0 s'.heap/\H' a=none/\OL B (hV outer) H' s.heap s'.heap/\E cls (some a) H'
section
variable {X:Cx}{aa:List (Ì × Obj)}{σ:St}{H H':Hp}{s s':É}{B h'':ø}{a:Ì}{cls a0:Å}{E:XK}
theorem r9(hS:X.stack=X.env::X.outer)(hx:X.ex=[])(hf:X.env.frame=some X.env.locals)(I:Inv X aa σ H s)(os:s'.os=s.os)(bare:Um s'.gens)(un:Un (hV X.stack) [] H H' s.heap s'.heap)(aV:jD X.prog X.w H' s'.heap)
 (bB:OL B (hV X.stack) H' s.heap s'.heap) (na:H' a=none) (fl:Heap.FlyingW B X.outer a cls a0 h'') (sm:s'.heap.UpToSlots h'') (he:E cls (some a) H'):jE X.prog X.w X.outer X.H₀ X.s₀ E (.ref a) { s' with heap:=h'' }:=by
 have hfs:hV X.stack=X.env.locals::hV X.outer:=by rw[hS];unfold hV;rw[QC,hf]
 have U1:=I.base;rw[hx] at U1;have U:Un (hV X.stack) [] X.H₀ H' X.s₀.heap s'.heap:=(U1.mono (λb hb=>by rw[hfs];exact È _ hb) λb hb=>hb).trans un
 have nL:∀ b o,X.s₀.heap.get? b=some o->b ∉ hV X.outer->b ∉ hV X.stack:=λb o e hn hm=>by
  rw[hfs] at hm;rcases ß.mp hm with z | z
  ·exact absurd (á e) (by rw[z];exact Ye.mpr I.ok.above)
  ·exact hn z
 have frN:∀ b∈hV X.stack,H' b=none:=λb hb=>by
  obtain⟨_,o,ho,_⟩:=I.stack.mem hb;exact un.free b o ho (I.kF b hb) (by simp)
 have old:∀ b o,X.s₀.heap.get? b=some o->b ∉ hV X.outer->∃ u,s'.heap.get? b=some u/\B.get? b=some u:=λb o e hn=>by
  obtain⟨o1,e1⟩:=U1.there b o e (by simp)
  obtain⟨o2,e2⟩:=un.there b o1 e1 (by simp)
  exact⟨o2,e2,bB b o2 e2 (nL b o e hn) (.inl ⟨o1,e1⟩)⟩
 have HI:∀ b,H' b≠none->∃ u,s'.heap.get? b=some u/\B.get? b=some u:=λb hb=>by
  obtain⟨o,e⟩:=VS.mp hb;obtain⟨u,eu⟩:=(aV b o e).there;exact⟨u,eu,bB b u eu (λhm=>by rw[frN b hm] at e;cases e) (.inr hb)⟩
 refine⟨a,cls,a0,H',B,rfl,os.trans I.os,bare,⟨λb o e n hb _=>?_,λb o e n hb _=>?_,λb o e n hb=>U.free b o e n hb,λb o e _=>?_,U.tups,U.frzs,U.tbls⟩,λc o e=>?_,fl,na,λb u e hn hor=>?_,he⟩
 ·obtain⟨u,e1,e2⟩:=old b o e hb;have e3:=U.keep b o e n (nL b o e hb) (by simp)
  rw[e1] at e3;cases e3;exact fl.1 b _ e2
 ·obtain⟨sl,e1⟩:=U.slot b o e n (by rw[hfs];exact È _ hb) (by simp)
  obtain⟨_,o',ho',hd⟩:=I.ok.nJ.mem hb;rw[e] at ho';cases ho';obtain⟨sl',e2⟩:=sm b _ e1 hd;exact⟨sl',e2⟩
 ·by_cases hb:b∈hV X.outer
  ·obtain⟨_,o',ho',_⟩:=fl.2.2.1.mem hb;exact⟨o',ho'⟩
  ·obtain⟨u,_,e2⟩:=old b o e hb;exact⟨u,fl.1 b _ e2⟩
 ·refine(aV c o e).mR (λb u hb q=>?_) (λ_ q=>q) λ_ _ q=>q;have hbn:H' b≠none:=by
   rcases hb with rfl | hb
   ·rw[e];exact λz=>nomatch z
   ·rw[hb];exact λz=>nomatch z
  obtain⟨u',e1,e2⟩:=HI b hbn;rw[q] at e1;cases e1;exact fl.1 b _ e2
 ·have:∃ u',B.get? b=some u':=by
   rcases hor with ⟨o,ho⟩ | hor
   ·obtain⟨u',_,e2⟩:=old b o ho hn;exact⟨u',e2⟩
   ·obtain⟨u',_,e2⟩:=HI b hor;exact⟨u',e2⟩
  obtain⟨u',e2⟩:=this;have e3:=fl.1 b _ e2;rw[e] at e3;cases e3;exact e2
end
section
variable {P:â}{w:ó}{K:Â}{mg:Str->Zn}{base:ø}{N:Zk}{qual:Str}{scope:tv}{f:Ì}{cd:Å}{A:ö}{outer:List Env}{s₀:É}{H₀:Hp}{E:XK}
theorem Ai(I:Inv (gu (jE P w) P w K mg base N qual scope f cd A outer s₀ H₀ E) aa σ H s)(hx:Y1 s.heap h' e cls vs)(he:E cls (some e) H) :
 (gu (jE P w) P w K mg base N qual scope f cd A outer s₀ H₀ E).xe (.ref e) { s with heap:=h' }:=by
 have hin:∀ env∈(gu (jE P w) P w K mg base N qual scope f cd A outer s₀ H₀ E).stack,∀ a,env.frame=some a->a∈hV (gu (jE P w) P w K mg base N qual scope f cd A outer s₀ H₀ E).stack:=λenv he a ha=>RT.mpr ⟨env,he,ha⟩;have kB:(hideAll s.heap (hV (gu (jE P w) P w K mg base N qual scope f cd A outer s₀ H₀ E).stack)).StaysIn s.heap:=λb o q=>of_hideAll _ q;show Ô _ _ (X3 _ _) _ _ _;refine wpAny_leaves_madeW (base:=hideAll s.heap (hV (gu (jE P w) P w K mg base N qual scope f cd A outer s₀ H₀ E).stack)) (h:=s.heap) I.ok.frames rfl kB (PySem.W.funFrames_hide I.stack hin) hx λh'' t fl _ _ sm=>?_;have na:H e=none:=by
  cases z:H e with
  |none=>rfl|some o=>obtain⟨u,eu⟩:=(I.aV e o z).there;rw[hx.new] at eu;cases eu
 refine r9 (X:=gu (jE P w) P w K mg base N qual scope f cd A outer s₀ H₀ E) (s':={ s with heap:=h' }) rfl rfl rfl I rfl I.bare (Un.kept hx.keeps) (I.aV.kept hx.keeps) (λb u q hn hor=>?_) na fl sm he;have:∃ o,s.heap.get? b=some o:=by
  rcases hor with hor | hor
  ·exact hor
  ·obtain⟨o,z⟩:=VS.mp hor;exact(I.aV b o z).there
 obtain⟨o,ho⟩:=this;have:=hx.keeps b o ho;have q':h'.get? b=some u:=q;rw[this] at q';cases q';exact hideAll_get _ ho hn
theorem LL:Passes (jE P w) (gu (jE P w) P w K mg base N qual scope f cd A outer s₀ H₀ E) E:=by
 intro aa σ H s e s' I h;obtain⟨a,cls,a0,H',B,rfl,os,bare,un,aV,fl,na,bB,he⟩:=h;show Ô _ _ (X3 _ _) _ _ _;refine wpAny_leaves_onW I.ok.frames rfl fl λh'' fl' sm=>?_;exact r9 (X:=gu (jE P w) P w K mg base N qual scope f cd A outer s₀ H₀ E) (s':=s') rfl rfl rfl I os bare un aV bB na fl' sm he
end
theorem Ff{K:Â}{h:ø}{C:Ì}{bmB:Zj}{newId:String}(KX:K.In h)(hq:SO K C bmB newId=true) :
 ∃ bm N nm q bs hdct sn sub ab col dd k0 k1 k2 k3 k5 mN,h.get? C=some (excClassObj nm q C N bs bm hdct sn sub ab col dd k0 k1 k2 k3 k5 newId)/\h.Ns N mN/\mN "__init__"=none/\OwnTail h bmB bm:=by
 unfold SO at hq;split at hq
 case h_2=>cases hq
 case h_1 dd cd sl ho =>
  split at hq
  case h_2=>cases hq
  case h_1 C' bm k0 k1 k2 k3 n k5 hm hs =>
   simp only[Á,beq_iff_eq,î] at hq;obtain⟨⟨⟨⟨⟨z1,z2⟩,hdel⟩,ht⟩,aV⟩,hni⟩:=hq;subst z1 z2;cases cd with
   |mk nm bs mro ns qn hd sn sub ab col del =>
    dsimp only at hm hdel aV hni;subst hm hdel;have esl:sl=#[k0,k1,k2,k3,some (.builtin n),k5]:=by cases sl with | mk l=>simp only at hs;rw[hs]
    subst esl;refine⟨bm,ns,nm,qn,bs,hd,sn,sub,ab,col,dd,k0,k1,k2,k3,k5,h.nsMap ns,KX _ _ ho,?_,PySem.W.nsMap_none_of_in KX aV hni,PySem.W.tail_of_in KX ht⟩;exact .of_isNs (PySem.W.isNs_of_in KX aV)
def n6(X:Cx)(E:XK):Prop:=∀ (aa:List (Ì × Obj)) (σ:St) (H:Hp) (s:É) (h':ø) (e:Ì) (cls:Å) (vs:Zj),Inv X aa σ H s->Y1 s.heap h' e cls vs->E cls (some e) H->X.xe (.ref e) { s with heap:=h' }
def Aj{P:â}{w:ó}{K:Â}{mg:Str->Zn}{base:ø}{N:Zk}{qual:Str}{scope:tv}{f:Ì}{cd:Å}{A:ö}{outer:List Env}{s₀:É}{H₀:Hp}{E:XK} :
 n6 (gu (jE P w) P w K mg base N qual scope f cd A outer s₀ H₀ E) E:=λ_ _ _ _ _ _ _ _ I hx he=>Ai I hx he
def II(E:XK)(C:Ì)(t:TA):TS:=λ_ σ H=>t σ H λvs H1=>vs.length<=sizeLine/\∀ e,H1 e=none->E (.ref C) (some e) H1
section
variable {X:Cx}{x:Str}{C:Ì}{E:XK}{e₀:Ù}{rest:Zm}{t:TA}{np cpos pos:Pos}
theorem B2(hE:n6 X E)(hc:X.calm=true)(hg:Gl X x)(hm:X.mg x=some (.ref C))(hq:SO X.K C [.type "ValueError",.type "Exception",.type "BaseException",.type "object"] "ValueError.__new__"=true)(ha:PA X (e₀::rest) t)
 (hdb:(x == ("__debug__":Str))=false:=by decide) (he:þ (e₀::rest) X.env=(false,eval e₀ X.env)::þ rest X.env:=by rfl) (hpl:(Uq cpos (þ rest X.env)).any (·.1)=false:=by rfl) :
  PS X (.Raise (some (.Call (.Name x np) (e₀::rest) [] cpos)) none pos) (II E C t):=by
 intro aa s σ H D I h;obtain⟨bm,N,nm,q,bs,hdct,sn,sub,ab,col,dd,k0,k1,k2,k3,k5,mN,hC,hN,hni,T⟩:=Ff I.ok.mod.kin hq;refine wpAny_Raise_call_subT (C:=C) (nm:=nm) (q:=q) (N:=N) (bs:=bs) (bm:=bm) (hdct:=hdct) (sn:=sn) (sub:=sub) (ab:=ab) (col:=col) (dd:=dd) (k0:=k0) (k1:=k1) (k2:=k2) (k3:=k3) (k5:=k5)
  VM (mN:=mN) (T.hasType VM.hasBase) (I.ok.hd hc) (by rw[he];exact hpl) hni (m7 I hg hm ⟨rfl,?_⟩ hdb)
 have k:=ha cpos aa s σ H _ I h;rw[he] at k ⊢;refine Xe (b7 k λus s2 ⟨vs,H2,I2,r,z,q⟩=>⟨rfl,by show us.length<=_;rw[← r.length];exact z,I2.bk _ _ hC,hN.keeps I2.bk,T.keeps I2.bk,λh' e hx=>?_⟩)
 refine hE aa σ H2 s2 h' e _ us I2 hx (q e ?_);cases z:H2 e with
 |none=>rfl|some o=>obtain⟨u,eu⟩:=(I2.aV e o z).there;rw[hx.new] at eu;cases eu
end
open PySem PySem.Spec PyProof.Rows PySem.W PySem.Builtin PySem.Builtin.ObjectAttr PySem.Builtin.Getset_descriptor
section
variable {prog:â}{w:ó}{A:ö}{E:Å->É->Prop}{K:Â}{h:ø}{gg:Array YL}{d:Drawn}{t:Nat}{os:WO}{x D:Ì}{ox:Obj}
structure Fg(K:PySem.W.Frag)(D:Addr):Prop where
 ga:findIn K (.ref D) "__getattribute__"=some (some (.builtin "BaseException.__getattribute__"))
 gh:findIn K (.ref D) "__getattr__"=some none
 mb:mroIn K D (.type "BaseException")=some true
 mo:mroIn K D (.type "object")=some true
 fc:findIn K (.ref D) "__class__"=some (some (.builtin "object.__class__"))
 fg:specialIn K (.builtin "object.__class__") "__get__"=some (some (.builtin "getset_descriptor.__get__"))
 ft:takesIn K (.builtin "object.__class__")=some true
def excAt(a D:Ì)(h:ø):Prop:=∃ ox,h.get? a=some ox/\ox.cls=.ref D
theorem excAt.ty{M:Model}{a D:Ì}{h:ø}(p:excAt a D h):Looks M h (Y4 (.ref a)) (.ref D):=by
 obtain⟨ox,e,c⟩:=p;rw[← c];exact(Looks.ld e).andThen .now
end
end L2
namespace L2
open PySem PySem.Spec PyProof.Rows
section
variable {X:Cx}{aa:List (Ì × Obj)}{σ:St}{H H':Hp}{s s':É}{B h4:ø}
theorem B3(I:Inv X aa σ H s)(os:s'.os=s.os)(bare:Um s'.gens)(un:Un (hV X.stack) [] H H' s.heap s'.heap)(aV:jD X.prog X.w H' s'.heap)(bB:OL B (hV X.stack) H' s.heap s'.heap)(kB:B.StaysIn h4)(sm:s'.heap.UpToSlots h4) :
 Inv X aa σ H' { s' with heap:=h4 }:=by
 have frN:∀ b∈hV X.stack,H' b=none:=λb hb=>by
  obtain⟨_,o,ho,_⟩:=I.stack.mem hb;exact un.free b o ho (I.kF b hb) (by simp)
 have fr4:∀ b o,s.heap.get? b=some o->b∈hV X.stack->∃ sl,h4.get? b=some { o with slots:=sl }:=λb o e hb=>by
  obtain⟨sl,e1⟩:=un.slot b o e (I.kF b hb) hb (by simp)
  obtain⟨_,o',ho',hd⟩:=I.stack.mem hb;rw[e] at ho';cases ho';obtain⟨sl',e2⟩:=sm b _ e1 hd;exact⟨sl',e2⟩
 have old:∀ b o,s.heap.get? b=some o->b ∉ hV X.stack->∃ u,s'.heap.get? b=some u/\h4.get? b=some u:=λb o e hn=>by
  obtain⟨o2,e2⟩:=un.there b o e (by simp)
  exact⟨o2,e2,kB b _ (bB b o2 e2 hn (.inl ⟨o,e⟩))⟩
 refine I.G0 (s':={ s' with heap:=h4 }) (ch:=[]) os ⟨λb o e n hb _=>?_,λb o e n hb _=>fr4 b o e hb,un.free,λb o e _=>?_,un.tups,un.frzs,un.tbls⟩ (λc o e=>?_) bare λb hb=>absurd hb (by simp)
 ·obtain⟨u,e1,e2⟩:=old b o e hb;have e3:=un.keep b o e n hb (by simp)
  rw[e1] at e3;cases e3;exact e2
 ·by_cases hb:b∈hV X.stack
  ·obtain⟨sl,e1⟩:=fr4 b o e hb;exact⟨_,e1⟩
  ·obtain⟨u,_,e2⟩:=old b o e hb;exact⟨u,e2⟩
 ·refine(aV c o e).mR (λb u hb q=>?_) (λ_ q=>q) λ_ _ q=>q;have hbn:H' b≠none:=by
   rcases hb with rfl | hb
   ·rw[e];exact λz=>nomatch z
   ·rw[hb];exact λz=>nomatch z
  exact kB b _ (bB b u q (λhm=>hbn (frN b hm)) (.inr hbn))
theorem Inv.IJ{T:Ì}{o:HO}(I:Inv X aa σ H s)(nT:H T=none)(n0:X.s₀.heap.get? T=none)(hL:T≠X.env.locals)(hc:∀ x c,X.env.cells.lookup x=some c->c≠T)(hp:∀ p∈X.pn++aa,p.1≠T)(new:c9 X.prog X.w (upd H T o) s.heap T o) :
 Inv X aa σ (upd H T o) s:=by
 have u:=I.base;refine⟨I.ok,I.os,I.bare,⟨u.keep,u.slot,λb ob e n hx=>?_,u.there,λb xs e=>?_,λb ob xs e=>?_,λb ps e=>?_⟩,I.loc,I.cell,?_,λx c e=>?_,λp hpp=>?_,λc v e=>?_,I.len⟩
 ·rw[ai (λz=>by rw[z,n0] at e;cases e)];exact u.free b ob e n hx
 ·have z:=u.tups b xs e;rw[ai (aB z nT)];exact z
 ·have z:=u.frzs b ob xs e;rw[ai (aB z nT)];exact z
 ·obtain⟨more,z⟩:=u.tbls b ps e;exact⟨more,by rw[ai (aB z nT)];exact z⟩
 ·rw[ai hL.symm];exact I.free
 ·rw[ai (hc x c e)];exact I.freeC x c e
 ·obtain⟨e,n,r⟩:=I.pin p hpp;exact⟨e,by rw[ai (hp p hpp)];exact n,r⟩
 ·by_cases hcT:c=T
  ·subst hcT;rw[aO] at e;cases e;exact new
  ·rw[ai hcT] at e;exact(I.aV c v e).mR (λ_ _ _ q=>q) (λb q=>by rw[ai (aB q nT)];exact q) λb xs q=>by rw[ai (aB q nT)];exact q
end
structure uH(P:Program)(w:World)(K:PySem.W.Frag)(mg:Str->Option Value)(base:Heap)(CX:Ba)(k:Nat)(f:Addr)(fd:FuncData)(ps:List Str)(sp:Shared->Sp):Prop where
 len:∀ s vs H Q E,sp s vs H Q E->vs.length=ps.length
 run:∀ (A:Around) (outer:List Env) (s:Shared) (H:Hp) (args:Args) (us:List Value) (vs:List V) (Q:VK) (E:XK),dW k A->uj P w K mg base A outer s H->BindsTo s fd args (ps.zip us)->Vals vs us->sp s vs H Q E ->
  codeAny (model P w) A (.call (.ref f) args) (CR CX outer P w H s Q E) s
theorem IK{CX:Ba}{P:â}{w:ó}{K:Â}{mg:Str->Zn}{base:ø}{k:Nat}{f:Ì}{name qual:Str}{params:Su}{body:List RM}{scope:tv}{dV kV doc pm cdv ct oc:Å}{an od:Zl}
 {osl:Array Zn}{N ps:Zk}{sp:É->Sp} (lk:K.lookup f=some ⟨oc,od,.func (fnOf name qual params body scope dV kV doc pm an cdv ct),osl⟩) (hcd:X9 K cdv qual=true) (S:fb N ps scope)
 (len:∀ s vs H Q E,sp s vs H Q E->vs.length=ps.length)
 (hbody:∀ (A:ö) (outer:List Env) (s:É) (H:Hp) (vs:List V) (Q:VK) (E:XK),dW k (A.deeper (T2 qual scope s.heap.objs.size f cdv))->sp s vs H Q E ->
   ∃ t,mr (gu CX P w K mg base N qual scope f cdv A outer s H E) body t/\t { nx:=λ_ H'=>Q .bp H',rt:=Q } (start N vs) H) :
  uH P w K mg base CX (k + 1) f (fnOf name qual params body scope dV kV doc pm an cdv ct) ps sp:=by
 refine⟨len,λA outer s H args us vs Q E hr e0 hb r hsp=>?_⟩;have hl:=len _ _ _ _ _ hsp;have KX:K.In s.heap:=e0.mod.kin.keeps λb o e=>(e0.bs b o e).1;have lim:s.heap.NoLimit:=e0.mod.nolimit.keeps λb o e=>(e0.bs b o e).1;have hkind:∀ y∈ps.zip us,scope.names.lookup y.1=some .local\/(scope.names.lookup y.1=some .cell/\((XM (s.heap.objs.size + 1) scope.names []).lookup y.1).isSome=true):=λ⟨n,v⟩ hy=>by
  rcases S.par n (Vg hy).1 with q | q
  ·exact .inl q
  ·exact .inr ⟨q,UO _ _ _ (.inl q)⟩
 refine Ym hr.depth (KX _ _ lk) rfl S.co S.gen rfl (codeRec_of KX hcd) (hb _ _ _ _ ?_);refine WZ S.kind hkind λenv he s1 x=>?_;subst he;refine⟨lim.keeps x.toInCall.keep,codeAny_func ?_⟩;obtain⟨t,ht,hq⟩:=hbody A outer s H vs Q E (hr.deeper _) hsp;have I:Inv (gu CX P w K mg base N qual scope f cdv A outer s H E) [] (start N vs) H s1:=qB S hr.hd e0 hl r x;refine QM (ht [] s1 (start N vs) H _ I hq) (λfl s' hs=>?_) λe s' hs=>hs;have fin:∀ {σ':St}{H':Hp}{v:V}{u:Å},Inv (gu CX P w K mg base N qual scope f cdv A outer s H E) [] σ' H' s'->RelV v u->Q v H'->CE outer P w H s Q u s':=
  λ{σ' H' v u} J rv q=>⟨v,H',J.os,J.bare,J.base,J.aV,rv,q⟩
 cases fl with
 |ret u =>
  obtain⟨v,σ',H',J,rv,q⟩:=hs;exact fin J rv q
 |next =>
  obtain⟨σ',H',J,q⟩:=hs;exact fin (v:=V.bp) (u:=è) J rfl q
 |brk =>
  obtain⟨_,_,_,q⟩:=hs;exact My q
 |cont =>
  obtain⟨_,_,_,q⟩:=hs;exact My q
def jW(P:â)(w:ó)(K:Â)(mg:Str->Zn)(base:ø)(N:Zk)(qual:Str)(scope:tv)(f:Ì)(cd:Å)(cl:List (Str × Ì))(A:ö)(outer:List Env)(s:É)(H:Hp)(E:XK):Cx where
 prog:=P
 w:=w
 K:=K
 mg:=mg
 base:=base
 A:=A.deeper (WK qual scope s.heap.objs.size f cd cl)
 N:=N
 s₀:=s
 H₀:=H
 env:=WK qual scope s.heap.objs.size f cd cl
 outer:=outer
 stack:=WK qual scope s.heap.objs.size f cd cl::outer
 ex:=[]
 calm:=true
 fn:=λ_=>false
 pn:=[]
 xe:=λe s'=>Ô (à P w) (A.deeper (WK qual scope s.heap.objs.size f cd cl)) (X3 (WK qual scope s.heap.objs.size f cd cl) e) (λ_ s''=>jE P w outer H s E e s'') (λe' s''=>jE P w outer H s E e' s'') s'
section
variable {P:â}{w:ó}{K:Â}{mg:Str->Zn}{base:ø}{N:Zk}{qual:Str}{scope:tv}{f:Ì}{cd:Å}{cl:List (Str × Ì)}{A:ö}{outer:List Env}{s₀:É}{H₀:Hp}{E:XK}
theorem Fh:Passes (jE P w) (jW P w K mg base N qual scope f cd cl A outer s₀ H₀ E) E:=by
 intro aa σ H s e s' I h;obtain⟨a,cls,a0,H',B,rfl,os,bare,un,aV,fl,na,bB,he⟩:=h;show Ô _ _ (X3 _ _) _ _ _;refine wpAny_leaves_onW I.ok.frames rfl fl λh'' fl' sm=>?_;exact r9 (X:=jW P w K mg base N qual scope f cd cl A outer s₀ H₀ E) (s':=s') rfl rfl rfl I os bare un aV bB na fl' sm he
structure jX(scope:Scope)(cl:List (Str × Addr))(N:List Str)(vs:List V)(H:Hp)(h:Heap):Prop where
 inj:∀ x y c,cl.lookup x=some c->cl.lookup y=some c->x=y
 has:∀ x,(scope.names.lookup x=some .cell\/scope.names.lookup x=some .free)->∃ c,cl.lookup x=some c
 cell:∀ x c,cl.lookup x=some c->∃ v,h.IsCell c v
 free:∀ x c,cl.lookup x=some c->H c=none
 val:∀ (i:Nat) (x:Str) (v:V),N[i]?=some x->vs[i]?=some v->scope.names.lookup x=some .free/\∃ c u,cl.lookup x=some c/\RelV v u/\h.IsCell c (some u)
 len:vs.length=N.length
theorem yC(e0:uj P w K mg base A outer s₀ H₀)(hd:A.handled=none)(hk:scope.kind=.function)(FR:jX scope cl N vs H₀ s₀.heap)(hns:h₁.Ns s₀.heap.objs.size λ_=>none)
  (hkp:∀ b o,s₀.heap.get? b=some o->h₁.get? b=some o) :
  Inv (jW P w K mg base N qual scope f cd cl A outer s₀ H₀ E) [] (vs.map some) H₀ { s₀ with heap:=h₁,toks:=t }:=by
 have noA:∀ b:Ì,b ∉ (jW P w K mg base N qual scope f cd cl A outer s₀ H₀ E).ex:=λb z=>absurd (show b∈([]:Zr) from z) (by simp)
 have cel:∀ c v,s₀.heap.IsCell c v->h₁.IsCell c v:=λc v ⟨o,ho,hd⟩=>⟨o,hkp c o ho,hd⟩;refine⟨⟨e0.mod,hk,rfl,rfl,Ñ _,FR.inj,FR.has,(λ_ _ z=>nomatch z),(λ_=>hd),WY e0.frames,.inr ⟨rfl,rfl⟩,λb z=>absurd z (noA b),e0.bs,e0.bsz,λb _ _=>noA b,λb z=>absurd z (noA b),e0.nJ,e0.frf⟩,
  rfl,e0.bare,Un.kept hkp,⟨_,hns,λi x v h1 h2 h3=>?_⟩,λx c h=>?_,e0.aV.fresh (Ñ _),FR.free,λp hp=>absurd (show p∈([]:List (Ì × Obj)) from hp) (by simp),e0.aV.kept hkp,?_⟩
 ·have hv:vs[i]?=some v:=by
   rw[Ø] at h2;cases e:vs[i]? with
   |none=>rw[e] at h2;cases h2
   |some a=>rw[e] at h2;cases h2;rfl
  obtain⟨k,c,u,ec,r,z⟩:=FR.val i x v h1 hv;exact⟨u,r,.inr ⟨.inr k,c,ec,cel c _ z⟩⟩
 ·obtain⟨v,z⟩:=FR.cell x c h;exact⟨v,cel c v z⟩
 ·rw[Ä];exact FR.len
end
def recAt(c:Ì)(qual:Str):ø->Prop:=λh=>h.CodeRec (.ref c) qual
theorem n8{c:Ì}{qual:Str}{h1 h2:ø}(h:recAt c qual h1)(k:∀ o,h1.get? c=some o->h2.get? c=some o):recAt c qual h2:=by
 obtain⟨c',oc,vs,tq,e,ho,hd,hq⟩:=h;cases e;exact⟨c,oc,vs,tq,rfl,k _ ho,hd,hq⟩
section
variable {P:â}{w:ó}{K:Â}{mg:Str->Zn}{base:ø}{N:Zk}{qual:Str}{scope:tv}{f c':Ì}{cl:List (Str × Ì)}{s₀:É}{H₀:Hp}{k:Nat}{pm ctv cls:Å}{params:Su}{body:Ù}{vs:List V}
theorem jX.later{outer:List Env}{H:Hp}{s:É}(FR:jX scope cl N vs H₀ s₀.heap)(un:Un (hV outer) [] H₀ H s₀.heap s.heap):jX scope cl N vs H s.heap:=by
 have cel:∀ x c v,cl.lookup x=some c->s₀.heap.IsCell c v->s.heap.IsCell c v:=λx c v e ⟨o,ho,hd⟩=>by
  obtain⟨sl,e1⟩:=un.any ho (FR.free x c e) (by simp)
  exact⟨_,e1,hd⟩
 refine⟨FR.inj,FR.has,λx c e=>?_,λx c e=>?_,λi x v h1 h2=>?_,FR.len⟩
 ·obtain⟨v,z⟩:=FR.cell x c e;exact⟨v,cel x c v e z⟩
 ·obtain⟨v,o,ho,_⟩:=FR.cell x c e;exact un.free c o ho (FR.free x c e) (by simp)
 ·obtain⟨k,c,u,ec,r,z⟩:=FR.val i x v h1 h2;exact⟨k,c,u,ec,r,cel x c _ ec z⟩
end
def Tab(H:Hp)(P:Ì)(qual:Str):Prop:=∃ ps:Zo,H P=some (.tbl ps)/\Ws ps.toList/\∀ pos c,Vk pos ps.toList=some c->∃ c',c=.ref c'/\H c'=some (.ext (recAt c' qual))
theorem xg{line col:Int}{pos':Pos}{c c2:Å}(tl:Zj)(h:Ws tl)(e:Vk pos' (tl++[Ra line,Ra col,c])=some c2):c2=c\/Vk pos' tl=some c2:=by
 fun_induction Ws tl with
 |case1 =>
  simp only[RN,Vk,Ra] at e;split at e
  ·cases e;exact .inl rfl
  ·cases e
 |case2 a t b u x rest ih =>
  simp only[T3,Vk] at e ⊢;split at e
  ·rename_i hc;rw[if_pos hc];exact .inr e
  ·rename_i hc;rw[if_neg hc];exact ih h e
 |case3 tl h1 h2=>exact h.elim
theorem B4(hf:∀ y∈cJ.names,y.2=.free->∃ c,env.cells.lookup y.1=some c):∃ cl,W3 cJ env=pure cl/\(∀ x c,cl.lookup x=some c->env.cells.lookup x=some c)/\∀ y∈cJ.names,y.2=.free->∃ c,cl.lookup y.1=some c:=by
 obtain⟨cl,e,h1,_,h3⟩:=m9 env cJ.names [] hf (λx c z=>by simp at z)
 refine⟨cl,?_,h1,h3⟩;unfold W3
 first
  |(rw[show(forIn cJ.names ([]:List (Str × Ì)) _:Sem _)=_ from e];rfl)
  |(simp only[bind_pure];exact e)
structure nh(P:Addr)(H H':Hp):Prop where
 same:∀ b o,b≠P->H b=some o->H' b=some o
section
variable {X:Cx}{aa:List (Ì × Obj)}{σ:St}{H:Hp}{s:É}{c P:Ì}{qual:Str}{params:Su}{body:Ù}{cJ:tv}{lpos:Pos}{A:ö}{Q:Å->É->Prop}{E:Å->É->Prop}
theorem B5(I:Inv X aa σ H s)(hdef:defaultsOf params X.env=([],[]))(hcode:X.env.code=.ref c)(hhd:Rv X.K c P=true)(TB:Tab H P qual)(hqu:X.env.qual++"<lambda>"=qual)
 (hbm:∃ bm ob,X.mg "__builtins__"=some (.ref bm)/\bm≠S4/\X.base.get? bm=some ob/\ob.cls=.type "module"/\ob.dict=some S4/\ob.data=.plain)
 (hfr:∀ y∈cJ.names,y.2=.free->∃ c,X.env.cells.lookup y.1=some c)
 (k:∀ (cl:List (Str × Ì)) (f c':Ì) (pm ctv:Å) (h2:ø) (tk:Tok) (H2:Hp),(∀ x c,cl.lookup x=some c->X.env.cells.lookup x=some c)->(∀ y∈cJ.names,y.2=.free->∃ c,cl.lookup y.1=some c) ->
   Inv X aa σ H2 { s with heap:=h2,toks:=tk }->Tab H2 P qual->nh P H H2->(∃ o,h2.get? f=some o/\o.data=.func (VQ "<lambda>" qual params body cJ cl pm (.ref c') ctv))->H2 f=none->H2 c'=some (.ext (recAt c' qual))->s.heap.objs.size<=f ->
   Q (.ref f) { s with heap:=h2,toks:=tk }):Ô (à X.prog X.w) A (eval (.Lambda params body cJ lpos) X.env) Q E s:=by
 refine PySem.W.kla_eval hdef ?_;rw[hqu];obtain⟨cl,ecl,cl1,cl2⟩:=B4 hfr;obtain⟨ps,hP,ht,hall⟩:=TB;have hPt:s.heap.get? P=some (R7 ps):=I.aV P _ hP;have hg:=I.mod.glob.keeps I.bk;have bsN:∀ b o,X.base.get? b=some o->b≠P:=λb o e z=>by have:=(I.bs b o e).2;rw[z,hP] at this;cases this
 have hgP:ì≠P:=by obtain⟨o,_,_,e,_⟩:=I.mod.glob;exact bsN _ o e
 obtain⟨bm,ob,b1,b2,b3,b4,b5,b6⟩:=hbm;have hbGl:bm≠mainGlobals:=λq=>by
  obtain⟨o,es,ep,e,hd,_⟩:=I.mod.glob;rw[q,e] at b3;(cases b3;rw[hd] at b6;cases b6)
 have BA:s.heap.BuiltinsAt X.mg P:=⟨bm,ob,b1,b2,hbGl,bsN _ _ b3,I.bk _ _ b3,b4,b5,b6⟩;have CH:=codeHd_of_K I.t9 hhd;cases hca:Vk lpos ps.toList with
 |some cv =>
  obtain⟨c',rfl,hc'⟩:=hall lpos cv hca;refine PySem.W.kla_makeFunctionHit ecl I.ok.glob hg hcode CH hPt ht hca BA λctv h' tk hk hsz=>?_;have kp:∀ b o,s.heap.get? b=some o->(h'.push { cls:=.type "function",data:=.func (VQ "<lambda>" qual params body cJ cl ((X.mg "__name__").getD .none) (.ref c') ctv) }).get? b=some o:=λb o e=>Ã _ (hk b o e);have nf:H h'.objs.size=none:=I.aV.fresh hsz;exact k cl h'.objs.size c' _ ctv _ tk H cl1 cl2 (I.kept (t':=tk) kp) ⟨ps,hP,ht,hall⟩ ⟨λ_ _ _ e=>e⟩ ⟨_,Ò _ rfl,rfl⟩ nf hc' hsz
 |none =>
  refine PySem.W.kla_makeFunction ecl I.ok.glob hg hcode CH hPt ht hca hgP BA λc' ctv h' tk hx hge hlt hrec htb=>?_;have lP:P < s.heap.objs.size:=á hPt;have cP:c'≠P:=R0 (Þ lP hge);have nC:H c'=none:=I.aV.fresh hge;have kp:∀ b o,b≠P->s.heap.get? b=some o->(h'.push (Xj "<lambda>" qual params body cJ cl ((X.mg "__name__").getD .none) c' ctv)).get? b=some o:=λb o hb e=>Ã _ (hx b o hb e);have tb:(h'.push (Xj "<lambda>" qual params body cJ cl ((X.mg "__name__").getD .none) c' ctv)).get? P=some (R7 (ps++#[Ra lpos.line,Ra lpos.col,.ref c'])):=Ã _ htb;have rc:recAt c' qual (h'.push (Xj "<lambda>" qual params body cJ cl ((X.mg "__name__").getD .none) c' ctv)):=n8 hrec λo q=>Ã _ q;have h2P:upd (upd H P (.tbl (ps++#[Ra lpos.line,Ra lpos.col,.ref c']))) c' (.ext (recAt c' qual)) P=some (.tbl (ps++#[Ra lpos.line,Ra lpos.col,.ref c'])):=by rw[ai cP.symm];exact aO
  have oth:∀ b,b≠P->b≠c'->upd (upd H P (.tbl (ps++#[Ra lpos.line,Ra lpos.col,.ref c']))) c' (.ext (recAt c' qual)) b=H b:=λb h1 h2=>by rw[ai h2,ai h1]
  have neC:∀ b o,H b=some o->b≠c':=λb o e=>aB e nC;have I2:Inv X aa σ (upd (upd H P (.tbl (ps++#[Ra lpos.line,Ra lpos.col,.ref c']))) c' (.ext (recAt c' qual))) { s with heap:=h'.push (Xj "<lambda>" qual params body cJ cl ((X.mg "__name__").getD .none) c' ctv),toks:=tk }:=by
   have nP:∀ b,H b=none->b≠P:=λb n z=>by rw[z,hP] at n;cases n
   refine I.step (g':=s.gens) (d':=s.drawn) (ch:=[]) (λb hb=>absurd hb (by simp)) (λb o _ _ _ e n=>kp b o (nP b n) e) (λb o _ _ _ e n=>⟨o.slots,kp b o (nP b n) e⟩) (λb o _ e n=>?_) (λb o _ e=>?_) (λb xs e=>?_) (λb o u e=>?_) (λb qs e=>?_) (λm hm=>?_) (λb u e=>?_) I.bare
   ·rw[oth b (nP b n) (Ý (Þ (á e) hge))];exact n
   ·by_cases hb:b=P
    ·subst hb;exact⟨_,tb⟩
    ·exact⟨o,kp b o hb e⟩
   ·rw[oth b (λz=>by rw[z,hP] at e;cases e) (neC b _ e)];exact e
   ·rw[oth b (λz=>by rw[z,hP] at e;cases e) (neC b _ e)];exact e
   ·by_cases hb:b=P
    ·subst hb;rw[hP] at e;cases e;exact⟨_,h2P⟩
    ·exact⟨#[],by rw[oth b hb (neC b _ e),e];simp⟩
   ·obtain⟨o,es,ep,ho,r⟩:=hm;exact⟨o,es,ep,kp _ o (nP _ I.free) ho,r⟩
   ·by_cases hbc:b=c'
    ·subst hbc;rw[aO] at e;cases e;obtain⟨_,oc,_,_,e1,e2,_⟩:=id rc;cases e1;exact⟨rc,⟨oc,e2⟩,λh1 h2 p kk=>n8 p kk⟩
    ·by_cases hb:b=P
     ·subst hb;rw[h2P] at e;cases e;exact tb
     ·rw[oth b hb hbc] at e;refine(I.aV b u e).mR (λb2 u2 hb2 q=>kp b2 u2 (λz=>?_) q) (λb2 q=>?_) λb2 xs q=>?_
      ·rcases hb2 with y | y
       ·exact hb (y.symm.trans z)
       ·rw[z,hP] at y;cases y
      ·rw[oth b2 (λz=>by rw[z,hP] at q;cases q) (neC b2 _ q)];exact q
      ·rw[oth b2 (λz=>by rw[z,hP] at q;cases q) (neC b2 _ q)];exact q
  have lf:s.heap.objs.size<=h'.objs.size:=Rj (Sy hge hlt);refine k cl h'.objs.size c' _ ctv _ tk _ cl1 cl2 I2 ⟨_,h2P,?_,λpos cc e=>?_⟩ ⟨λb o hb e=>by rw[oth b hb (neC b _ e)];exact e⟩ ⟨_,Ò _ rfl,rfl⟩ ?_ aO lf
  ·rw[Xu];exact TriplesOk_snoc _ _ _ _ ht
  ·rw[Xu] at e;rcases xg _ ht e with z | z
   ·exact⟨c',z,aO⟩
   ·obtain⟨c2,rfl,hc2⟩:=hall pos cc z;exact⟨c2,rfl,by rw[oth c2 (λy=>by rw[y,hP] at hc2;cases hc2) (neC c2 _ hc2)];exact hc2⟩
  ·rw[oth _ (R0 (Þ lP lf)) (R0 hlt)];exact I.aV.fresh lf
end
def BMain(mg:Str->Zn)(h:ø):Prop:=∃ bm ob,mg "__builtins__"=some (.ref bm)/\bm≠S4/\h.get? bm=some ob/\ob.cls=.type "module"/\ob.dict=some S4/\ob.data=.plain
def IL{P:â}{w:ó}{X:Cx}:Passes (jE P w) X (λ_ _ _=>False):=λ_ _ _ _ _ _ _ h=>by
 obtain⟨_,_,_,_,_,_,_,_,_,_,_,_,_,e⟩:=h;exact e.elim
theorem Tab.same{H H':Hp}{P:Ì}{q:Str}(t:Tab H P q)(s:af H H'):Tab H' P q:=by
 obtain⟨ps,e,tr,h⟩:=t;refine⟨ps,s _ _ e,tr,λpos c hc=>?_⟩;obtain⟨c',e1,e2⟩:=h pos c hc;exact⟨c',e1,s _ _ e2⟩
def G7(P:â)(w:ó)(H₀:Hp)(s₀:É)(f:Ì)(fd:Rt):Prop:=∀ (outer:List Env) (s:É) (H:Hp),Un (hV outer) [] H₀ H s₀.heap s.heap->af H₀ H->jD P w H s.heap->∃ c d sl,s.heap.get? f=some ⟨c,d,.func fd,sl⟩
structure xh(P:Program)(w:World)(K:PySem.W.Frag)(mg:Str->Option Value)(base:Heap)(k:Nat)(f:Addr)(H₀:Hp)(s₀:Shared)(cls:Value)(RR:Hp->Prop):Prop where
 fn:∃ fd,G7 P w H₀ s₀ f fd
 run:∀ (A:Around) (outer:List Env) (s:Shared) (H:Hp),dW k A->uj P w K mg base A outer s H->Un (hV outer) [] H₀ H s₀.heap s.heap->af H₀ H ->
  codeAny (model P w) A (.call (.ref f) ⟨[],[]⟩) (CR (jE P w) outer P w H s (λ_ _=>False) λc _ H'=>c=cls/\RR H') s
section
variable {P:â}{w:ó}{K:Â}{mg:Str->Zn}{base:ø}{N:Zk}{qual:Str}{scope:tv}{f c':Ì}{cl:List (Str × Ì)}{s₀:É}{H₀:Hp}{k:Nat}{pm ctv cls:Å}{params:Su}{body:Ù}{vs:List V}
theorem xj{RR:Hp->Prop}(hf:G7 P w H₀ s₀ f (VQ "<lambda>" qual params body scope cl pm (.ref c') ctv))(hc:H₀ c'=some (.ext (recAt c' qual)))
 (hk:scope.kind=.function) (hco:scope.isCoroutine=false) (hgen:scope.isGenerator=false) (hcell:∀ x∈scope.names,x.2≠.cell)
 (hb:W4 (VQ "<lambda>" qual params body scope cl pm (.ref c') ctv) ⟨[],[]⟩=pure []) (FR:jX scope cl N vs H₀ s₀.heap)
 (hbody:∀ (A:ö) (outer:List Env) (s:É) (H:Hp),dW k (A.deeper (WK qual scope s.heap.objs.size f (.ref c') cl))->af H₀ H ->
   ∃ t,PE (jW P w K mg base N qual scope f (.ref c') cl A outer s H λc _ H'=>c=cls/\RR H') body t/\t (vs.map some) H λ_ _=>False) :
  xh P w K mg base (k + 1) f H₀ s₀ cls RR:=by
 refine⟨⟨_,hf⟩,λA outer s H hr e0 un sm=>?_⟩;obtain⟨c0,d0,sl,hof⟩:=hf outer s H un sm e0.aV;have hrec:s.heap.CodeRec (.ref c') qual:=(e0.aV c' _ (sm _ _ hc)).1;have lim:s.heap.NoLimit:=e0.mod.nolimit.keeps λb o e=>(e0.bs b o e).1;refine kla_callFunE hr.depth hof rfl hco hgen rfl hrec ?_;rw[hb];refine Ê (U3 hcell (λy hy=>absurd hy (by simp)) (λh₁ hns hsb=>⟨lim.fresh _ hsb,?_⟩) hk)
 show TF _ _ (.expr body (WK qual scope s.heap.objs.size f (.ref c') cl)) _ _;have hkeep1:∀ b o,s.heap.get? b=some o->h₁.get? b=some o:=λb o e=>hsb.extBut b o (Ý (á e)) (Ã _ e);obtain⟨t,ht,hq⟩:=hbody A outer s H (hr.deeper _) sm;have I:Inv (jW P w K mg base N qual scope f (.ref c') cl A outer s H λc _ H'=>c=cls/\RR H') [] (vs.map some) H { s with heap:=h₁,toks:=s.toks + 0 }:=yC e0 hr.hd hk (FR.later un) hns hkeep1;refine kla_codeExpr (QM (ht [] _ _ H _ I hq) (λv s' hv=>?_) λe s' he=>he);obtain⟨_,_,_,_,z⟩:=hv;exact z.elim
end
def fnAt(f:Ì)(fd:Rt):ø->Prop:=λh=>∃ o,h.get? f=some o/\o.data=.func fd
theorem Ak(h:fnAt f fd h1)(k:∀ o,h1.get? f=some o->h2.get? f=some o):fnAt f fd h2:=by
 obtain⟨o,e,d⟩:=h;exact⟨o,k _ e,d⟩
def G7.at(h:H₀ f=some (.ext (fnAt f fd))):G7 P w H₀ s₀ f fd:=λouter s H _ sm aV=>by
 obtain⟨⟨⟨c,d,dt,sl⟩,e,hd⟩,_⟩:=aV f _ (sm _ _ h);have hd:dt=.func fd:=hd;subst hd;exact⟨_,_,_,e⟩
def LM(X:Cx)(P:Ì)(qual:Str)(params:Su)(body:Ù)(cJ:tv):TE:=λσ H Q=>Tab H P qual/\∀ (cl:List (Str × Ì)) (f c':Ì) (pm ctv:Å) (H2:Hp),(∀ x c,cl.lookup x=some c->X.env.cells.lookup x=some c)->(∀ y∈cJ.names,y.2=.free->∃ c,cl.lookup y.1=some c) ->
 Tab H2 P qual->nh P H H2->H f=none->H2 f=some (.ext (fnAt f (VQ "<lambda>" qual params body cJ cl pm (.ref c') ctv)))->H2 c'=some (.ext (recAt c' qual))->Q (.ref f) H2
section
variable {X:Cx}{c P:Ì}{qual:Str}{params:Su}{body:Ù}{cJ:tv}{lpos:Pos}
theorem IM(hcode:X.env.code=.ref c)(hhd:Rv X.K c P=true)(hqu:X.env.qual++"<lambda>"=qual)(hdef:defaultsOf params X.env=([],[]))
 (hbm:∃ bm ob,X.mg "__builtins__"=some (.ref bm)/\bm≠S4/\X.base.get? bm=some ob/\ob.cls=.type "module"/\ob.dict=some S4/\ob.data=.plain)
 (hfr:∀ y∈cJ.names,y.2=.free->X.env.kindOf y.1=some .cell):PE X (.Lambda params body cJ lpos) (LM X P qual params body cJ):=by
 intro aa s σ H Q I h;obtain⟨TB,q⟩:=h;refine B5 I hdef hcode hhd TB hqu hbm (λy hy hf=>I.ok.has y.1 (.inl (hfr y hy hf))) λcl f c' pm ctv h2 tk H2 cl1 cl2 I2 TB2 KB ho nf hc hsz=>?_;have old:∀ {b:Ì}{o:Obj},s.heap.get? b=some o->b≠f:=λe z=>by subst z;exact Qt _ (Þ (á e) hsz)
 have n0:X.s₀.heap.get? f=none:=by
  cases e:X.s₀.heap.get? f with
  |none=>rfl|some o=>exact absurd (Þ (á e) (ê I.sz hsz)) (Qt _)
 have hL:f≠X.env.locals:=λz=>by
  obtain⟨m,⟨o,_,_,e,_⟩,_⟩:=I.loc;exact old e z.symm
 have hC:∀ x c,X.env.cells.lookup x=some c->c≠f:=λx c e=>by
  obtain⟨v,o,e1,_⟩:=I.cell x c e;exact old e1
 have hP:∀ p∈X.pn++aa,p.1≠f:=λp hp=>old (I.pin p hp).1;have fP:f≠P:=λz=>by
  obtain⟨ps,e,_⟩:=TB;subst z;exact old (I.aV f _ e) rfl
 have fC:f≠c':=λz=>by subst z;rw[nf] at hc;cases hc
 have Hf:H f=none:=I.aV.fresh hsz;have I3:=Inv.IJ (T:=f) (o:=.ext (fnAt f (VQ "<lambda>" qual params body cJ cl pm (.ref c') ctv))) I2 nf n0 hL hC hP ⟨ho,by obtain⟨o,e,_⟩:=ho;exact⟨o,e⟩,λh1 h2 p kk=>Ak p kk⟩
 refine⟨.ref f,_,I3,rfl,q cl f c' pm ctv _ cl1 cl2 ?_ ⟨λb o hb e=>?_⟩ Hf aO ?_⟩
 ·obtain⟨ps,e,tr,k⟩:=TB2;refine⟨ps,by rw[ai fP.symm];exact e,tr,λpos cc h=>?_⟩
  obtain⟨c2,e1,e2⟩:=k pos cc h;exact⟨c2,e1,by rw[ai (λz=>by rw[z,nf] at e2;cases e2)];exact e2⟩
 ·rw[ai (λz=>by rw[z,Hf] at e;cases e)];exact KB.same b o hb e
 ·rw[ai fC.symm];exact hc
end
structure LT where
 f:Addr
 c':Addr
 cl:List (Str × Addr)
 pm:Value
 ctv:Value
 cJ:Scope
 body:Expr
 N:List Str
def noArgs:Arguments:=⟨[],[],none,[],[],none,[]⟩
def LT.fd(t:LT)(qual:Str):FuncData:=VQ "<lambda>" qual noArgs t.body t.cJ t.cl t.pm (.ref t.c') t.ctv
structure LN(X:Cx)(cJ:Scope)(N:List Str):Prop where
 hfr:∀ y∈cJ.names,y.2=.free->X.env.kindOf y.1=some .cell
 hnc:∀ y∈cJ.names,y.2≠.cell
 hNf:∀ x∈N,cJ.names.lookup x=some .free
 lk:cJ.kind=.function
 lco:cJ.isCoroutine=false
 lge:cJ.isGenerator=false
structure Fi(X:Cx)(qual:Str)(H:Hp)(t:LT):Prop where
 form:LN X t.cJ t.N
 fn:H t.f=some (.ext (fnAt t.f (t.fd qual)))
 rc:H t.c'=some (.ext (recAt t.c' qual))
 cl1:∀ x c,t.cl.lookup x=some c->X.env.cells.lookup x=some c
 cl2:∀ y∈t.cJ.names,y.2=.free->∃ c,t.cl.lookup y.1=some c
structure OM(X:Cx)(σ:St)(t:LT)(vs:List V):Prop where
 len:vs.length=t.N.length
 vals:∀ (i:Nat) (x:Str) (v:V),t.N[i]?=some x->vs[i]?=some v->∃ j:Nat,X.N[j]?=some x/\σ[j]?=some (some v)
theorem Fi.frees{X:Cx}{qual:Str}{σ:St}{H:Hp}{t:LT}{vs:List V}{aa:List (Ì × Obj)}{s:É}(k:Fi X qual H t)(kv:OM X σ t vs)(I:Inv X aa σ H s):jX t.cJ t.cl t.N vs H s.heap:=by
 refine⟨λx y c e1 e2=>I.ok.inj x y c (k.cl1 x c e1) (k.cl1 y c e2),λx hx=>?_,λx c e=>I.cell x c (k.cl1 x c e),λx c e=>I.freeC x c (k.cl1 x c e),λi x v h1 h2=>?_,kv.len⟩
 ·rcases hx with hx | hx
  ·exact absurd rfl (k.form.hnc _ (QN hx))
  ·exact k.cl2 _ (QN hx) rfl
 ·have hf:=k.form.hNf x (ð h1);have mem:=QN hf;have kc:X.env.kindOf x=some .cell:=k.form.hfr _ mem rfl;obtain⟨j,e1,e2⟩:=kv.vals i x v h1 h2;obtain⟨m,_,hl⟩:=I.loc;obtain⟨u,r,l⟩:=hl j x v e1 e2 (Or.inr (Or.inl kc));obtain⟨c2,ec2⟩:=k.cl2 _ mem rfl;refine⟨hf,c2,u,ec2,r,?_⟩;rcases l with ⟨kl,_⟩ | ⟨_,c3,ec3,z⟩
  ·rw[kc] at kl;cases kl
  ·have:=k.cl1 _ _ ec2;rw[ec3] at this;cases this;exact z
def Raises(X:Cx)(qual:Str)(k:Nat)(H:Hp)(t:LT)(vs:List V)(cls:Å)(RR:Hp->Prop):Prop:=∀ (A:ö) (outer:List Env) (s:É) (H3:Hp),dW k (A.deeper (WK qual t.cJ s.heap.objs.size t.f (.ref t.c') t.cl))->af H H3 ->
 ∃ u,PE (jW X.prog X.w X.K X.mg X.base t.N qual t.cJ t.f (.ref t.c') t.cl A outer s H3 λc _ H'=>c=cls/\RR H') t.body u/\u (vs.map some) H3 λ_ _=>False
def IP(H:Hp)(qual:Str)(t:LT):Prop:=H t.f=some (.ext (fnAt t.f (t.fd qual)))/\H t.c'=some (.ext (recAt t.c' qual))
def B6{X:Cx}{qual:Str}{k:Nat}{H:Hp}{s:É}{t:LT}{vs:List V}{cls:Å}{RR:Hp->Prop}(fm:LN X t.cJ t.N)(h:IP H qual t)(FR:jX t.cJ t.cl t.N vs H s.heap)(r:Raises X qual k H t vs cls RR):xh X.prog X.w X.K X.mg X.base (k + 1) t.f H s cls RR:=
 xj (G7.at h.1) h.2 fm.lk fm.lco fm.lge fm.hnc rfl FR r
structure B7(P:Program)(w:World)(K:PySem.W.Frag)(mg:Str->Option Value)(base:Heap)(k:Nat)(f:Addr)(H₀:Hp)(s₀:Shared)(gv:Hp->VK->Prop):Prop where
 fn:∃ fd,G7 P w H₀ s₀ f fd
 run:∀ (A:Around) (outer:List Env) (s:Shared) (H:Hp) (Q:VK),dW k A->uj P w K mg base A outer s H->Un (hV outer) [] H₀ H s₀.heap s.heap->af H₀ H->gv H Q ->
  codeAny (model P w) A (.call (.ref f) ⟨[],[]⟩) (CR (jE P w) outer P w H s Q λ_ _ _=>False) s
def Gives(X:Cx)(qual:Str)(k:Nat)(H:Hp)(t:LT)(vs:List V)(gv:Hp->VK->Prop):Prop:=∀ (A:ö) (outer:List Env) (s:É) (H3:Hp) (Q:VK),dW k (A.deeper (WK qual t.cJ s.heap.objs.size t.f (.ref t.c') t.cl))->af H H3->gv H3 Q ->
 ∃ u,PE (jW X.prog X.w X.K X.mg X.base t.N qual t.cJ t.f (.ref t.c') t.cl A outer s H3 λ_ _ _=>False) t.body u/\u (vs.map some) H3 Q
theorem Al{X:Cx}{qual:Str}{k:Nat}{H:Hp}{s₀:É}{t:LT}{vs:List V}{gv:Hp->VK->Prop}(fm:LN X t.cJ t.N)(h:IP H qual t)(FR:jX t.cJ t.cl t.N vs H s₀.heap)(r:Gives X qual k H t vs gv):B7 X.prog X.w X.K X.mg X.base (k + 1) t.f H s₀ gv:=by
 refine⟨⟨_,G7.at h.1⟩,λA outer s H3 Q hr e0 un sm hg=>?_⟩;obtain⟨c0,d0,sl,hof⟩:=G7.at (P:=X.prog) (w:=X.w) (s₀:=s₀) h.1 outer s H3 un sm e0.aV;have hrec:s.heap.CodeRec (.ref t.c') qual:=(e0.aV t.c' _ (sm _ _ h.2)).1;have lim:s.heap.NoLimit:=e0.mod.nolimit.keeps λb o e=>(e0.bs b o e).1;refine kla_callFunE hr.depth hof rfl fm.lco fm.lge rfl hrec ?_;have hb:W4 (t.fd qual) ⟨[],[]⟩=pure []:=rfl;rw[hb];refine Ê (U3 fm.hnc (λy hy=>absurd hy (by simp)) (λh₁ hns hsb=>⟨lim.fresh _ hsb,?_⟩) fm.lk)
 show TF _ _ (.expr t.body (WK qual t.cJ s.heap.objs.size t.f (.ref t.c') t.cl)) _ _;have kp:∀ b o,s.heap.get? b=some o->h₁.get? b=some o:=λb o e=>hsb.extBut b o (Ý (á e)) (Ã _ e);obtain⟨u,hu,hq⟩:=r A outer s H3 Q (hr.deeper _) sm hg;have I:Inv (jW X.prog X.w X.K X.mg X.base t.N qual t.cJ t.f (.ref t.c') t.cl A outer s H3 λ_ _ _=>False) [] (vs.map some) H3 { s with heap:=h₁,toks:=s.toks + 0 }:=yC e0 hr.hd fm.lk (FR.later un) hns kp;refine kla_codeExpr (QM (hu [] _ _ H3 _ I hq) (λv s' hv=>?_) λe s' he=>he);obtain⟨x,H',J,rv,q⟩:=hv;exact⟨x,H',J.os,J.bare,J.base,J.aV,rv,q⟩
def LO(X:Cx)(k i:Nat)(D:Ì):TS:=λDd σ H=>∃ f,σ[i]?=some (some (.ref f)) /\
 ((∃ (C:Ì) (RR:Hp->Prop),(∀ aa s,Inv X aa σ H s->xh X.prog X.w X.K X.mg X.base k f H s (.ref C) RR)/\PySem.W.exmOne X.K (.ref C) (.ref D)=some true/\∀ H',RR H'->Dd.rt .bp H') \/
  (∃ gv:Hp->VK->Prop,(∀ aa s,Inv X aa σ H s->B7 X.prog X.w X.K X.mg X.base k f H s gv)/\gv H Dd.rt))
section
variable {X:Cx}{k i:Nat}{D:Ì}{x y:Str}{p1 p2 p3 p4 p5 p6 p7 p8:Pos}
theorem Fj(hS:X.stack=X.env::X.outer)(hf:X.env.frame=some X.env.locals)(hr:dW k X.A)
 (hy:X.N[i]?=some y) (vy:HJ X.env.scope y) (dy:(y == ("__debug__":Str))=false) (cy:(y == ("__classdict__":Str))=false)
 (hg:Gl X x) (hm:X.mg x=some (.ref D)) (dx:(x == ("__debug__":Str))=false) :
 PS X (.Try [.Return (some (.Call (.Name y p1) [] [] p2)) p3] [.ExceptHandler (some (.Name x p4)) none [.Return (some (.Constant .none 0 p5)) p6] p7] [] [] p8) (LO X k i D):=by
 intro aa s σ H Dd I h;obtain⟨f,eσ,h⟩:=h;have ld:∀ {Q:Å->É->Prop}{E:Å->É->Prop},Q (.ref f) s->Ô (à X.prog X.w) X.A (eval (.Name y p1) X.env) Q E s:=λ{Q E} hq=>by
  obtain⟨m,hnm,hl⟩:=I.loc;obtain⟨u,r,l⟩:=hl i y _ hy eσ vy;cases (show u=ò f from r);rcases l with ⟨hk,hv⟩ | ⟨hk,c,hc,hcell⟩
  ·exact UJ (U4 I.ok.kind hk hnm hv hq) dy
  ·rcases hk with hk | hk
   ·exact UJ (Vq I.ok.kind hk hc hcell hq) dy
   ·exact UJ (YS I.ok.kind hk hc hcell hq cy) dy
 refine wpAny_Try_except (UC (VV (SJ (ld ?_))));rcases h with ⟨C,RR,th,he,q⟩ | ⟨gv,th,g⟩
 ·have T1:=th aa s I;obtain⟨fd,hfd⟩:=T1.fn;obtain⟨c0,d0,sl,hof⟩:=hfd X.stack s H Un.refl (af.refl H) I.aV;refine callWith_of (P:=λh=>h.get? f=some ⟨c0,d0,.func fd,sl⟩) rfl (λh e=>⟨.frame,.inl rfl,?_⟩) (evalArgs_nil3 ⟨hof,?_⟩)
  ·exact(Sr (part:=none) e).andThen .now
  refine VJ (RP (T1.run X.A X.stack s H hr I.EM Un.refl (af.refl H)) λr s1 hq=>?_);cases r with
  |ok fl =>
   cases fl with
   |ret u=>obtain⟨_,_,_,_,_,_,_,z⟩:=hq;exact z.elim
   |next=>exact My hq
   |brk=>exact My hq|cont=>exact My hq
  |error e =>
   obtain⟨a,cls,a0,H1,B,rfl,os1,bare1,un,aV,fl,na,bB,rfl,s1H⟩:=hq;refine wpAny_looks_onW (I.ok.frames.trans (by rw[hS])) hf (by rw[← hS];exact fl) λh2 held2 sm2=>?_
   refine wpAny_landsW held2 λh3 fl3 sm3=>?_;have I3:Inv X aa σ H1 { s1 with heap:=h3 }:=B3 I os1 bare1 un aV bB fl3.1 (sm2.trans sm3);have at3:excAt a C h3:=by obtain⟨oe,e1,e2⟩:=fl3.there;exact⟨oe,e1,e2⟩
   refine wpAny_handleBy_cons (codeAny_handlers_test ?_) (λz=>nomatch z);refine Te I3.ok.kind hg (WA (by rw[I3.ok.glob];exact I3.mod.glob.keeps I3.bk) hm ?_) dx
   refine(PySem.W.exm_one (h:=h3) I3.t9 at3.ty he).here ?_;refine codeAny_handlers_suite (lands_againW fl3 λh4 fl4 sm4=>?_);have I4:Inv X aa σ H1 { s1 with heap:=h4 }:=B3 I os1 bare1 un aV bB fl4.1 ((sm2.trans sm3).trans sm4);refine UC (VV (Constant_none ?_));exact⟨.bp,σ,H1,I4,rfl,q H1 s1H⟩
 ·have T1:=th aa s I;obtain⟨fd,hfd⟩:=T1.fn;obtain⟨c0,d0,sl,hof⟩:=hfd X.stack s H Un.refl (af.refl H) I.aV;refine callWith_of (P:=λh=>h.get? f=some ⟨c0,d0,.func fd,sl⟩) rfl (λh e=>⟨.frame,.inl rfl,?_⟩) (evalArgs_nil3 ⟨hof,?_⟩)
  ·exact(Sr (part:=none) e).andThen .now
  refine VJ (RP (T1.run X.A X.stack s H Dd.rt hr I.EM Un.refl (af.refl H) g) λr s2 hq=>?_);cases r with
  |ok fl =>
   cases fl with
   |ret u =>
    obtain⟨x1,H1,I1,r1,q1⟩:=I.after hq;exact⟨x1,σ,H1,I1,r1,q1⟩
   |next=>exact My hq
   |brk=>exact My hq|cont=>exact My hq
  |error e =>
   obtain⟨_,_,_,_,_,_,_,_,_,_,_,_,_,z⟩:=hq;exact z.elim
end
structure lJ(K:PySem.W.Frag)(mg:Str->Option Value)(C:Addr)(j:Nat):Prop where
 lk:Fg K C
 hd:PySem.W.hasDictIn K C=true
 ve:PySem.W.kitOne K (.ref C) (.type "ValueError")=some true
 nv:mg "ValueError"=none
 ce:∃ D,mg "ChanceError"=some (.ref D)/\PySem.W.exmOne K (.ref C) (.ref D)=some true
 lt:j < 12
end L2
namespace SS
open PySem
abbrev led(w:ó):Bool:=!(w.params.followText "set-order")
open PySem PySem.W PyProof.Rows
section
variable {P:â}{w:ó}{A:ö}{E:Å->É->Prop}{s:É}
abbrev n9(w:ó):Obj:={ cls:=.type "set",dict:=none,data:=.set #[] 0 (.fresh 0 0 (led w)) }
theorem Fl(a:Å)(h:Q (.ref s.heap.objs.size) { s with heap:=s.heap.push (n9 w) }):TF (à P w) A (.call (.builtin "set.__new__") ⟨[.type "set",a],[]⟩) (wants Q E) s:=by
 refine WH ?_;refine À (m:=checkBuiltinCall _ _) (Ww (F.newCall_set_1 a) (Ê ⟨S7 F.plain_set_new _,QY F.entry_set_new ?_⟩));rw[QV F.plain_set_new _];have hsub:=sub_set_self;obtain⟨hp,g,d,tk,os⟩:=s;unfold Ss.«set.__new__» YQ;dsimp only
 wp_walk
 refine S3 (Ê ?_);dsimp only;simp only[newObj];exact À (wpAny_alloc (Ê (Ê h)))
structure ON(P:Program)(w:World)(T:String)(l:Addr)(o it:Obj)(n:Nat)(Pv:Nat->Value->Prop)(St:Addr->Nat->Heap->Prop):Prop where
 ty:o.cls=.type T
 f1:isSubtype (.type T) (.type "set")=pure false
 f2:isSubtype (.type T) (.type "frozenset")=pure false
 f3:(Value.type T == Value.type "dict")=false
 iter:∀ (A:Around) (E:Value->Shared->Prop) (s:Shared) (Q:Value->Shared->Prop),s.heap.get? l=some o->Q (.ref s.heap.objs.size) { s with heap:=s.heap.push it }->wpAny (model P w) A (pyIter (.ref l)) Q E s
 walk:∀ (A:Around) (I:Addr),A.handled=none->l≠I->Walks P w A I [I,l] [I] n Pv (St I)
 zero:∀ h:Heap,h.get? l=some o->St h.objs.size 0 (h.push it)
end
def my(t:Rr):Nat->Nat
 |0=>0|i + 1=>t.place.getD i 0 + 1
structure se(w:World)(t:SetTable)(es:Array (Int × Value)):Prop where
 fits:t.fits es.size=true
 plain:t.plain=true
 led:t.led=led w
 below:∀ i,i<=es.size->SetTable.below t.place (my t i)=i
 small:es.size<=100
theorem fB:∀ {l:List α}{i:Nat} (h:i < l.length),(l[i]::l.eraseIdx i).Perm l
 |x::r,0,_=>.refl _|x::r,i + 1,h=>(XC x _ _).trans ((fB (l:=r) (i:=i) (W9 h)).cons x)
theorem yD(next:Nat->Nat):∀ (n k:Nat) (left:List α) (out:Array α),left.length=n->((VX next n k left out).toList).Perm (out.toList++left)
 |0,k,left,out,h=>by
  have:left=[]:=List.eq_nil_of_length_eq_zero h;subst this;simp[VX]
 |n + 1,k,left,out,h=>by
  have hl:next k % left.length < left.length:=Nat.mod_lt _ ∅
  have e:left[next k % left.length]?=some left[next k % left.length]:=List.getElem?_eq_getElem hl;unfold VX;rw[e];refine(yD next n (k + 1) _ _ (by rw[Rg hl];omega)).trans ?_
  rw[Array.toList_push,SM];exact List.Perm.append_left _ (fB hl)
theorem Am(next:Nat->Nat)(xs:Array α):(pickOrder next xs).toList.Perm xs.toList:=by
 have:=yD next xs.size 0 xs.toList #[] (by simp)
 rw[RN] at this;exact this
def ord(w:ó)(a ep:Nat)(es:Array (Int × Å)):Array (Int × Å):=if w.params.followText "set-order" then pickOrder (w.params.setOrder a ep) es else es
theorem uI(w:ó)(a ep:Nat)(es:Array (Int × Å)):(ord w a ep es).toList.Perm es.toList:=by
 unfold ord;split
 ·exact Am _ _
 ·exact .refl _
theorem oa(w:ó)(a ep:Nat)(es:Array (Int × Å)):(ord w a ep es).size=es.size:=by
 have:=(uI w a ep es).length_eq;simpa using this
def uJ(w:ó)(t:Rr)(i:Nat):Nat:=if w.params.followText "set-order" then 0 else my t i
def An(w:ó)(S ep n:Nat)(t:Rr)(i:Nat):Obj:={ cls:=.type "set_iterator",data:=.fields #[Ra (uJ w t i),Ra i,.ref S,Ra n,Ra ep] }
theorem bP:Slot "set_iterator" "__next__" "set_iterator.__next__":=.of (owner:="set_iterator") (n:="__next__") (by rw[typeLookup_type,Yn];kernel_rfl) (by decide +kernel) (by decide +kernel) (by decide +kernel) (by first | exact .inl (by decide +kernel) | exact .inr (by decide +kernel)) (by rw[TU];kernel_rfl)
theorem iQ:Slot "set_iterator" "__iter__" "set_iterator.__iter__":=.of (owner:="set_iterator") (n:="__iter__") (by rw[typeLookup_type,Yn];kernel_rfl) (by decide +kernel) (by decide +kernel) (by decide +kernel) (by first | exact .inl (by decide +kernel) | exact .inr (by decide +kernel)) (by rw[TU];kernel_rfl)
def gQ:entryFor table "set_iterator.__next__"=some Ss.«set_iterator.__next__»:=entryFor_of_tree (by kernel_rfl)
theorem og:entryFor table "set.__iter__"=some Ss.«frozenset.__iter__»:=entryFor_alias (id':="frozenset.__iter__") (by kernel_rfl) rfl (by decide +kernel) (by kernel_rfl)
theorem lK:entryFor table "set_iterator.__iter__"=some Ss.«dict_keyiterator.__iter__»:=entryFor_alias (id':="dict_keyiterator.__iter__") (by kernel_rfl) rfl (by decide +kernel) (by kernel_rfl)
theorem mz:Manifest.owners.lookup (String.ofList "rotareti_tes".toList.reverse)=some Manifest.sig_set_iterator:=by kernel_rfl
theorem iR(a:Å):argsOk "set_iterator.__next__" ⟨[a],[]⟩:=by
 unfold argsOk;rw[signature?_of (id:="set_iterator.__next__") (n:="__txen__".toList) (o:="rotareti_tes".toList) (by kernel_rfl) mz];kernel_rfl
theorem mV(a:Å):argsOk "set_iterator.__iter__" ⟨[a],[]⟩:=by
 unfold argsOk;rw[signature?_of (id:="set_iterator.__iter__") (n:="__reti__".toList) (o:="rotareti_tes".toList) (by kernel_rfl) mz];kernel_rfl
section
variable {P:â}{w:ó}{A:ö}{E:Å->É->Prop}{s:É}{S ep:Nat}{t:Rr}{es:Array (Int × Å)}{o:Obj}
theorem B8(hm:se w t es)(ho:s.heap.get? S=some o)(hx:o.ExactSet)(hd:o.data=.set (es) ep t){Q:Å->É->Prop}(h:Q (.ref s.heap.objs.size) { s with heap:=s.heap.push (An w S ep es.size t 0) }):Ô (à P w) A (pyIter (.ref S)) Q E s:=by
 have hT:s.TypeIs (.ref S) "set":=⟨o,ho,hx.1⟩;have hf:=hm.fits;have hp:=hm.plain;refine wpAny_pyIter_slot hT F.slot_set_iter (QG F.slot_set_iter hT og ?_ (F.args_set_iter_1 _));unfold Ss.«frozenset.__iter__» YN slotArgs;simp -iota only [VZ,WC,Q5,↓reduceIte,bind_assoc,QO,bne_self_eq_false];unfold YR YO;refine À (Ê (À (Ê (À (À (Vp ho hd hf (Ê ?_)))))));refine À ?_;have dr:Ô (à P w) A.in1 (setDrawn S) (λb s'=>b=false/\s'=s) E s:=by
  unfold setDrawn Y6;refine À (RO ho hd hf (À (À (S3 (Ê (Ê ⟨?_,rfl⟩))))));generalize t=t at hp;obtain⟨t1,t2,t3,t4,t5,t6,t7⟩:=t;cases hp;show(!w.params.followText "set-order"&&_)=false;cases w.params.followText "set-order" <;> rfl
 refine QM dr (λb s' hb=>?_) λ_ _ e=>e;obtain⟨rfl,rfl⟩:=hb;rw[if_neg Û];refine À (Ê ?_);refine À (wpAny_setEpoch_of ho hd hf ?_);refine À (ÿ (Ê ⟨_,rfl,"set_iterator",_,⟨_,Ò _ rfl,rfl⟩,bP.lookup,?_⟩));have e:An w S ep es.size t 0={ cls:=.type "set_iterator",data:=.fields #[Ra 0,Ra 0,.ref S,Ra (es).size,Ra ep] }:=by
  unfold An uJ;split <;> rfl
 rw[e] at h;exact h
theorem yE{i:Nat}(hm:se w t es)(hi:i<=es.size)(ho:s.heap.get? S=some o)(hd:o.data=.set (es) ep t):Ô (à P w) A (setNext S (uJ w t i) i ep) (λr s'=>s'=s/\r=(ord w S ep (es))[i]?.map λe=>(e.2,uJ w t (i + 1))) E s:=by
 have hf:=hm.fits;have hp:=hm.plain;have hl:=hm.led;unfold setNext;refine À (RO ho hd hf ?_);unfold Y6;refine À (À (S3 (Ê ?_)));dsimp only;unfold ord uJ;show Ô _ _ (if w.params.followText "set-order"=true then _ else _) _ _ _;cases hb:w.params.followText "set-order" with
 |true =>
  rw[if_pos rfl];rw[if_neg (by simp)]
  refine À ?_;unfold setWalk Y6;refine À (RO ho hd hf (À (À (S3 (Ê ?_)))));show Ô _ _ (if w.params.followText "set-order"=true then _ else _) _ _ _;rw[hb,if_pos rfl];refine À (S3 (Ê (Ê ⟨rfl,?_⟩)));simp only[↓reduceIte];rfl
 |false =>
  simp only[Q5,↓reduceIte];have hl:t.led=true:=by rw[hl];show(!w.params.followText "set-order")=true;rw[hb];rfl
  have hbl:=hm.below i hi;have hsz:t.place.size=es.size:=by
   have:=hm.fits;unfold Rr.fits at this;rw[Á,beq_iff_eq] at this;exact this.1
  have e3:my t (i + 1)=t.place.getD i 0 + 1:=rfl;rw[e3];generalize my t i=si at hbl;obtain⟨t1,t2,t3,t4,t5,t6,t7⟩:=t;cases hp;cases hl;have hbl:S1 t2 si=i:=hbl;have hsz:t2.size=es.size:=hsz;refine À (Ê (Ê ⟨rfl,?_⟩));rw[hbl];by_cases hi':i < es.size
  ·have e1:es[i]?=some es[i]:=by simp[hi']
   have e2:t2[i]?=some (t2.getD i 0):=by simp[getD,hsz,hi']
   rw[e1,e2];rfl
  ·have e1:es[i]?=none:=by simp;omega
   rw[e1];rfl
theorem B9{i:Nat}{I:Ì}(hm:se w t es)(hi:i < es.size)(ho:s.heap.get? S=some o)(hd:o.data=.set (es) ep t)(hI:s.heap.get? I=some (An w S ep es.size t i)){Q:Zn->É->Prop}
 (h:∀ v h',(ord w S ep (es))[i]?.map (·.2)=some v->Ul I s.heap h'->h'.get? I=some (An w S ep es.size t (i + 1))->Q (some v) { s with heap:=h' }):Ô (à P w) A (TL (.ref I)) Q E s:=by
 have hT:s.TypeIs (.ref I) "set_iterator":=⟨_,hI,rfl⟩;have hf:=hm.fits;unfold TL;refine À (Uo (QK (name:=QH "__next__") hT bP (QG bP hT gQ ?_ (iR _))));unfold Ss.«set_iterator.__next__» slotArgs;simp -iota only [VZ,WC,Q5,↓reduceIte,bind_assoc,QO,bne_self_eq_false];refine À (Ê ?_);refine À (wpAny_fieldsOf hI rfl ?_);dsimp only [Ra];refine À (Vp ho hd hf ?_);rw[if_neg (by simp)]
 refine À (QM (yE (i:=i) hm (Rj hi) ho hd) (λr s' hr=>?_) λ_ _ e=>e);obtain⟨rfl,rfl⟩:=hr;have hsz:i < (ord w S ep (es)).size:=by rw[oa];exact hi
 have e1:(ord w S ep (es))[i]?=some (ord w S ep (es))[i]:=by simp[hsz]
 simp -iota only [ä,e1,map_some];unfold An at hI;refine À (Q0 hI (by simp) λh1 hI1 sb1=>?_)
 refine À (Q0 hI1 (by simp) λh2 hI2 sb2=>?_)
 refine Ê ⟨_,rfl,Ê (h _ h2 (by rw[e1];rfl) (sb1.trans sb2) ?_)⟩
 unfold An;simpa [Ra] using hI2
theorem Fm{I:Ì}(hh:A.handled=none)(hm:se w t es)(ho:s.heap.get? S=some o)(hd:o.data=.set (es) ep t)(hI:s.heap.get? I=some (An w S ep es.size t es.size)){Q:Zn->É->Prop}
 (h:∀ h',Heap.ExtBut I s.heap h'->Q none { s with heap:=h' }):Ô (à P w) A (TL (.ref I)) Q E s:=by
 have hT:s.TypeIs (.ref I) "set_iterator":=⟨_,hI,rfl⟩;have hf:=hm.fits;unfold TL;refine À (Uo (QK (name:=QH "__next__") hT bP (QG bP hT gQ ?_ (iR _))));unfold Ss.«set_iterator.__next__» slotArgs;simp -iota only [VZ,WC,Q5,↓reduceIte,bind_assoc,QO,bne_self_eq_false];refine À (Ê ?_);refine À (wpAny_fieldsOf hI rfl ?_);dsimp only [Ra];refine À (Vp ho hd hf ?_);rw[if_neg (by simp)]
 refine À (QM (yE (i:=es.size) hm (Ñ _) ho hd) (λr s' hr=>?_) λ_ _ e=>e);obtain⟨rfl,rfl⟩:=hr;have e1:(ord w S ep (es))[es.size]?=none:=by simp[oa]
 simp -iota only [ä,e1,Yb];unfold An at hI;refine À (Q0 hI (by simp) λh1 hI1 sb1=>À ?_)
 simp only[newExc,newTuple];refine À (ÿ ?_ (by size_fits))
 refine À (m:=U7 _ _) (Ww (a:=è) (by first | rfl | (simp only[U7];rfl)) ?_)
 refine ÿ ?_ (by size_fits)
 unfold raiseNew;refine À (wpAny_handled ?_);rw[show A.in1.handled=none from hh];refine À (Ê (wpAny_throw ?_));refine À (Wj (T:="StopIteration") (b:=true) ⟨_,Ò _ rfl,rfl⟩ isSubtype_stop ?_);exact Ê (h _ ((sb1.extBut.push _).push _))
theorem Ao{I:Ì}(hh:A.handled=none)(hm:se w t es)(hx:o.ExactSet)(hd:o.data=.set (es) ep t)(hn:S≠I):Walks P w A I [I,S] [I] es.size (λi v=>(ord w S ep (es))[i]?.map (·.2)=some v) (λi h=>h.get? S=some o/\h.get? I=some (An w S ep es.size t i)) where
 sub:=λb hb=>by simp at hb;simp[hb]
 frame:=λ_ _ _ st hk=>⟨hk S (by simp) _ st.1,hk I (by simp) _ st.2⟩
 item:=λi s Q E hi st hQ=>B9 hm hi st.1 hd st.2 λv h' hv sb hI=>hQ v h' s.toks hv ⟨(sb.2 S hn).trans st.1,hI⟩ λb u hb e=>(sb.2 b λz=>hb (by simp[z])).trans e
 done:=λs Q E st hQ=>Fm hh hm st.1 hd st.2 λh' kp=>hQ h' s.toks λb u hb e=>kp b u (λz=>hb (by simp[z])) e
 self:=λi s Q E st hQ=>by
  have hT:s.TypeIs (.ref I) "set_iterator":=⟨_,st.2,rfl⟩;refine wpAny_pyIter_slot hT iQ (QG iQ hT lK ?_ (mV _));show Ô _ _ (ret (.ref I)) _ _ s;exact Ê ⟨_,rfl,"set_iterator",_,hT,bP.lookup,hQ⟩
set_option maxHeartbeats 3200000 in
theorem uK{Q:Zj->É->Prop}(hh:A.handled=none)(hm:se w t es)(ho:s.heap.get? S=some o)(hx:o.ExactSet)(hd:o.data=.set (es) ep t)
 (hQ:∀ h' tk,s.heap.objs.size < h'.objs.size->(∀ b u,s.heap.get? b=some u->h'.get? b=some u)->Q ((ord w S ep (es)).toList.map (·.2)) { s with heap:=h',toks:=tk }):Ô (à P w) A (WL (.ref S)) Q E s:=by
 have lS:S < s.heap.objs.size:=á ho;have hsz:=hm.small;unfold WL;refine À (U2 (QY F.entry_proto_collect ?_));rw[QV F.plain_proto_collect _];refine À (m:=X2 []) (ÿ (Ê ⟨S7 Y2 _,QY F.entry_list_iadd ?_⟩));rw[QV Y2 _];show Ô _ A.in1 (Rl (.ref s.heap.objs.size) (.ref S) (.ref s.heap.objs.size)) _ _ _;have oS:(s.heap.push { cls:=.type "list",data:=.seq ([]:Zj).toArray }).get? S=some o:=Ã _ ho;have hL:(s.heap.push { cls:=.type "list",data:=.seq ([]:Zj).toArray }).get? s.heap.objs.size=some { cls:=.type "list",data:=.seq ([]:Zj).toArray }:=Ò _ rfl;have hT:V9 { s with heap:=s.heap.push { cls:=.type "list",data:=.seq ([]:Zj).toArray } } (.ref S) "set":=⟨o,oS,hx.1⟩;unfold Rl;refine À (So hT ?_);have c1:Vo (.ref s.heap.objs.size) (.ref S)=false:=by simp[Vo];exact R0 lS
 have c2:(QU "set" == QU "list")=false:=1e1
 have c3:(QU "set" == QU "tuple")=false:=1e1
 simp only[c1,c2,c3,WB,Q5,if_false];refine À (B8 hm oS hx hd (À (Q9 ?_)));have hT2:∀ u,V9 { s with heap:=(s.heap.push { cls:=.type "list",data:=.seq ([]:Zj).toArray }).push u } (.ref S) "set":=λu=>⟨o,Ã _ oS,hx.1⟩;unfold Builtin.List.listLengthHint;refine À (wpAny_specialOf (hT2 _) F.slot_set_len.lookup ?_)
 wp_delta
 refine À (Wj (T:="set") (b:=true) (hT2 _) (by rw[TU];kernel_rfl) ?_)
 show Ô _ A.in1 (Y4 (ò S) >>= _) _ _ _;refine À (So (hT2 _) (Ê ?_));rw[if_pos 1e1]
 refine À (S2 ?_);generalize hI:s.heap.push { cls:=.type "list",data:=.seq ([]:Zj).toArray }=h1 at oS hL hT2;have sz1:h1.objs.size=s.heap.objs.size + 1:=by rw[← hI];exact SD ..
 have hL2:(h1.push (An w S ep es.size t 0)).get? s.heap.objs.size=some { cls:=.type "list",data:=.seq ([]:Zj).toArray }:=Ã _ hL;refine À (m:=Builtin.List.listTouch (.ref s.heap.objs.size)) ?_;show Ô _ A.in1 (updateSeq s.heap.objs.size (·.push .none) >>= λ_=>updateSeq s.heap.objs.size (·.pop)) _ _ _;refine À (wpAny_updateSeq hL2 rfl ?_);have hL3:=R3 (Qs (·.push è)) hL2 rfl;refine wpAny_updateSeq hL3 rfl ?_;have hL4:=R3 (Qs (·.pop)) hL3 rfl;have off:∀ b u,b≠s.heap.objs.size->(h1.push (An w S ep es.size t 0)).get? b=some u->(((h1.push (An w S ep es.size t 0)).update s.heap.objs.size (Qs (·.push è))).update s.heap.objs.size (Qs (·.pop))).get? b=some u:=
  λb u hb e=>(SI _ _ (QQ hb)).trans ((SI _ _ (QQ hb)).trans e)
 have nI:S≠h1.objs.size:=by rw[sz1];exact Ý (Ry lS)
 have nS:s.heap.objs.size ∉ [h1.objs.size,S]:=by
  rw[sz1];simp only[ü,p9,or_false,not_or];exact⟨Ý (Sg _),R0 lS⟩
 refine Ê ⟨S7 F.plain_extend_loop _,codeAny_extend_loopS (Ao (P:=P) (by simp[hh]) hm hx hd nI).toS (by rw[Qy];omega) s.heap.objs.size nS _ es.size 0 _ _ _ rfl (Se _) ⟨off _ _ (Ý lS) (Ã _ oS),off _ _ (by rw[sz1];exact(Ý (Sg _)).symm) (Ò _ rfl)⟩ hL4 (WR.nil _) λs' acc c mv hS' it=>?_⟩
 refine À (m:=load s.heap.objs.size) (W0 hS' (Ê ?_));have ea:acc.toList=(ord w S ep (es)).toList.map (·.2):=by
  refine List.ext_getElem? λj=>?_;rw[Ø,û,û];cases e:acc[j]? with
  |none =>
   have hj:es.size<=j:=by rw[← it.1];simpa using e
   have:(ord w S ep (es))[j]?=none:=by simp[oa,hj]
   rw[this];rfl
  |some v=>rw[it.2 j v e]
 rw[ea];obtain⟨h',g',d',tk',os'⟩:=s';have eg:g'=s.gens:=mv.gens;have ed:d'=s.drawn:=mv.drawn;have eo:os'=s.os:=mv.os;subst eg;subst ed;subst eo;refine hQ h' tk' (á hS') λb u e=>mv.heap b u (λz=>?_) (off b u (Ý (á e)) (Ã _ (hI ▸ Ã _ e)));have lb:=á e;simp only[ü,p9,or_false] at z;rw[sz1] at z;rcases z with z | z
 ·exact Ý lb z
 ·exact Ý (Ry lb) z
end
end SS
namespace ST
open PySem PySem.W PyProof.Rows
def hT(ks:Zi):Int:=reduceHash (Builtin.Tuple.tupleHashOf (ks.map hashInt))
abbrev St:=List Zi × Rr
def LP(K:List Zi)(i:Nat):Int:=(K[i]?.map hT).getD 0
def fh{α:Type}(l:List α)(p:Nat)(x:α):List α:=l.take p++x::l.drop p
def Ap(t:Rr)(n:Nat):Bool:=t.plain&&!t.gaveWay&&t.fits n
def add(s:St)(ks:Zi):Option St:=match s.2.probe (LP s.1) (hT ks) (s.2.probeStart (hT ks)) with
 |some (.empty j none) =>
  let r:=s.2.put j
  let K:=fh s.1 r.2 ks
  if Ap r.1 K.length then if r.1.tooFull then(r.1.relaid (K.map hT).toArray (XO (s.1.length + 1))).bind λq =>
   let K2:=q.2.toList.filterMap (K[·]?)
   if K2.length=K.length/\Ap q.1 K2.length=true/\SetTable.sizeAbove (XO (s.1.length + 1))<=10000 then some (K2,q.1) else none
   else some (K,r.1) else none
 |_=>none
def s0(led:Bool):St:=([],.fresh 0 0 led)
def run(led:Bool)(l:List Zi):Option St:=l.foldlM add (s0 led)
def Ca(led:Bool)(ks:List Zi)(s:St):Bool:=ks.all (s.1.contains ·)&&s.1.all (ks.contains ·)&&decide s.1.Nodup&&s.2.led == led&&(Ö (s.1.length + 1)).all λi=>S1 s.2.place (SS.my s.2 i) == i
def Ep(led:Bool)(ks:List Zi):Bool:=match run led ks with
 |some s=>Ca led ks s|none=>false
abbrev tD(ks:Zi):L2.D:=.tup (ks.map L2.D.int)
end ST
namespace Q
open PySem L2
abbrev Z:=Option (Int × Bool)
inductive S where
 |d (x:D) | fr (xs:List D) | z
inductive R (α:Type) where
 |ok (a:α) (z:Z) | er (c:Nat) (z:Z)
abbrev M(α:Type):=Z->Option (R α)
def Ze{α:Type}(a:α):M α:=λz=>some (.ok a z)
def Zg{α:Type}:M α:=λ_=>none
def Zf{α:Type}:Option α->M α
 |some a=>Ze a|none=>Zg
def Zd{α β:Type}(m:M α)(f:α->M β):M β:=λz=>match m z with
 |some (.ok a z1)=>f a z1|some (.er c z1)=>some (.er c z1)|none=>none
def M.calm{α:Type}(m:M α):M α:=λz=>match m z with
 |some (.ok a z1)=>some (.ok a z1)|_=>none
abbrev Env:=List (Option S)
def pl:List S->Option D
 |[.d x]=>some x|[.fr xs]=>some (.lst xs)|_=>none
def one:List S->Option S
 |[s]=>some s|_=>none
def gK:S->S
 |.fr xs=>.d (.lst xs)|s=>s
def Cb:S->Option D
 |.d x=>some x|.fr xs=>some (.lst xs)|_=>none
def iZ:List S->Option (List D)
 |[]=>some []|.d x::r=>(iZ r).map (x::·)|.fr xs::r=>(iZ r).map (.lst xs::·)|_::_=>none
inductive Bi where
 |add | sub | mul | fdiv | mod | pow
inductive Cm where
 |eq | ne | lt | le | gt | ge | isnt | mem | nmem
inductive Bf where
 |len | sorted | tuple | list | sum | min | max | abs | all | int | sset | EV
inductive Ty where
 |int | bool | tuple | list | str | seq
inductive gN where
 |v (i:Nat) | tup (ps:gN) | nil | cons (p r:gN)
inductive It where
 |seq | rng1 | rng2 | zip
 |enum
inductive Ex where
 |nil | cons (a r:Ex)
 |var (i:Nat) | con (x:D) | gint (g:Str) (i:Int)
 |tup (as:Ex) | lst (as:Ex)
 |bin (o:Bi) (a b:Ex) | cmp (o:Cm) (a b:Ex) | neg (a:Ex)
 |not (a:Ex) | and (a b:Ex) | or (a b:Ex) | orT (a b:Ex) | ite (c a b:Ex)
 |ch (o o':Cm) (a b c:Ex)
 |bf (f:Bf) (as:Ex) | isi (t:Ty) (a:Ex)
 |idx (a i:Ex) | sl (a lo hi:Ex)
 |call (f:Nat) (as:Ex)
 |comp (own:Nat) (ak:List Nat) (p:gN) (it:It) (src cond el:Ex)
 |zget (i k:Nat) | lrng (b:Bool) (as:Ex)
 |mad (ak:List Nat) (a:Ex)
abbrev most:Nat:=100000
def gR:Nat:=2 ^ 4000
mutual
noncomputable def Er:D->D->Bool
 |.bp,.bp=>true|.bl a,.bl b=>a == b|.int a,.int b=>a == b|.str a,.str b=>a == b|.bl a,.int b=>(if a then 1 else 0) == b|.int a,.bl b=>a == (if b then 1 else 0)|.tup a,.tup b=>uL a b|.lst a,.lst b=>uL a b|.dct,.dct=>true|_,_=>false
noncomputable def uL:List D->List D->Bool
 |[],[]=>true|a::r,b::q=>Er a b&&uL r q|_,_=>false
end
mutual
noncomputable def Es:D->D->Zs
 |.int a,.int b=>some (decide (a < b))|.tup a,.tup b=>sh a b|_,_=>none
noncomputable def sh:List D->List D->Zs
 |[],[]=>some false|[],_::_=>some true|_::_,[]=>some false|a::r,b::q=>if Er a b then sh r q else Es a b
end
mutual
noncomputable def dY:D->Bool
 |.dct=>false|.tup l=>bX l|.lst l=>bX l|.str x=>PyData.strOk x|_=>true
noncomputable def bX:List D->Bool
 |[]=>true|x::r=>dY x&&bX r
end
mutual
noncomputable def deep:D->Nat
 |.tup l=>da l + 1|.lst l=>da l + 1|_=>0
noncomputable def da:List D->Nat
 |[]=>0|x::r=>Yq (deep x) (da r)
end
def mW(d:D):Bool:=dY d&&decide (deep d<=40)
def Aq(l:List D):Bool:=bX l&&decide (da l<=39)
theorem cL{c:Prop}[Decidable c]{α:Type}{a:Option α}{b:α}(h:(if c then a else none)=some b):c/\a=some b:=by
 by_cases k:c
 ·rw[if_pos k] at h;exact⟨k,h⟩
 ·rw[if_neg k] at h;cases h
def G8(a b:D):Zs:=if mW a&&mW b then some (Er a b) else none
def OO:D->D->Zs
 |.tup l,.tup []=>some l.isEmpty|_,_=>none
def eqQ(a b:D):Zs:=if mW a&&mW b then some (Er a b) else OO a b
def NI(a b:D):Zs:=if mW a&&mW b then Es a b else none
def memD(x:D)(l:List D):Bool:=l.any λy=>Er y x
def uM(x:D)(l:List D):Zs:=if mW x&&Aq l then some (memD x l) else none
def jY:List D->Option Zi
 |[]=>some []|.int i::r=>(jY r).map (i::·)|_=>none
def dZ:Bi->D->D->Option S
 |.add,.int i,.int j=>some (.d (.int (i + j)))|.add,.tup a,.tup b=>if a.length + b.length<=most then some (.d (.tup (a++b))) else none|.add,.lst a,.lst b=>if a.length + b.length<=most then some (.fr (a++b)) else none|.sub,.int i,.int j=>some (.d (.int (i - j)))|.mul,.int i,.int j=>if i.natAbs < gR/\j.natAbs < gR then some (.d (.int (i * j))) else none|.fdiv,.int i,.int j=>if 0 < j/\j.natAbs < gR then some (.d (.int (i / j))) else none|.mod,.int i,.int j=>if 0 < j then some (.d (.int (i % j))) else none|.pow,.int i,.int j=>if 0<=j/\j<=1000/\i.natAbs < 2 ^ 64 then some (.d (.int (i ^ j.toNat))) else none|_,_,_=>none
def xk:D->Bool
 |.bp=>true|_=>false
def OP:D->D->Zs
 |a,b=>(G8 a b).map (!·)
def fZ:Cm->D->D->Zs
 |.eq,a,b=>eqQ a b|.ne,a,b=>OP a b|.lt,a,b=>NI a b|.gt,.int a,.int b=>some (decide (b < a))|.le,.int a,.int b=>some (decide (a<=b))|.le,.tup a,.tup b=>(jY a).bind λns=>(jY b).map λms=>HT.leB ns ms|.ge,.int a,.int b=>some (decide (b<=a))|.isnt,.bl a,.bl b=>some (a != b)|.isnt,a,.bp=>some (!xk a)|.mem,a,.tup l=>uM a l|.mem,a,.lst l=>uM a l|.nmem,a,.tup l=>(uM a l).map (!·)|.nmem,a,.lst l=>(uM a l).map (!·)|_,_,_=>none
def IQ:Ty->D->Bool
 |.int,.int _=>true|.int,.bl _=>true|.bool,.bl _=>true|.tuple,.tup _=>true|.list,.lst _=>true|.str,.str _=>true|.seq,.tup _=>true|.seq,.lst _=>true|_,_=>false
def ni:D->Zs
 |.bl b=>some b|_=>none
def Cc:D->Option (List D)
 |.tup l=>some l|_=>none
def yF:D->Zp
 |.int i=>some i|_=>none
def kh:D->Option (List D)
 |.tup l=>some l|.lst l=>some l|_=>none
mutual
noncomputable def d6:D->Zi
 |.int i=>[i]|.tup l=>LQ l|_=>[]
noncomputable def LQ:List D->Zi
 |[]=>[]|x::r=>d6 x++LQ r
end
mutual
noncomputable def eqT:D->D->Bool
 |.int i,.int j=>i == j|.tup a,.tup b=>jS a b|_,_=>false
noncomputable def jS:List D->List D->Bool
 |[],[]=>true|x::r,y::q=>eqT x y&&jS r q|_,_=>false
end
def jd:D->Nat
 |.int _=>0|.tup (.int _::_)=>1|.tup (.tup _::_)=>2|_=>3
def cz(x y:D):Bool:=jd y == jd x&&(Es x y == some (MySort.aW (d6 x) (d6 y))&&(eqT x y || !(d6 x == d6 y)))
def cF(l:List D):Bool:=l.all λx=>decide (jd x < 3)&&(mW x&&l.all (cz x))
def kL(k:D):List D->List D
 |[]=>[k]|y::r=>if MySort.aW (d6 y) (d6 k) then y::kL k r else k::y::r
def a7:List D->List D
 |[]=>[]|k::r=>kL k (a7 r)
def dE(k m:Nat):D:=.tup ((TS.jc k 0 m).map λ(i:Nat)=>.int i)
def b8(k:Nat):List D:=(Ö (2 ^ k)).map (dE k)
def uN(k:Nat):List D:=(TS.sN k).map (dE k)
def LR(l:List D):Option (List D):=((Ö 9).find? λk=>jS l (b8 k)).map uN
abbrev Cd(l:List D):Option (List D):=LR l
def sortedS(x:D):Option S:=(kh x).bind λl=>if l.length < 64/\cF l=true then some (.fr (a7 l)) else(Cd l).map S.fr
def sj:List D->Zp
 |[]=>some 0|.int i::r=>(sj r).map (i + ·)|_=>none
def Ce:List D->Option (List Zi)
 |[]=>some []|.tup m::r=>(jY m).bind λk=>(Ce r).map (k::·)|_=>none
def ub:List Zi->List Zi
 |[]=>[]|x::r=>if r.contains x then ub r else x::ub r
def Fo(l:List D):Option (List D):=(Ce l).bind λks=>if ks.length<=8/\(ST.Ep true ks&&ST.Ep false ks)=true/\cF ((ub ks).map ST.tD)=true then some (a7 ((ub ks).map ST.tD)) else none
def pY:Bf->List D->Option S
 |.len,[x]=>(kh x).map λl=>.d (.int l.length)|.tuple,[x]=>(kh x).map λl=>.d (.tup l)|.list,[x]=>(kh x).map λl=>.fr l|.all,[.lst l]=>(l.mapM ni).map λbs=>.d (.bl (bs.all id))|.sorted,[x]=>sortedS x|.sum,[x]=>((kh x).bind sj).map λi=>.d (.int i)|.min,[.int i,.int j]=>some (.d (.int (if j < i then j else i)))|.max,[.int i,.int j]=>some (.d (.int (if j > i then j else i)))|.abs,[.int i]=>some (.d (.int (if i < 0 then -i else i)))|.int,[.bl b]=>some (.d (.int (if b then 1 else 0)))|.int,[.int i]=>some (.d (.int i))|.sset,[x]=>(kh x).bind λl=>(Fo l).map S.fr|_,_=>none
def je:D->D->Option D
 |.tup l,.int i=>Bz l i|.lst l,.int i=>Bz l i|_,_=>none
def cutD(l:List D)(lo hi:Zp):List D:=(l.drop (HT.dD l.length 0 lo)).take (HT.dD l.length l.length hi - HT.dD l.length 0 lo)
def OQ:D->Zp->Zp->Option S
 |.tup l,lo,hi=>some (.d (.tup (cutD l lo hi)))|.lst l,lo,hi=>some (.fr (cutD l lo hi))|_,_,_=>none
def uO:List S->Option Zp
 |[]=>some none|[.d (.int i)]=>some (some i)|_=>none
def d7:List D->Nat->List D
 |[],_=>[]|x::r,i=>.tup [.int i,x]::d7 r (i + 1)
def fi:List D->List D->List D
 |x::r,y::q=>.tup [x,y]::fi r q|_,_=>[]
def inR:Int->Bool
 |.ofNat n=>Xa n 100000|.negSucc n=>Xa n 99999
theorem jf:inR j=true↔-100000 < j/\j < 100000:=by
 cases j with
 |ofNat n=>show ble (n + 1) 100000=true↔_;rw[Nat.ble_eq];show _↔-100000 < (n:Int)/\(n:Int) < 100000;omega|negSucc n=>show ble (n + 1) 99999=true↔_;rw[Nat.ble_eq,Int.negSucc_eq];omega
def uc:It->List D->Option (List D)
 |.seq,[x]=>kh x|.rng1,[.int j]=>if inR j=true then some ((Ö j.toNat).map λ(i:Nat)=>D.int i) else none|.rng2,[.int i,.int j]=>if inR i=true/\inR j=true then some ((Ö (j - i).toNat).map λ(k:Nat)=>D.int (i + k)) else none|.zip,[.tup a,.tup b]=>some (fi a b)|.zip,[.lst a,.lst b]=>some (fi a b)|.enum,[.tup a]=>some (d7 a 0)|.enum,[.lst a]=>some (d7 a 0)|_,_=>none
def PV:Bool->List D->S
 |true,xs=>.d (.tup xs)|false,xs=>.fr xs
def G9:Bool->Str
 |true=>"tuple"|false=>"list"
def KQ:List D->Option (List D)
 |[x]=>uc .rng1 [x]|l=>uc .rng2 l
mutual
noncomputable def bR:gN->D->Env->Option Env
 |.v i=>λx ρ=>some (ρ.set i (some (.d x)))
 |.tup ps=>λx ρ=>match x with
  |.tup l=>bindL ps l ρ|_=>none
 |.nil=>λ_ _=>none|.cons _ _=>λ_ _=>none
noncomputable def bindL:gN->List D->Env->Option Env
 |.nil=>λl ρ=>match l with
  |[]=>some ρ|_=>none
 |.cons p r=>λl ρ=>match l with
  |x::l=>(bR p x ρ).bind λρ=>bindL r l ρ|_=>none
 |.v _=>λ_ _=>none|.tup _=>λ_ _=>none
end
def turns(f:D->M (Option D)):List D->M (List D)
 |[]=>Ze []|x::r=>Zd (f x) λo=>Zd (turns f r) λl=>Ze (match o with | some y=>y::l | none=>l)
def eX(fc fe:Env->M (List S))(p:gN)(ρ0:Env)(x:D):M (Option D):=Zd (Zf (bR p x ρ0)) λρ'=>Zd (fc ρ') λc=>match c with
 |[]=>Zd (fe ρ') λy=>Zd (Zf (pl y)) λy=>Ze (some y)|[.d (.bl true)]=>Zd (fe ρ') λy=>Zd (Zf (pl y)) λy=>Ze (some y)|[.d (.bl false)]=>Ze none|_=>Zg
def uP(k:Nat):Option (Option S)->Z->Option (R (List S))
 |some (some .z),some p=>if k=0 then some (.ok [.d (.int p.1)] (some p)) else if k=1 then some (.ok [.d (.bl p.2)] (some p)) else none|_,_=>none
abbrev FT:=Bool->Nat->List S->M S
abbrev aI(F:FT):FT:=λ_=>F true
def qf(ρ:Env):Zh->Option (List S)
 |[]=>some []
 |i::r=>match ρ[i]? with
  |some (some s)=>(qf ρ r).map (s::·)|_=>none
def Cf(o:Option (List S))(m:Env->M (List S)):M (List S):=λz=>match o with
 |none=>none
 |some ss=>match m (ss.map some) z with
  |some (.er c z1)=>if c < 12 then some (.ok [.d .bp] z1) else none
  |some (.ok l z1)=>match one l with
   |some s=>some (.ok [gK s] z1)|none=>none
  |none=>none
def ev:FT->Ex->Env->M (List S)
 |F,.nil=>λ_=>Ze []|F,.cons a r=>λρ=>Zd (ev F a ρ) λx=>Zd (Zf (one x)) λs=>Zd (ev F r ρ) λy=>Ze (s::y)
 |F,.var i=>λρ=>match ρ[i]? with
  |some (some s)=>Ze [gK s]|_=>Zg
 |F,.con x=>λ_=>Ze [.d x]|F,.gint _ i=>λ_=>Ze [.d (.int i)]|F,.tup as=>λρ=>Zd (ev F as ρ) λl=>Zd (Zf (iZ l)) λds=>if ds.length<=most then Ze [.d (.tup ds)] else Zg|F,.lst as=>λρ=>Zd (ev F as ρ) λl=>Zd (Zf (iZ l)) λds=>if ds.length<=most then Ze [.fr ds] else Zg|F,.bin o a b=>λρ=>Zd (ev F a ρ) λx=>Zd (Zf (pl x)) λx=>Zd (ev F b ρ) λy=>Zd (Zf (pl y)) λy=>Zd (Zf (dZ o x y)) λs=>Ze [s]|F,.cmp o a b=>λρ=>Zd (ev F a ρ) λx=>Zd (Zf (pl x)) λx=>Zd (ev F b ρ) λy=>Zd (Zf (pl y)) λy=>Zd (Zf (fZ o x y)) λb=>Ze [.d (.bl b)]|F,.neg a=>λρ=>Zd (ev F a ρ) λx=>Zd (Zf ((pl x).bind yF)) λi=>Ze [.d (.int (-i))]|F,.not a=>λρ=>Zd (ev F a ρ) λx=>Zd (Zf ((pl x).bind ni)) λb=>Ze [.d (.bl !b)]|F,.and a b=>λρ=>Zd (ev F a ρ) λx=>Zd (Zf ((pl x).bind ni)) λc=>if c then Zd (ev F b ρ) λy=>Zd (Zf ((pl y).bind ni)) λc=>Ze [.d (.bl c)] else Ze [.d (.bl false)]|F,.or a b=>λρ=>Zd (ev F a ρ) λx=>Zd (Zf ((pl x).bind ni)) λc=>if c then Ze [.d (.bl true)] else Zd (ev F b ρ) λy=>Zd (Zf ((pl y).bind ni)) λc=>Ze [.d (.bl c)]|F,.orT a b=>λρ=>M.calm (Zd (ev F a ρ) λx=>Zd (Zf ((pl x).bind Cc)) λl=>if l.isEmpty then Zd (ev F b ρ) λy=>Zd (Zf ((pl y).bind Cc)) λl=>Ze [.d (.tup l)] else Ze [.d (.tup l)])|F,.ite c a b=>λρ=>Zd (ev F c ρ) λx=>Zd (Zf ((pl x).bind ni)) λc=>if c then ev F a ρ else ev F b ρ
 |F,.ch o o' a b c=>λρ=>Zd (ev F a ρ) λx=>Zd (Zf (pl x)) λx=>Zd (ev F b ρ) λy=>Zd (Zf (pl y)) λy=>Zd (Zf (fZ o x y)) λk =>
   if k then Zd (ev F c ρ) λw=>Zd (Zf (pl w)) λw=>Zd (Zf (fZ o' y w)) λk=>Ze [.d (.bl k)] else Ze [.d (.bl false)]
 |F,.bf f as=>λρ=>Zd (ev F as ρ) λl=>Zd (Zf (iZ l)) λds=>Zd (Zf (pY f ds)) λs=>Ze [s]|F,.isi t a=>λρ=>Zd (ev F a ρ) λx=>Zd (Zf (pl x)) λx=>Ze [.d (.bl (IQ t x))]|F,.idx a i=>λρ=>Zd (ev F a ρ) λx=>Zd (Zf (pl x)) λx=>Zd (ev F i ρ) λy=>Zd (Zf (pl y)) λy=>Zd (Zf (je x y)) λr=>Ze [.d r]|F,.sl a lo hi=>λρ=>Zd (ev F a ρ) λx=>Zd (Zf (pl x)) λx=>Zd (ev F lo ρ) λu=>Zd (Zf (uO u)) λu=>Zd (ev F hi ρ) λv=>Zd (Zf (uO v)) λv=>Zd (Zf (OQ x u v)) λs=>Ze [s]|F,.call f as=>λρ=>Zd (ev F as ρ) λl=>Zd (F false f (l.map gK)) λs=>Ze [s]|F,.comp own ak p it src cond el=>λρ=>Zd (ev F src ρ) λl=>Zd (Zf ((iZ l).bind (uc it))) λxs=>if xs.length<=most then Zd (M.calm (turns (eX (ev F cond) (ev F el) p (Sf own none++ak.map λi=>(ρ[i]?).getD none)) xs)) λys=>Ze [.fr ys] else Zg|F,.zget i k=>λρ z=>uP k ρ[i]? z|F,.lrng b as=>λρ=>Zd (ev F as ρ) λl=>Zd (Zf ((iZ l).bind KQ)) λxs=>Ze [PV b xs]|F,.mad ak a=>λρ=>Cf (qf ρ ak) λρ'=>ev (aI F) a ρ'
def mB(ρ:Env):Env:=ρ.map λo=>match o with
 |some .z=>none|o=>o
inductive Sm where
 |nil | seq (s r:Sm)
 |set (p:gN) (e:Ex) | ret (e:Ex) | iff (c:Ex) (t e:Sm)
 |fr (p:gN) (it:It) (src:Ex) (b:Sm)
 |whl (c:Ex) (b:Sm)
 |rais (c:Nat) | exp (e:Ex)
 |app (i:Nat) (e:Ex) | sti (i:Nat) (x e:Ex) | aug (o:Bi) (i:Nat) (e:Ex)
 |newz (i:Nat) (f:Nat) (as:Ex) | zset (i:Nat) (e:Ex) | apop (i j:Nat) (e:Ex)
inductive O where
 |nx (ρ:Env) | rt (s:S)
mutual
noncomputable def bare:D->Bool
 |.lst _=>false|.tup l=>bo l|.dct=>false|_=>true
noncomputable def bo:List D->Bool
 |[]=>true|x::r=>bare x&&bo r
end
def bM:S->Bool
 |.d x=>bare x|.fr xs=>bo xs|_=>true
def kj(ρ:Env):Env:=ρ.map λo=>o.map gK
def jZ(b:Bool):Option S->Option S
 |some (.fr xs)=>some (if b then .fr xs else .d (.lst xs))|o=>o
theorem oh(b:Bool)(ρ:Env):ρ.map (jZ b)=if b then ρ else kj ρ:=by
 have h:∀ o:Option S,jZ b o=if b then o else o.map gK:=λo=>by
  match o with
  |some (.fr xs)=>cases b <;> rfl
  |some (.d _)=>cases b <;> rfl
  |some .z=>cases b <;> rfl
  |none=>cases b <;> rfl
 rw[show jZ b=λo=>if b then o else o.map gK from funext h];cases b with
 |true=>exact map_id ρ|false=>rfl
def cV(s:S)(ρ:Env):Env:=ρ.map (jZ (bM s))
def iS:gN->S->Env->Option Env
 |p,.d x,ρ=>bR p x ρ|.v i,s,ρ=>if i < ρ.length then some (ρ.set i (some s)) else none|_,_,_=>none
def jT(f:D->Env->M O):List D->Env->M O
 |[],ρ=>Ze (.nx ρ)
 |x::r,ρ=>Zd (f x ρ) λo=>match o with
  |.nx ρ=>jT f r ρ|.rt s=>Ze (.rt s)
def uQ(c:Env->M (List S))(f:Env->M O):Nat->Env->M O
 |0,_=>Zg
 |n + 1,ρ=>Zd (c ρ) λx=>Zd (Zf ((pl x).bind ni)) λk=>if k then Zd (f ρ) λo=>match o with
  |.nx ρ=>uQ c f n ρ|.rt s=>Ze (.rt s)
  else Ze (.nx ρ)
def ownAt(ρ:Env)(i:Nat):Option (List D):=match ρ[i]? with
 |some (some (.fr xs))=>some xs|_=>none
def oi(xs:List D)(i:Int)(y:D):Option (List D):=(En xs.length i).map λj=>xs.set j y
def Cg:D->Bool
 |.tup l=>bo l|.lst l=>bo l|_=>true
def mC(l:List S):Bool:=match iZ l with
 |some ds=>ds.all Cg|none=>false
def Fp:S->Option S
 |.z=>none|s=>some s
def Ci:(it:It)->(e:Ex)->Option {i:Nat // it=.seq/\e=.cons (.var i) .nil}
 |.seq,.cons (.var i) .nil=>some ⟨i,rfl,rfl⟩|_,_=>none
def lL:List S->Bool
 |[]=>false|.d (.lst _)::_=>true|_::r=>lL r
def oj(it:It)(e:Ex)(l:List S)(ρ:Env):Env:=match Ci it e with
 |some i=>ρ.set i.1 ((ρ[i.1]?.getD none).map gK)
 |none=>match lL l with
  |true=>kj ρ|false=>ρ
def uR(it:It)(e:Ex)(l:List S)(ρ:Env):Env:=(oj it e l ρ).map (jZ (mC l))
abbrev Ar:Nat:=20000
def uS(ρ:Env)(i j:Nat)(xs ys:List D)(k:Int):Option O:=
 if i≠j/\0<=k/\inR k=true/\xs.length < most then(ys[k.toNat]?).bind λy=>if bare y=true then some (.nx ((ρ.set j (some (.fr (ys.eraseIdx k.toNat)))).set i (some (.fr (xs++[y]))))) else none else none
def Hb(F:FT)(i j:Nat)(e:Ex):Env->M O:=λρ=>Zd (Zf (ownAt ρ i)) λxs=>Zd (Zf (ownAt ρ j)) λys=>Zd (ev F e ρ) λl=>Zd (Zf ((pl l).bind yF)) λk=>Zd (Zf (uS ρ i j xs ys k)) λo=>Ze o
def uT(tp:Bool)(ρ:Env)(i:Nat):List S->Option (R O)
 |[.fr [.int n,.bl b]]=>if tp then some (.ok (.nx ((mB ρ).set i (some .z))) (some (n,b))) else none|_=>none
def uU(ρ:Env)(v:Int):Option (Option S)->Z->Option (R O)
 |some (some .z),some p=>some (.ok (.nx ρ) (some (v,p.2)))|_,_=>none
def ex(F:FT)(tp:Bool):Sm->Env->M O
 |.nil=>λρ=>Ze (.nx ρ)
 |.seq s r=>λρ=>Zd (ex F tp s ρ) λo=>match o with
  |.nx ρ=>ex F tp r ρ|.rt s=>Ze (.rt s)
 |.set p e=>λρ=>Zd (ev F e ρ) λl=>Zd (Zf (one l)) λs=>Zd (Zf (iS p s (cV s ρ))) λρ=>Ze (.nx ρ)
 |.ret e=>λρ=>match e with
  |.var i=>(match ρ[i]? with
   |some (some s)=>Zd (Zf (Fp s)) λs=>Ze (.rt s)
   |_=>Zg)
  |e=>Zd (ev F e ρ) λl=>Zd (Zf ((one l).bind Fp)) λs=>Ze (.rt s)
 |.iff c t e=>λρ=>Zd (ev F c ρ) λx=>Zd (Zf ((pl x).bind ni)) λc=>if c then ex F tp t ρ else ex F tp e ρ|.fr p it src b=>λρ=>Zd (ev F src ρ) λl=>Zd (Zf ((iZ l).bind (uc it))) λxs=>jT (λx ρ=>Zd (Zf (bR p x ρ)) λρ=>ex F tp b ρ) xs (uR it src l ρ)|.whl c b=>λρ=>uQ (ev F c) (ex F tp b) Ar ρ|.rais c=>λ_ z=>some (.er c z)|.exp e=>λρ=>Zd (ev F e ρ) λl=>Zd (Zf (one l)) λ_=>Ze (.nx ρ)|.app i e=>λρ=>Zd (Zf (ownAt ρ i)) λxs=>Zd (ev F e ρ) λl=>Zd (Zf (pl l)) λx=>if bare x=true/\xs.length < most then Ze (.nx (ρ.set i (some (.fr (xs++[x]))))) else Zg
 |.sti i ix e=>λρ=>Zd (ev F e ρ) λl=>Zd (Zf (pl l)) λx=>Zd (Zf (ownAt ρ i)) λxs=>Zd (ev F ix ρ) λj=>Zd (Zf ((pl j).bind yF)) λj=>Zd (Zf (oi xs j x)) λxs =>
   if bare x=true then Ze (.nx (ρ.set i (some (.fr xs)))) else Zg
 |.aug o i e=>λρ=>Zd (Zf ((ρ[i]?.getD none).bind Cb)) λy=>Zd (ev F e ρ) λl=>Zd (Zf ((pl l).bind yF)) λx=>Zd (Zf ((yF y).bind λy=>dZ o (.int y) (.int x))) λs=>Zd (Zf (iS (.v i) s (cV s ρ))) λρ=>Ze (.nx ρ)|.newz i f as=>λρ=>Zd (ev F (.call f as) ρ) λl=>λ_=>uT tp ρ i l|.zset i e=>λρ=>Zd (ev F e ρ) λl=>Zd (Zf ((pl l).bind yF)) λv=>λz=>uU ρ v ρ[i]? z|.apop i j e=>λρ=>Hb F i j e ρ
inductive Df where
 |code (ps ns:Nat) (b:Sm) | prim (f:List S->M S)
def cW:Z->Z->Z
 |none,_=>none|some _,z=>z
def start(ns:Nat)(l:List S):Env:=l.map some++Sf (ns - l.length) none
def run(F:FT):Df->List S->M S
 |.code ps ns b,l=>λz=>if l.length=ps/\ps<=ns then(match ex F z.isNone b (start ns (l.map gK)) z with
  |some (.ok (.nx _) z1)=>some (.ok (.d .bp) (cW z z1))|some (.ok (.rt s) z1)=>some (.ok s (cW z z1))|some (.er c z1)=>some (.er c (cW z z1))
  |none=>none) else none
 |.prim f,l=>f l
def aA(T:List Df):Nat->Nat->List S->M S
 |k + 3,f,l=>match T[f]? with
  |some d=>run (λb g m=>match b with | true=>aA T k g m | false=>aA T (k + 2) g m) d l
  |none=>Zg
 |_,_,_=>Zg
abbrev fD(T:List Df)(k:Nat):FT:=λb g m=>match b with | true=>aA T (k - 2) g m | false=>aA T k g m
def uV(T:List Df)(k f:Nat)(l:List S):aA T (k + 3) f l=match T[f]? with
  |some d=>run (fD T (k + 2)) d l|none=>Zg:=rfl
end Q
namespace Q
open PySem L2 PySem.Spec PyProof.Rows
def cY(K:Â)(H:Hp)(a:Ì)(xs:List V):Prop:=Rd H a (.lst xs)\/∃ (ar:Zo) (n:Nat),K.lookup a=some { cls:=.type "list",data:=.seq ar n }/\ar.size<=sizeLine/\Vals xs ar.toList
def cY.of{K:Â}{H:Hp}{a:Ì}{xs:List V}(h:H a=some (.lst xs)):cY K H a xs:=.inl (.inl h)
theorem cY.sq{K:Â}{H:Hp}{a:Ì}{xs:List V}(h:cY K H a xs):jP K H a xs:=by
 rcases h with h | ⟨ar,n,h1,h2,h3⟩
 ·exact .inl h
 ·exact .inr ⟨_,ar,n,h1,rfl,rfl,rfl,h2,h3⟩
theorem cY.same{K:Â}{H H':Hp}{a:Ì}{xs:List V}(h:cY K H a xs)(e:af H H'):cY K H' a xs:=by
 rcases h with (h | ⟨o,h⟩) | h
 ·exact .inl (.inl (e _ _ h))
 ·exact .inl (.inr ⟨o,e _ _ h⟩)
 ·exact .inr h
theorem cY.mem(I:Inv X aa σ H s)(h:cY X.K H a xs):xs.length<=sizeLine/\∃ (ar:Zj) (n:Nat),Vals xs ar/\xs.length=ar.length/\s.heap.get? a=some { cls:=.type "list",data:=.seq ar.toArray n }:=by
 rcases h with (h | ⟨o,h⟩) | ⟨ar,n,h1,h2,h3⟩
 ·exact I.Ir h
 ·obtain⟨e,z,ar,n,r,e2⟩:=I.aV a _ h;exact⟨z,ar,n,r,r.length,e2⟩
 ·refine⟨by rw[h3.length,Sw];exact h2,ar.toList,n,h3,h3.length,?_⟩
  have:=I.t9 a _ h1;rw[Ts];exact this
mutual
def Hd(K:Â)(H:Hp):D->V->Prop
 |.bp,v=>v=.bp|.bl b,v=>v=.bl b|.int i,v=>v=.int i|.str x,v=>v=.str x|.tup ds,v=>∃ a xs,v=.ref a/\dU K H a xs/\aK K H ds xs|.lst ds,v=>∃ a xs,v=.ref a/\cY K H a xs/\aK K H ds xs|.dct,v=>∃ a kvs,v=.ref a/\H a=some (.dK kvs)
def aK(K:Â)(H:Hp):List D->List V->Prop
 |[],xs=>xs=[]|d::ds,xs=>∃ x r,xs=x::r/\Hd K H d x/\aK K H ds r
end
section
variable {K:Â}{H H':Hp}
mutual
theorem Hd.same(e:af H H'):∀ {d:D}{v:V},Hd K H d v->Hd K H' d v
 |.bp,_,h=>by unfold Hd at h ⊢;exact h|.bl _,_,h=>by unfold Hd at h ⊢;exact h|.int _,_,h=>by unfold Hd at h ⊢;exact h|.str _,_,h=>by unfold Hd at h ⊢;exact h
 |.tup ds,_,h=>by
  unfold Hd at h ⊢;obtain⟨a,xs,rfl,h1,h2⟩:=h;exact⟨a,xs,rfl,e.jV h1,aK.same e h2⟩
 |.lst ds,_,h=>by
  unfold Hd at h ⊢;obtain⟨a,xs,rfl,h1,h2⟩:=h;exact⟨a,xs,rfl,h1.same e,aK.same e h2⟩
 |.dct,_,h=>by
  unfold Hd at h ⊢;obtain⟨a,kvs,rfl,h1⟩:=h;exact⟨a,kvs,rfl,e _ _ h1⟩
theorem aK.same(e:af H H'):∀ {ds:List D}{xs:List V},aK K H ds xs->aK K H' ds xs
 |[],_,h=>by unfold aK at h ⊢;exact h
 |d::ds,_,h=>by
  unfold aK at h ⊢;obtain⟨x,r,rfl,h1,h2⟩:=h;exact⟨x,r,rfl,Hd.same e h1,aK.same e h2⟩
end
mutual
theorem Hd.has:∀ {d:D}{v:V},Hd K H d v->uF K H d v
 |.bp,_,h=>by unfold Hd at h;unfold uF;exact h|.bl _,_,h=>by unfold Hd at h;unfold uF;exact h|.int _,_,h=>by unfold Hd at h;unfold uF;exact h|.str _,_,h=>by unfold Hd at h;unfold uF;exact h
 |.tup ds,_,h=>by
  unfold Hd at h;unfold uF;obtain⟨a,xs,rfl,h1,h2⟩:=h;exact⟨a,xs,rfl,h1,aK.has h2⟩
 |.lst ds,_,h=>by
  unfold Hd at h;unfold uF;obtain⟨a,xs,rfl,h1,h2⟩:=h;exact⟨a,xs,rfl,h1.sq,aK.has h2⟩
 |.dct,_,h=>by unfold Hd at h;unfold uF;exact h
theorem aK.has:∀ {ds:List D}{xs:List V},aK K H ds xs->lH K H ds xs
 |[],_,h=>by unfold aK at h;unfold lH;exact h
 |d::ds,_,h=>by
  unfold aK at h;unfold lH;obtain⟨x,r,rfl,h1,h2⟩:=h;exact⟨x,r,rfl,Hd.has h1,aK.has h2⟩
end
theorem aK.nil:aK K H [] []:=by unfold aK;rfl
theorem aK.cons(h:Hd K H d x)(r:aK K H ds xs):aK K H (d::ds) (x::xs):=by unfold aK;exact⟨x,xs,rfl,h,r⟩
theorem aK.aN(h:aK K H (d::ds) xs):∃ x r,xs=x::r/\Hd K H d x/\aK K H ds r:=by unfold aK at h;exact h
theorem aK.bN(h:aK K H [] xs):xs=[]:=by unfold aK at h;exact h
theorem aK.length:∀ {ds:List D}{xs:List V},aK K H ds xs->xs.length=ds.length
 |[],_,h=>by rw[h.bN];rfl
 |d::ds,_,h=>by
  obtain⟨x,r,rfl,_,h2⟩:=h.aN;simp[h2.length]
theorem aK.get:∀ {ds:List D}{xs:List V}{i:Nat}{d:D},aK K H ds xs->ds[i]?=some d->∃ x,xs[i]?=some x/\Hd K H d x
 |[],_,_,_,_,e=>by simp at e
 |d::ds,_,i,d',h,e=>by
  obtain⟨y,r,rfl,h1,h2⟩:=h.aN;cases i with
  |zero=>simp at e;subst e;exact⟨y,rfl,h1⟩
  |succ i =>
   obtain⟨x',e1,e2⟩:=aK.get (i:=i) h2 (by simpa using e)
   exact⟨x',by simpa using e1,e2⟩
theorem aK.append:∀ {ds es:List D}{xs ys:List V},aK K H ds xs->aK K H es ys->aK K H (ds++es) (xs++ys)
 |[],_,_,_,h,g=>by rw[h.bN];exact g
 |d::ds,_,_,_,h,g=>by
  obtain⟨x,r,rfl,h1,h2⟩:=h.aN;exact .cons h1 (aK.append h2 g)
theorem aK.take:∀ {ds:List D}{xs:List V} (n:Nat),aK K H ds xs->aK K H (ds.take n) (xs.take n)
 |ds,xs,0,_=>by simp;exact .nil|[],_,n + 1,h=>by rw[h.bN];simp;exact .nil
 |d::ds,_,n + 1,h=>by
  obtain⟨x,r,rfl,h1,h2⟩:=h.aN;exact .cons h1 (aK.take n h2)
theorem aK.drop:∀ {ds:List D}{xs:List V} (n:Nat),aK K H ds xs->aK K H (ds.drop n) (xs.drop n)
 |ds,xs,0,h=>by simpa using h|[],_,n + 1,h=>by rw[h.bN];simp;exact .nil
 |d::ds,_,n + 1,h=>by
  obtain⟨x,r,rfl,h1,h2⟩:=h.aN;exact aK.drop n h2
theorem aK.reverse:∀ {ds:List D}{xs:List V},aK K H ds xs->aK K H ds.reverse xs.reverse
 |[],_,h=>by rw[h.bN];simp;exact .nil
 |d::ds,_,h=>by
  obtain⟨x,r,rfl,h1,h2⟩:=h.aN;rw[Uv,Uv];exact(aK.reverse h2).append (.cons h1 .nil)
theorem aK.set:∀ {ds:List D}{xs:List V}{d:D}{x:V} (i:Nat),aK K H ds xs->Hd K H d x->aK K H (ds.set i d) (xs.set i x)
 |[],_,_,_,_,h,_=>by rw[h.bN];simp;exact .nil
 |e::ds,_,d,x,i,h,g=>by
  obtain⟨y,r,rfl,h1,h2⟩:=h.aN;cases i with
  |zero=>exact .cons g h2|succ i=>exact .cons h1 (aK.set i h2 g)
theorem aK.ints:∀ ns:Zi,aK K H (ns.map D.int) (ns.map V.int)
 |[]=>.nil|n::r=>.cons (by unfold Hd;rfl) (aK.ints r)
theorem Hd.bK(h:Hd K H (.int i) v):v=.int i:=by unfold Hd at h;exact h
theorem Hd.yG(h:Hd K H (.bl b) v):v=.bl b:=by unfold Hd at h;exact h
theorem Hd.Fq(h:Hd K H .bp v):v=.bp:=by unfold Hd at h;exact h
theorem Hd.IS{x:Str}{v:V}(h:Hd K H (.str x) v):v=.str x:=by unfold Hd at h;exact h
theorem Hd.fE(h:Hd K H (.tup ds) v):∃ a xs,v=.ref a/\dU K H a xs/\aK K H ds xs:=by unfold Hd at h;exact h
theorem Hd.kM(h:Hd K H (.lst ds) v):∃ a xs,v=.ref a/\cY K H a xs/\aK K H ds xs:=by unfold Hd at h;exact h
theorem Hd.int:Hd K H (.int i) (.int i):=by unfold Hd;rfl
theorem Hd.bl:Hd K H (.bl b) (.bl b):=by unfold Hd;rfl
theorem Hd.bp:Hd K H .bp .bp:=by unfold Hd;rfl
theorem Hd.str{x:Str}:Hd K H (.str x) (.str x):=by unfold Hd;rfl
theorem Hd.tup(h:dU K H a xs)(r:aK K H ds xs):Hd K H (.tup ds) (.ref a):=by unfold Hd;exact⟨a,xs,rfl,h,r⟩
theorem Hd.lst(h:H a=some (.lst xs))(r:aK K H ds xs):Hd K H (.lst ds) (.ref a):=by unfold Hd;exact⟨a,xs,rfl,cY.of h,r⟩
end
def Bb(H:Hp):Hp:=λb=>match H b with
 |some (.tbl _)=>none|o=>o
theorem om(h:Bb H b=some o):H b=some o/\∀ ps,o≠.tbl ps:=by
 unfold Bb at h;split at h
 ·cases h
 ·rename_i n;exact⟨h,λps e=>n ps (by rw[h,e])⟩
theorem sk(h:H b=some o)(n:∀ ps,o≠.tbl ps):Bb H b=some o:=by
 unfold Bb;split
 ·rename_i ps e;rw[h] at e;cases e;exact absurd rfl (n ps)
 ·exact h
def kN(H:Hp):af (Bb H) H:=λ_ _ h=>(om h).1
def uW(e:af H H'):af (Bb H) (Bb H'):=λb o h=>sk (e b o (om h).1) (om h).2
def hz(zA:Zl)(H:Hp):Hp:=match zA with
 |some a=>hide a (Bb H)|none=>Bb H
class Tb where
 tb:List (Addr × Str)
variable [TB:Tb]
def NJ(zA:Zl)(z:Z)(H:Hp):Prop:=match zA,z with
 |some a,some (n,b)=>H a=some (.lst [.int n,.bl b])|none,none=>True|_,_=>False
structure aM(zA:Option Addr)(z:Z)(H:Hp):Prop where
 zat:NJ zA z H
 tab:∀ p∈TB.tb,Tab H p.1 p.2
theorem ah(zA:Zl)(H:Hp):af (hz zA H) H:=by
 cases zA with
 |none=>exact kN H|some a=>exact af.trans (cK a _) (kN H)
theorem dG(e:af H H'):af (hz zA H) (hz zA H'):=by
 cases zA with
 |none=>exact uW e|some a=>exact lI λb o _ h=>uW e b o h
theorem bw(h:H b=some o)(n:zA≠some b)(ht:∀ ps,o≠.tbl ps:=by exact λ_ h=>nomatch h):hz zA H b=some o:=by
 cases zA with
 |none=>exact sk h ht|some a=>exact n5 (sk h ht) λe=>n (by rw[e])
theorem fF(h:hz zA H b=some o):H b=some o/\zA≠some b:=by
 cases zA with
 |none=>exact⟨kN H b o h,λe=>nomatch e⟩
 |some a =>
  refine⟨kN H b o (cK a _ b o h),λe=>?_⟩;cases e;have:hide b (Bb H) b=some o:=h;unfold hide at this;rw[if_pos rfl] at this;cases this
theorem gA(h:hz zA H b=some o):∀ ps,o≠.tbl ps:=by
 cases zA with
 |none=>exact(om h).2|some a=>exact(om (cK a _ b o h)).2
structure Ext(zA:Option Addr)(H H':Hp):Prop where
 same:af (hz zA H) (hz zA H')
 tbl:∀ b ps,H b=some (.tbl ps)->∃ qs,H' b=some (.tbl qs)
instance {zA:Zl}{H H':Hp}:CoeFun (Ext zA H H') (λ_=>∀ b o,hz zA H b=some o->hz zA H' b=some o):=⟨λx=>x.same⟩
instance {zA:Zl}{H H':Hp}:CoeOut (Ext zA H H') (af (hz zA H) (hz zA H')):=⟨λx=>x.same⟩
def Ext.refl:Ext zA H H:=⟨af.refl _,λb ps h=>⟨ps,h⟩⟩
def Ext.trans(a:Ext zA H H1)(b:Ext zA H1 H2):Ext zA H H2:=⟨af.trans a.same b.same,λc ps h=>let ⟨qs,h1⟩:=a.tbl c ps h;b.tbl c qs h1⟩
def Ext.of(e:af H H'):Ext zA H H':=⟨dG e,λb ps h=>⟨ps,e b _ h⟩⟩
theorem Ext.at(e:Ext zA H H')(h:H a=some o)(n:zA≠some a)(ht:∀ ps,o≠.tbl ps:=by exact λ_ h=>nomatch h):H' a=some o:=(fF (e.same a o (bw h n ht))).1
theorem Ext.free(e:Ext zA H H')(h:H' a=none)(n:zA≠some a):H a=none:=by
 cases q:H a with
 |none=>rfl
 |some o =>
  by_cases ht:∃ ps,o=.tbl ps
  ·obtain⟨ps,rfl⟩:=ht;obtain⟨qs,q'⟩:=e.tbl a ps q;rw[q'] at h;cases h
  ·rw[e.at q n λps z=>ht ⟨ps,z⟩] at h;cases h
theorem NJ.same(h:NJ zA z H)(e:af H H'):NJ zA z H':=by
 cases zA with
 |none=>cases z with
  |none=>trivial|some _=>exact h.elim
 |some a=>cases z with
  |none=>exact h.elim|some p=>exact e _ _ h
def aM.same(h:aM zA z H)(e:af H H'):aM zA z H':=⟨h.zat.same e,λp hp=>(h.tab p hp).same e⟩
theorem Tab.upd{H:Hp}{P a:Ì}{q:Str}{xs:List V}{o:HO}(t:Tab H P q)(h:H a=some (.lst xs)):Tab (upd H a o) P q:=by
 obtain⟨ps,e,tr,k⟩:=t;have ne:∀ {b:Ì}{u:HO},H b=some u->(∀ l,u≠.lst l)->b≠a:=λ{b u} e1 e2 z=>by
  subst z;rw[h] at e1;cases e1;exact e2 _ rfl
 refine⟨ps,by rw[ai (ne e λ_ z=>nomatch z)];exact e,tr,λpos c hc=>?_⟩
 obtain⟨c',e1,e2⟩:=k pos c hc;exact⟨c',e1,by rw[ai (ne e2 λ_ z=>nomatch z)];exact e2⟩
theorem aM.xn{K:Â}{zA:Zl}{z:Z}{H:Hp}(h:aM zA z H){a:Ì}{xs:List V}(t:dU K H a xs):dU K (hz zA H) a xs:=by
 have h:=h.zat;rcases t with (t | ⟨o,t⟩) | t
 ·refine .inl (.inl (bw t λe=>?_));subst e;cases z with
  |none=>exact h.elim
  |some p =>
   have h':H a=some (.lst [.int p.1,.bl p.2]):=h;rw[t] at h';cases h'
 ·refine .inl (.inr ⟨o,bw t λe=>?_⟩);subst e;cases z with
  |none=>exact h.elim
  |some p =>
   have h':H a=some (.lst [.int p.1,.bl p.2]):=h;rw[t] at h';cases h'
 ·exact .inr t
theorem aM.xo(h:aM zA z H)(n:H a=none):zA≠some a:=λe=>by
 have h:=h.zat;subst e;cases z with
 |none=>exact h.elim
 |some p =>
  have h':H a=some (.lst [.int p.1,.bl p.2]):=h;rw[n] at h';cases h'
def j6(K:Â)(zA:Zl)(H0 H:Hp):S->V->Prop
 |.d x,v=>Hd K (hz zA H) x v|.fr xs,v=>∃ a ys,v=.ref a/\H0 a=none/\zA≠some a/\H a=some (.lst ys)/\aK K (hide a (hz zA H)) xs ys|.z,v=>∃ a,zA=some a/\v=.ref a
def wy(K:Â)(zA:Zl)(H:Hp):S->V->Prop
 |.d x,v=>Hd K (hz zA H) x v|.fr xs,v=>Hd K (hz zA H) (.lst xs) v|.z,v=>∃ a,zA=some a/\v=.ref a
section
variable {K:Â}{zA:Zl}{H0 H H':Hp}
theorem j6.pl{s:S}{v:V}(h:j6 K zA H0 H s v):wy K zA H s v:=by
 cases s with
 |d x=>exact h|z=>exact h
 |fr xs =>
  obtain⟨a,ys,rfl,_,h2,h3,h4⟩:=h;exact Hd.lst (bw h3 h2) (h4.same (cK a _))
theorem wy.gK{s:S}{v:V}(h:wy K zA H s v):wy K zA H (gK s) v:=by cases s <;> exact h
theorem wy.mono{s:S}{v:V}(h:wy K zA H s v)(e:Ext zA H H'):wy K zA H' s v:=by
 cases s with
 |d x=>exact Hd.same e h|z=>exact h|fr xs=>exact Hd.same e h
theorem j6.mono{s:S}{v:V}(h:j6 K zA H0 H s v)(e:Ext zA H H'):j6 K zA H0 H' s v:=by
 cases s with
 |d x=>exact Hd.same e h|z=>exact h
 |fr xs =>
  obtain⟨a,ys,rfl,h1,h2,h3,h4⟩:=h;exact⟨a,ys,rfl,h1,h2,e.at h3 h2,h4.same (lI λb o _ q=>e b o q)⟩
theorem j6.from{H1:Hp}{s:S}{v:V}(h:j6 K zA H1 H s v)(e:Ext zA H0 H1):j6 K zA H0 H s v:=by
 cases s with
 |d x=>exact h|z=>exact h
 |fr xs =>
  obtain⟨a,ys,rfl,h1,h2,h3⟩:=h;exact⟨a,ys,rfl,e.free h1 h2,h2,h3⟩
theorem wy.d_{s:S}{v:V}{x:D}(h:wy K zA H s v)(e:Cb s=some x):Hd K (hz zA H) x v:=by
 cases s with
 |d y=>cases e;exact h
 |fr xs=>cases e;exact h
 |_=>cases e
end
abbrev pZ(K:Â)(zA:Zl)(H:Hp):List S->List V->Prop:=Rx (wy K zA H)
def pZ.mono{K:Â}{zA:Zl}{H H':Hp}{l:List S}{vs:List V}(h:pZ K zA H l vs)(e:Ext zA H H'):pZ K zA H' l vs:=Rx.zP h λ_ _ q=>q.mono e
theorem pZ.gK{K:Â}{zA:Zl}{H:Hp}:∀ {l:List S}{vs:List V},pZ K zA H l vs->pZ K zA H (l.map gK) vs
 |_,_,.nil=>.nil|_,_,.cons r t=>.cons r.gK (pZ.gK t)
theorem pZ.ds{K:Â}{zA:Zl}{H:Hp}:∀ {l:List S}{vs:List V}{ds:List D},pZ K zA H l vs->iZ l=some ds->aK K (hz zA H) ds vs
 |_,_,_,.nil,e=>by cases e;exact .nil
 |.d x::r,_,_,.cons h t,e=>by
  simp only[iZ,UD] at e;obtain⟨l,e,rfl⟩:=e;exact .cons h (pZ.ds t e)
 |.fr x::r,_,_,.cons h t,e=>by
  simp only[iZ,UD] at e;obtain⟨l,e,rfl⟩:=e;exact .cons h (pZ.ds t e)
 |.z::r,_,_,.cons h t,e=>by simp[iZ] at e
theorem cA(h:pl l=some x):∃ s,l=[s]/\Cb s=some x:=by
 unfold pl at h;split at h
 ·exact⟨_,rfl,h⟩
 ·exact⟨_,rfl,h⟩
 ·cases h
theorem M.bind_some{α β:Type}{m:M α}{f:α->M β}{z:Z}{r:R β}(h:Zd m f z=some r):(∃ a z1,m z=some (.ok a z1)/\f a z1=some r)\/(∃ c z1,m z=some (.er c z1)/\r=.er c z1):=by
 unfold Zd at h;split at h
 ·exact .inl ⟨_,_,by assumption,h⟩
 ·cases h;exact .inr ⟨_,_,by assumption,rfl⟩
 ·cases h
theorem M.ag{α β:Type}{o:Option α}{f:α->M β}{z:Z}{r:R β}(h:Zd (Zf o) f z=some r):∃ a,o=some a/\f a z=some r:=by
 cases o with
 |none=>cases h
 |some a=>exact⟨a,rfl,h⟩
end Q
set_option exponentiation.threshold 5000
namespace Q
open PySem L2 PySem.Spec PyProof.Rows
variable [TB:Tb]
section
variable {K:Â}{zA:Zl}{z:Z}{H:Hp}
def Cj(hp:H p=none):af (hz zA H) (hide p (hz zA (upd H p o))):=λb u e=>by
 obtain⟨e1,e2⟩:=fF e;have hb:b≠p:=λq=>by subst q;rw[hp] at e1;cases e1
 exact n5 (bw (by rw[ai hb];exact e1) e2 (gA e)) hb
def cZ:j6 K zA H0 H (.d (.int i)) (.int i):=Hd.int (K:=K) (H:=hz zA H)
def cT:j6 K zA H0 H (.d (.bl b)) (.bl b):=Hd.bl (K:=K) (H:=hz zA H)
def oo(h:Hd K (hz zA H) x v):j6 K zA H0 H (.d x) v:=h
def ir(st:aM zA z H)(h:aK K (hz zA H) xs ys)(hp:H p=none):j6 K zA H (upd H p (.lst ys)) (.fr xs) (.ref p):=
 ⟨p,ys,rfl,hp,st.xo hp,aO,h.same (Cj hp)⟩
def tupQ(st:aM zA z H)(h:aK K (hz zA H) xs ys)(q:∀ v H',af H H'->j6 K zA H H' (.d (.tup xs)) v->Q v H'):uD K H ys Q:=
 λp H' sm hq=>q _ _ sm (oo (Hd.tup ((st.same sm).xn hq) (h.same (dG sm))))
end
def qa(K:Â)(f:D->D->Option S):R2:=λx y H Q=>∃ zA z dx dy s,aM zA z H/\Hd K (hz zA H) dx x/\Hd K (hz zA H) dy y/\f dx dy=some s/\∀ v H',af H H'->j6 K zA H H' s v->Q v H'
def As(K:Â)(f:List D->Option S):List V->Hp->VK->Prop:=λxs H Q=>∃ zA z ds s,aM zA z H/\aK K (hz zA H) ds xs/\f ds=some s/\∀ v H',af H H'->j6 K zA H H' s v->Q v H'
section
variable {X:Cx}
theorem bits_le(h:k.natAbs < gR):Wi k<=4000:=by
 unfold Wi;split
 ·exact Se _
 ·have hn:k.natAbs < 2 ^ 4000:=h;have:k.natAbs.log2 < 4000:=by
   rcases Yg k.natAbs with h0 | hp
   ·rw[h0];decide
   ·exact(Nat.log2_lt (R0 hp)).mpr hn
  omega
theorem Ck(hi:i.natAbs < gR)(hj:j.natAbs < gR):IntMulOk i j:=by
 have h1:=bits_le hi;have h2:=bits_le hj;unfold IntMulOk;intro h;rw[Á] at h;have h3:=h.2;unfold Builtin.Int.intTooBig at h3;simp only[decide_eq_true_eq] at h3;have:(8000:Nat) < bitsLine:=1e1
 omega
theorem Au(hj:j.natAbs < gR):Builtin.divisionGoesByPylong i j=false:=by
 refine PyProof.noPylong_of_log2 ?_;rcases Yg j.natAbs with h0 | hp
 ·rw[h0];decide
 ·have:j.natAbs.log2 < 4000:=(Nat.log2_lt (R0 hp)).mpr hj;omega
theorem d9(h:n<=most):n<=sizeLine:=ê h (by rw[Qy];decide)
def LS(K:Â):R2:=λx y H Q=>∃ l b xs zs,x=.ref l/\y=.ref b/\cY K H l xs/\cY K H b zs/\xs.length + zs.length<=sizeLine/\∀ p,H p=none->Q (.ref p) (upd H p (.lst (xs++zs)))
theorem Fs:hW X (RX .Add) (LS X.K):=by
 intro aa s σ H x y v u Q I rx ry h;obtain⟨l,b,xs,zs,rfl,rfl,hH,hB,hz,q⟩:=h;cases rx;cases ry;obtain⟨z,ar,n,r,hl,e⟩:=hH.mem I;obtain⟨z2,its2,n2,r2,hl2,e2⟩:=hB.mem I;refine PySem.P.add_list e e2 ?_ (by rw[ã,ã];omega)
 have ea:ar.toArray++its2.toArray=(ar++its2).toArray:=by simp
 rw[ea];exact⟨.ref _,_,I.Og (t':=s.toks) (r.append r2) (by rw[Rk];omega),rfl,q _ I.fresh⟩
theorem Ft:hW X (RX .Add) (qa X.K (dZ .add)):=by
 intro aa s σ H x y v u Q I rx ry h;obtain⟨zA,z,dx,dy,w,st,hx,hy,e,q⟩:=h;cases dx with
 |int i =>
  cases dy with
  |int j =>
   cases e;cases hx.bK;cases hy.bK;exact Ic aa s σ H _ _ v u Q I rx ry ⟨i,j,rfl,rfl,q _ _ (af.refl H) cZ⟩
  |_=>cases e
 |tup a =>
  cases dy with
  |tup b =>
   obtain⟨hl,e⟩:=cL e;cases e;obtain⟨p,xs,rfl,h1,h2⟩:=hx.fE;obtain⟨p',ys,rfl,h3,h4⟩:=hy.fE;exact Fb aa s σ H _ _ v u Q I rx ry ⟨p,p',xs,ys,rfl,rfl,(ah zA H).jV h1,(ah zA H).jV h3,d9 (by rw[h2.length,h4.length];exact hl),tupQ st (h2.append h4) q⟩
  |_=>cases e
 |lst a =>
  cases dy with
  |lst b =>
   obtain⟨hl,e⟩:=cL e;cases e;obtain⟨p,xs,rfl,h1,h2⟩:=hx.kM;obtain⟨p',ys,rfl,h3,h4⟩:=hy.kM;exact Fs aa s σ H _ _ v u Q I rx ry ⟨p,p',xs,ys,rfl,rfl,h1.same (ah zA H),h3.same (ah zA H),d9 (by rw[h2.length,h4.length];exact hl),λr hr=>q _ _ (af.new _ hr) (ir st (h2.append h4) hr)⟩
  |_=>cases e
 |_=>cases e
theorem Fu:hW X (RX .Sub) (qa X.K (dZ .sub)):=by
 intro aa s σ H x y v u Q I rx ry h;obtain⟨zA,z,dx,dy,w,st,hx,hy,e,q⟩:=h;cases dx with
 |int i =>
  cases dy with
  |int j =>
   cases e;cases hx.bK;cases hy.bK;exact Ie aa s σ H _ _ v u Q I rx ry ⟨i,j,rfl,rfl,q _ _ (af.refl H) cZ⟩
  |_=>cases e
 |_=>cases e
theorem Fv:hW X (RX .Mult) (qa X.K (dZ .mul)):=by
 intro aa s σ H x y v u Q I rx ry h;obtain⟨zA,z,dx,dy,w,st,hx,hy,e,q⟩:=h;cases dx with
 |int i =>
  cases dy with
  |int j =>
   obtain⟨hl,e⟩:=cL e;cases e;cases hx.bK;cases hy.bK;obtain⟨t,rfl⟩:=rx;obtain⟨t',rfl⟩:=ry;exact mul_int ⟨.int (i * j),H,I.tok _,⟨_,rfl⟩,q _ _ (af.refl H) cZ⟩ (Ck hl.1 hl.2)
  |_=>cases e
 |_=>cases e
theorem Cn:hW X (RX .FloorDiv) (qa X.K (dZ .fdiv)):=by
 intro aa s σ H x y v u Q I rx ry h;obtain⟨zA,z,dx,dy,w,st,hx,hy,e,q⟩:=h;cases dx with
 |int i =>
  cases dy with
  |int j =>
   obtain⟨hl,e⟩:=cL e;cases e;cases hx.bK;cases hy.bK;obtain⟨t,rfl⟩:=rx;obtain⟨t',rfl⟩:=ry;refine floordiv_int ∅ ⟨.int (i / j),H,I.tok _,⟨s.toks,?_⟩,q _ _ (af.refl H) cZ⟩ (.inl (Au hl.2))
   rw[Int.fdiv_eq_ediv_of_nonneg _ ∅]
  |_=>cases e
 |_=>cases e
theorem Fw:hW X (RX .Mod) (qa X.K (dZ .mod)):=by
 intro aa s σ H x y v u Q I rx ry h;obtain⟨zA,z,dx,dy,w,st,hx,hy,e,q⟩:=h;cases dx with
 |int i =>
  cases dy with
  |int j =>
   obtain⟨hl,e⟩:=cL e;cases e;cases hx.bK;cases hy.bK;exact Ig aa s σ H _ _ v u Q I rx ry ⟨i,j,rfl,rfl,hl,q _ _ (af.refl H) cZ⟩
  |_=>cases e
 |_=>cases e
theorem Fx:hW X (RX .Pow) (qa X.K (dZ .pow)):=by
 intro aa s σ H x y v u Q I rx ry h;obtain⟨zA,z,dx,dy,w,st,hx,hy,e,q⟩:=h;cases dx with
 |int i =>
  cases dy with
  |int j =>
   obtain⟨hl,e⟩:=cL e;cases e;cases hx.bK;cases hy.bK;exact Ih aa s σ H _ _ v u Q I rx ry ⟨i,j,rfl,rfl,⟨hl.1,∅,hl.2.2⟩,q _ _ (af.refl H) cZ⟩
  |_=>cases e
 |_=>cases e
def OR:Bi->T6
 |.add=>.Add | .sub=>.Sub | .mul=>.Mult | .fdiv=>.FloorDiv | .mod=>.Mod | .pow=>.Pow
theorem Qe(o:Bi):hW X (RX (OR o)) (qa X.K (dZ o)):=by
 cases o
 ·exact Ft
 ·exact Fu
 ·exact Fv
 ·exact Cn
 ·exact Fw
 ·exact Fx
mutual
noncomputable def oq:D->PyData
 |.bp=>.none|.bl b=>.bool b|.int i=>.int i|.str x=>.str x|.tup l=>.tuple (iw l)|.lst l=>.list (iw l)|.dct=>.none
noncomputable def iw:List D->List PyData
 |[]=>[]|x::r=>oq x::iw r
end
end
end Q
namespace Q
open PySem L2 PySem.Spec PyProof.Rows
variable [TB:Tb]
mutual
theorem ou:∀ a b:D,dY a=true->dY b=true->VR (oq a) (oq b)=Er a b
 |.bp,b,_,h=>by cases b <;> first | rfl | (simp[dY] at h)
 |.bl _,b,_,h=>by cases b <;> first | rfl | (simp[dY] at h)
 |.int _,b,_,h=>by cases b <;> first | rfl | (simp[dY] at h)
 |.str _,b,_,h=>by cases b <;> first | rfl | (simp[dY] at h)
 |.tup l,b,ha,h=>by
  cases b with
  |tup q =>
   exact sr l q (by simpa [dY] using ha) (by simpa [dY] using h)
  |dct=>simp[dY] at h|_=>rfl
 |.lst l,b,ha,h=>by
  cases b with
  |lst q =>
   exact sr l q (by simpa [dY] using ha) (by simpa [dY] using h)
  |dct=>simp[dY] at h|_=>rfl
 |.dct,_,h,_=>by simp[dY] at h
theorem sr:∀ a b:List D,bX a=true->bX b=true->YC (iw a) (iw b)=uL a b
 |[],[],_,_=>rfl|[],_::_,_,_=>rfl|_::_,[],_,_=>rfl
 |x::r,y::q,ha,hb=>by
  simp only[bX,Á] at ha hb;simp only[iw,YC,uL];rw[ou x y ha.1 hb.1,sr r q ha.2 hb.2]
end
mutual
theorem jg:∀ a:D,dY a=true->(oq a).canLay0=true
 |.bp,_=>rfl|.bl _,_=>rfl|.int _,_=>rfl|.str _,h=>h|.tup l,h=>iy l h|.lst l,h=>iy l h|.dct,h=>by cases h
theorem iy:∀ a:List D,bX a=true->XA (iw a)=true
 |[],_=>rfl
 |x::r,h=>by
  simp only[bX,Á] at h;simp only[iw,XA,jg x h.1,iy r h.2,Bool.and_self]
end
mutual
theorem nj:∀ a:D,(oq a).depth=deep a
 |.bp=>rfl|.bl _=>rfl|.int _=>rfl|.str _=>rfl|.tup l=>congrArg (· + 1) (oy l)|.lst l=>congrArg (· + 1) (oy l)|.dct=>rfl
theorem oy:∀ a:List D,Ui (iw a)=da a
 |[]=>rfl
 |x::r=>by
  simp only[iw,Ui,da];rw[nj x,oy r]
end
def qM(h:ø)(u:Å)(d:D):Prop:=dY d=true/\∃ as,Reads h u (oq d) as
def bx(h:ø)(us:Zj)(ds:List D):Prop:=bX ds=true/\∃ as,W8 h us (iw ds) as
section
variable {X:Cx}{aa:List (Ì × Obj)}{σ:L2.St}{H:Hp}{s:É}
mutual
theorem dv(I:Inv X aa σ H s):∀ {d:D}{v:V}{u:Å},Hd X.K H d v->RelV v u->dY d=true->∃ as,Reads s.heap u (oq d) as
 |.bp,_,_,h,r,_=>by cases h.Fq;cases r;exact⟨_,.none⟩
 |.bl b,_,_,h,r,_=>by cases h.yG;cases r;exact⟨_,.bool b⟩
 |.int i,_,_,h,r,_=>by cases h.bK;obtain⟨t,rfl⟩:=r;exact⟨_,.int i t⟩
 |.str x,_,_,h,r,_=>by cases h.IS;obtain⟨t,rfl⟩:=r;exact⟨_,.str x t⟩
 |.tup l,_,_,h,r,f=>by
  obtain⟨a,xs,rfl,h1,h2⟩:=h.fE;cases r;obtain⟨ar,rv,⟨o,e1,e2,n,e3⟩,_⟩:=I.tuple h1;obtain⟨as,ra⟩:=kO I h2 rv f;exact⟨_,.tuple e1 e2 e3 (by simpa using ra)⟩
 |.lst l,_,_,h,r,f=>by
  obtain⟨a,xs,rfl,h1,h2⟩:=h.kM;cases r;obtain⟨ar,rv,⟨o,n,e1,e2,_,e3⟩,_⟩:=I.list h1.sq;obtain⟨as,ra⟩:=kO I h2 rv f;exact⟨_,.list e1 e2 e3 (by simpa using ra)⟩
 |.dct,_,_,_,_,f=>by cases f
theorem kO(I:Inv X aa σ H s):∀ {ds:List D}{vs:List V}{us:Zj},aK X.K H ds vs->Vals vs us->bX ds=true->∃ as,W8 s.heap us (iw ds) as
 |[],_,_,h,r,_=>by cases h.bN;cases r;exact⟨_,.nil⟩
 |d::ds,_,_,h,r,f=>by
  obtain⟨x,xs,rfl,h1,h2⟩:=h.aN;cases r with
  |cons r1 r2 =>
   simp only[bX,Á] at f;obtain⟨_,a1⟩:=dv I h1 r1 f.1;obtain⟨_,a2⟩:=kO I h2 r2 f.2;exact⟨_,.cons a1 a2⟩
end
end
theorem fG(h:mW d=true):dY d=true/\SeqAt.shaped (oq d)=true:=by
 unfold mW at h;rw[Á,decide_eq_true_eq] at h;refine⟨h.1,?_⟩;unfold SeqAt.shaped;rw[jg d h.1,nj,RK,decide_eq_true_eq];omega
section
variable {X:Cx}
theorem IU(h:OO a b=some c):∃ l,a=.tup l/\b=.tup []/\c=l.isEmpty:=by
 unfold OO at h;split at h
 ·cases h;exact⟨_,rfl,rfl,rfl⟩
 ·cases h
theorem IV(hu:X.A.units + 64 < Rz):hW X (Qw .Eq) (qa X.K λa b=>(eqQ a b).map λc=>.d (.bl c)):=by
 intro aa s σ H x y v u Q I rx ry h;obtain⟨zA,z,dx,dy,w,st,hx,hy,e,q⟩:=h;unfold eqQ at e;dsimp only at e;split at e
 ·rename_i ok;cases e;rw[Á] at ok;obtain⟨f1,s1⟩:=fG ok.1;obtain⟨f2,s2⟩:=fG ok.2;obtain⟨as,r1⟩:=dv I (hx.same (ah zA H)) rx f1;obtain⟨bs,r2⟩:=dv I (hy.same (ah zA H)) ry f2;exact eq_dataH r1 r2 s1 s2 hu ⟨.bl _,H,I,rfl,by rw[ou dx dy f1 f2];exact q _ _ (af.refl H) cT⟩
 ·obtain⟨c,h1,h2⟩:=Ð.mp e;obtain⟨l,rfl,rfl,rfl⟩:=IU h1;subst h2;obtain⟨a,xs,rfl,k1,k2⟩:=hx.fE;obtain⟨b,ys,rfl,k3,k4⟩:=hy.fE;cases k4.bN;cases rx;cases ry;obtain⟨ar,rv,ht,_⟩:=I.tuple ((ah zA H).jV k1);obtain⟨iu,ru,hu2,_⟩:=I.tuple ((ah zA H).jV k3);cases ru;have e1:ar.length=l.length:=by rw[← rv.length,k2.length]
  refine SeqAt.eq_tupleAt (e:=λ_=>true) ht hu2 ∅ (λj _ h2=>absurd h2 (V5 j)) ⟨.bl _,H,I,rfl,?_⟩
  have e2:((Ö (min ar.toArray.size ([]:Zj).toArray.size)).all (λ_=>true)&&ar.toArray.size == ([]:Zj).toArray.size)=l.isEmpty:=by
   simp only[ã,QO,Nat.min_zero,List.range_zero,Xk,RK,e1];cases l <;> rfl
  rw[e2];exact q _ _ (af.refl H) cT
theorem IW(hu:X.A.units + 64 < Rz):hW X (Qw .NotEq) (qa X.K λa b=>(G8 a b).map λc=>.d (.bl !c)):=by
 intro aa s σ H x y v u Q I rx ry h;obtain⟨zA,z,dx,dy,w,st,hx,hy,e,q⟩:=h;unfold G8 at e;dsimp only at e;split at e
 ·rename_i ok;cases e;rw[Á] at ok;obtain⟨f1,s1⟩:=fG ok.1;obtain⟨f2,s2⟩:=fG ok.2;obtain⟨as,r1⟩:=dv I (hx.same (ah zA H)) rx f1;obtain⟨bs,r2⟩:=dv I (hy.same (ah zA H)) ry f2;exact ne_dataH r1 r2 s1 s2 hu ⟨.bl _,H,I,rfl,by rw[ou dx dy f1 f2];exact q _ _ (af.refl H) cT⟩
 ·cases e
theorem Fy(hu:X.A.units + 64 < Rz):hW X (Qw .NotEq) (qa X.K λa b=>(OP a b).map λc=>.d (.bl c)):=by
 intro aa s σ H x y v u Q I rx ry h;obtain⟨zA,z,dx,dy,w,st,hx,hy,e,q⟩:=h;unfold OP at e;refine IW hu aa s σ H _ _ v u Q I rx ry ⟨zA,z,dx,dy,w,st,hx,hy,?_,q⟩;rw[← e];show _=((G8 dx dy).map (!·)).map _;rw[Yp];rfl
end
theorem nk(h:Aq l=true):bX l=true/\da l<=39:=by
 unfold Aq at h;rw[Á,decide_eq_true_eq] at h;exact h
theorem oz(h:mW d=true):deep d<=40:=by
 unfold mW at h;rw[Á,decide_eq_true_eq] at h;exact h.2
theorem kP(x:D)(fx:dY x=true):∀ l:List D,bX l=true->((iw l).any λy=>VR y (oq x))=memD x l
 |[],_=>rfl
 |y::r,h=>by
  simp only[bX,Á] at h;show(VR (oq y) (oq x) || (iw r).any λy=>VR y (oq x))=(Er y x || memD x r);rw[ou y x h.1 fx,kP x fx r h.2]
section
variable {X:Cx}
theorem nq(h:uM x l=some b):mW x=true/\Aq l=true/\b=memD x l:=by
 unfold uM at h;split at h
 ·rename_i ok;rw[Á] at ok;cases h;exact⟨ok.1,ok.2,rfl⟩
 ·cases h
theorem room_in{A:ö}(hu:A.units + 64 < Rz){l:List D}{x:D}(h:mW x=true):A.units + 1 + min (Ui (iw l)) (oq x).depth < cLine:=by
 have h1:=oz h;have h2:min (Ui (iw l)) (oq x).depth<=(oq x).depth:=YD _ _;have h3:=nj x;omega
theorem Fz(hu:X.A.units + 64 < Rz):hW X (Qw .In) (qa X.K λa b=>(fZ .mem a b).map λc=>.d (.bl c)):=by
 intro aa s σ H x y v u Q I rx ry h;obtain⟨zA,z,dx,dy,w,st,hx,hy,e,q⟩:=h;cases dy with
 |tup l =>
  obtain⟨b,e1,e2⟩:=Ð.mp e;subst e2;obtain⟨o1,o2,rfl⟩:=nq e1;obtain⟨f2,_⟩:=nk o2;obtain⟨f1,_⟩:=fG o1;obtain⟨as,r1⟩:=dv I (hx.same (ah zA H)) rx f1;obtain⟨bs,r2⟩:=dv I (hy.same (ah zA H)) ry (by simpa [dY] using f2)
  exact SeqAt.in_tuple_reads r2 r1 (iy l f2) (jg dx f1) (room_in hu o1) ⟨.bl _,H,I,rfl,by rw[kP dx f1 l f2];exact q _ _ (af.refl H) cT⟩
 |lst l =>
  obtain⟨b,e1,e2⟩:=Ð.mp e;subst e2;obtain⟨o1,o2,rfl⟩:=nq e1;obtain⟨f2,_⟩:=nk o2;obtain⟨f1,_⟩:=fG o1;obtain⟨as,r1⟩:=dv I (hx.same (ah zA H)) rx f1;obtain⟨bs,r2⟩:=dv I (hy.same (ah zA H)) ry (by simpa [dY] using f2)
  exact SeqAt.in_list_reads r2 r1 (iy l f2) (jg dx f1) (room_in hu o1) ⟨.bl _,H,I,rfl,by rw[kP dx f1 l f2];exact q _ _ (af.refl H) cT⟩
 |_=>cases e
theorem Co(hu:X.A.units + 64 < Rz):hW X (Qw .NotIn) (qa X.K λa b=>(fZ .nmem a b).map λc=>.d (.bl c)):=by
 intro aa s σ H x y v u Q I rx ry h;obtain⟨zA,z,dx,dy,w,st,hx,hy,e,q⟩:=h;cases dy with
 |tup l =>
  obtain⟨b,e1,e2⟩:=Ð.mp e;subst e2;obtain⟨b',e3,rfl⟩:=Ð.mp e1;obtain⟨o1,o2,rfl⟩:=nq e3;obtain⟨f2,_⟩:=nk o2;obtain⟨f1,_⟩:=fG o1;obtain⟨as,r1⟩:=dv I (hx.same (ah zA H)) rx f1;obtain⟨bs,r2⟩:=dv I (hy.same (ah zA H)) ry (by simpa [dY] using f2)
  exact SeqAt.notIn_tuple_reads r2 r1 (iy l f2) (jg dx f1) (room_in hu o1) ⟨.bl _,H,I,rfl,by rw[kP dx f1 l f2];exact q _ _ (af.refl H) cT⟩
 |lst l =>
  obtain⟨b,e1,e2⟩:=Ð.mp e;subst e2;obtain⟨b',e3,rfl⟩:=Ð.mp e1;obtain⟨o1,o2,rfl⟩:=nq e3;obtain⟨f2,_⟩:=nk o2;obtain⟨f1,_⟩:=fG o1;obtain⟨as,r1⟩:=dv I (hx.same (ah zA H)) rx f1;obtain⟨bs,r2⟩:=dv I (hy.same (ah zA H)) ry (by simpa [dY] using f2)
  exact SeqAt.notIn_list_reads r2 r1 (iy l f2) (jg dx f1) (room_in hu o1) ⟨.bl _,H,I,rfl,by rw[kP dx f1 l f2];exact q _ _ (af.refl H) cT⟩
 |_=>cases e
end
end Q
namespace Q
open PySem L2 PySem.Spec PyProof.Rows
variable [TB:Tb]
def IY(A:ö)(s:É)(v u:Å)(b:Bool):Prop:=∀ (P:â) (w:ó) (E:Å->É->Prop) (Q:Å->É->Prop),Q (.bool b) s->Ô (à P w) A (Yx .Lt v u) Q E s
section
open PySem.SeqAt
open PySem.AutoSeq1 (wpAny_loadPart')
open PySem.MeetsSeq PySem.MeetsSeq2 PySem.MeetsSeq3
inductive Lx (A:Around) (s:Shared):List Value->List Value->Bool->Prop
 |nn:Lx A s [] [] false
 |nc {u us}:Lx A s [] (u::us) true
 |cn {v vs}:Lx A s (v::vs) [] false
 |eq {v u vs us b}:EqAt A s v u true->Lx A s vs us b->Lx A s (v::vs) (u::us) b
 |ne {v u vs us b}:EqAt A s v u false->IY A s v u b->Lx A s (v::vs) (u::us) b
theorem mD(l b:Ì)(items items2:Zo)(n n2:Nat)(dd dd2:Zl)(sl sl2:Array Zn)(c:Bool) :
 Meets (Ss.«tuple.__lt__» ⟨[.ref l,.ref b],[]⟩)
   (λA R s=>s.heap.get? l=some { cls:=.type "tuple",dict:=dd,data:=.seq items n,slots:=sl }/\s.heap.get? b=some { cls:=.type "tuple",dict:=dd2,data:=.seq items2 n2,slots:=sl2 } /\
    Lx A.in1 s items.toList items2.toList c/\R (.ok (.ret (.bool c))) s):=
 .of_wp λprog w A R s h=>by
  obtain⟨hp,g,d,tk,os⟩:=s;obtain⟨hl,hb,hx,h⟩:=h;have f2:=VT
  wp_walk using S6 hl,S6 hb,wpAny_forIn_list _ (λrest b s'=>b.1=none/\s'=⟨hp,g,d,tk,os⟩/\∃ (vs ws:Zj),rest=vs.zip ws /\
   vs.length + items2.size=ws.length + items.size/\Lx A.in1 ⟨hp,g,d,tk,os⟩ vs ws c) _
  case turn =>
   rintro ⟨y,x⟩ rest b s' ⟨hb',rfl,vs,ws,hz,hlen,hR⟩;cases hR with
   |nn=>rw[Vl] at hz;cases hz
   |nc=>rw[Vl] at hz;cases hz
   |cn=>rw[XR] at hz;cases hz
   |eq he hr =>
    rw[Sv] at hz;injection hz with hyx hrest;injection hyx with hy hx';subst hy hx';simp only[Ü] at hlen;refine À (he prog w _ _ ?_)
    wp_walk
    exact⟨rfl,rfl,_,_,hrest,∅,hr⟩
   |ne he hr =>
    rw[Sv] at hz;injection hz with hyx hrest;injection hyx with hy hx';subst hy hx';refine À (he prog w _ _ ?_);have hri:=λE Q q=>hr prog w E Q q
    wp_walk using hri
    exact⟨_,rfl,by simpa using h⟩
  case fin =>
   rintro ⟨b1,b2⟩ s' ⟨hb',rfl,vs,ws,hz,hlen,hR⟩;simp only at hb';subst hb';have hv:c=decide (items.size < items2.size):=by
    cases hR with
    |nn=>simp only[QO] at hlen;exact(decide_eq_false ∅).symm|nc=>simp only[QO,Ü] at hlen;exact(decide_eq_true ∅).symm|cn=>simp only[QO,Ü] at hlen;exact(decide_eq_false ∅).symm|eq he hr=>rw[Sv] at hz;cases hz
    |ne he hr=>rw[Sv] at hz;cases hz
   rw[hv] at h
   wp_walk
   exact⟨_,rfl,by simpa [Vz] using h⟩
  case h =>
   exact⟨rfl,rfl,items.toList,items2.toList,rfl,by simp;omega,hx⟩
end
theorem Av(hl:UE s.heap l i1)(hb:UE s.heap b i2)(hu:A.units < Rz)(hx:Lx A.in1 s i1.toList i2.toList c):IY A s (.ref l) (.ref b) c:=by
 intro P w E Q h;obtain⟨⟨cls,dd,data,sl⟩,ho,hc,n,hd⟩:=id hl;obtain⟨⟨cls2,dd2,data2,sl2⟩,ho2,hc2,n2,hd2⟩:=id hb;simp only at hc hd hc2 hd2;subst hc hd hc2 hd2;exact X1 (op:=.Lt) ⟨_,ho,rfl⟩ ⟨_,ho2,rfl⟩ Uh Wt (Wc _ _) (mD l b i1 i2 n n2 dd dd2 sl sl2 c)
  ⟨ho,ho2,hx,show Tc c≠W6/\Q (.bool c) s from⟨(λx=>nomatch x),h⟩⟩ hu
theorem Hc(ha:qM s.heap v a)(hb:qM s.heap u b)(hu:A.units + deep a < Rz):SeqAt.EqAt A s v u (Er a b):=by
 obtain⟨f1,as,r1⟩:=ha;obtain⟨f2,bs,r2⟩:=hb;rw[← ou a b f1 f2];have h:=nj a;have h2:min (oq a).depth (oq b).depth<=(oq a).depth:=Nat.min_le_left _ _;exact SeqAt.eqAt_reads (oq a) (oq b) A s v u as bs r1 r2 (jg a f1) (jg b f2) ∅
theorem bx.aN(x:bx h us (d::ds)):∃ u r,us=u::r/\qM h u d/\bx h r ds:=by
 obtain⟨f,as,r⟩:=x;simp only[bX,Á] at f;cases r with
 |cons r1 r2=>exact⟨_,_,rfl,⟨f.1,_,r1⟩,f.2,_,r2⟩
theorem bx.bN(x:bx h us []):us=[]:=by
 obtain⟨_,as,r⟩:=x;cases r;rfl
def in1_units(A:ö):A.in1.units=A.units + 1:=rfl
theorem Cp:∀ (n:Nat) {A:ö}{s:É},
 (∀ (a b:D) (v u:Å) (c:Bool),deep a<=n->qM s.heap v a->qM s.heap u b->Es a b=some c->A.units + n < Rz->IY A s v u c) /\
 (∀ (a b:List D) (vs us:Zj) (c:Bool),da a < n->bx s.heap vs a->bx s.heap us b->sh a b=some c->A.units + n < Rz->Lx A.in1 s vs us c):=by
 intro n
 induction n with
 |zero =>
  intro A s;refine⟨λa b v u c hd ha hb e hu=>?_,λa b vs us c hd=>absurd hd (V5 _)⟩;cases a with
  |int i =>
   cases b with
   |int j =>
    cases e;obtain⟨_,_,r1⟩:=ha;obtain⟨_,_,r2⟩:=hb;cases r1;cases r2;exact λP w E Q h=>HT.um A s i _ j _ P w E Q h
   |_=>cases e
  |tup l=>simp[deep] at hd|_=>cases e
 |succ n ih =>
  have rows:∀ {A:ö}{s:É} (a b:List D) (vs us:Zj) (c:Bool),da a < n + 1->bx s.heap vs a->bx s.heap us b->sh a b=some c->A.units + (n + 1) < Rz->Lx A.in1 s vs us c:=by
   intro A s a
   induction a with
   |nil =>
    intro b vs us c _ ha hb e hu;cases ha.bN;cases b with
    |nil=>cases hb.bN;cases e;exact .nn
    |cons y q=>obtain⟨u,r,rfl,_⟩:=hb.aN;cases e;exact .nc
   |cons x r ihr =>
    intro b vs us c hd ha hb e hu;obtain⟨v,vs',rfl,a1,a2⟩:=ha.aN;cases b with
    |nil=>cases hb.bN;cases e;exact .cn
    |cons y q =>
     obtain⟨u,us',rfl,b1,b2⟩:=hb.aN;simp only[da] at hd;have d1:deep x<=n:=Nat.le_of_lt_succ (Sy (YY _ _) hd);have d2:da r < n + 1:=Sy (YE _ _) hd;have hu1:A.in1.units + n < cLine:=by rw[in1_units];omega
     have he:=Hc (A:=A.in1) a1 b1 ∅
     simp only[sh] at e;cases hq:Er x y with
     |true =>
      rw[hq] at he e;exact .eq he (ihr q vs' us' c d2 a2 b2 (by simpa using e) hu)
     |false =>
      rw[hq] at he e;exact .ne he ((ih (A:=A.in1) (s:=s)).1 x y v u c d1 a1 b1 (by simpa using e) hu1)
  intro A s;refine⟨λa b v u c hd ha hb e hu=>?_,rows⟩;cases a with
  |int i =>
   cases b with
   |int j =>
    cases e;obtain⟨_,_,r1⟩:=ha;obtain⟨_,_,r2⟩:=hb;cases r1;cases r2;exact λP w E Q h=>HT.um A s i _ j _ P w E Q h
   |_=>cases e
  |tup l =>
   cases b with
   |tup q =>
    obtain⟨f1,as,r1⟩:=ha;obtain⟨f2,bs,r2⟩:=hb;simp only[deep] at hd;cases r1 with
    |tuple k1 k2 k3 k4 =>
     cases r2 with
     |tuple m1 m2 m3 m4 =>
      exact Av ⟨_,k1,k2,_,k3⟩ ⟨_,m1,m2,_,m3⟩ ∅ (rows l q _ _ c ∅ ⟨by simpa [dY] using f1,_,k4⟩ ⟨by simpa [dY] using f2,_,m4⟩ e hu)
   |_=>cases e
  |_=>cases e
section
variable {X:Cx}
theorem IZ(h:NI a b=some c):mW a=true/\mW b=true/\Es a b=some c:=by
 unfold NI at h;split at h
 ·rename_i ok;rw[Á] at ok;exact⟨ok.1,ok.2,h⟩
 ·cases h
theorem I0(hu:X.A.units + 64 < Rz):hW X (Qw .Lt) (qa X.K λa b=>(fZ .lt a b).map λc=>.d (.bl c)):=by
 intro aa s σ H x y v u Q I rx ry h;obtain⟨zA,z,dx,dy,w,st,hx,hy,e,q⟩:=h;obtain⟨b,e1,e2⟩:=Ð.mp e;subst e2;obtain⟨o1,o2,e3⟩:=IZ (show NI dx dy=some b from e1);obtain⟨f1,_⟩:=fG o1;obtain⟨f2,_⟩:=fG o2;obtain⟨as,r1⟩:=dv I (hx.same (ah zA H)) rx f1;obtain⟨bs,r2⟩:=dv I (hy.same (ah zA H)) ry f2;exact(Cp 40 (A:=X.A) (s:=s)).1 dx dy v u b (oz o1) ⟨f1,as,r1⟩ ⟨f2,bs,r2⟩ e3 ∅ _ _ _ _ ⟨.bl b,H,I,rfl,q _ _ (af.refl H) cT⟩
theorem su{K:Â}{H:Hp}:∀ {l:List D}{ns:Zi}{vs:List V},jY l=some ns->aK K H l vs->vs=ns.map V.int/\l=ns.map D.int
 |[],_,_,e,h=>by cases e;rw[h.bN];exact⟨rfl,rfl⟩
 |.int i::r,_,_,e,h=>by
  obtain⟨ms,e1,rfl⟩:=Ð.mp e;obtain⟨x,xs,rfl,h1,h2⟩:=h.aN;cases h1.bK;obtain⟨rfl,rfl⟩:=su e1 h2;exact⟨rfl,rfl⟩
 |.bp::_,_,_,e,_=>by cases e
 |.bl _::_,_,_,e,_=>by cases e
 |.str _::_,_,_,e,_=>by cases e
 |.tup _::_,_,_,e,_=>by cases e
 |.lst _::_,_,_,e,_=>by cases e
 |.dct::_,_,_,e,_=>by cases e
theorem Ja(hu:X.A.units + 64 < Rz):hW X (Qw .LtE) (qa X.K λa b=>(fZ .le a b).map λc=>.d (.bl c)):=by
 intro aa s σ H x y v u Q I rx ry h;obtain⟨zA,z,dx,dy,w,st,hx,hy,e,q⟩:=h;cases dx with
 |int i =>
  cases dy with
  |int j =>
   cases e;cases hx.bK;cases hy.bK;exact Ln aa s σ H _ _ v u Q I rx ry ⟨i,j,rfl,rfl,q _ _ (af.refl H) cT⟩
  |_=>cases e
 |tup a =>
  cases dy with
  |tup b =>
   obtain⟨c,e1,e2⟩:=Ð.mp e;subst e2;obtain⟨ns,n1,e1⟩:=Ï.mp (show(jY a).bind _=_ from e1);obtain⟨ms,n2,rfl⟩:=Ð.mp e1;obtain⟨p,xs,rfl,h1,h2⟩:=hx.fE;obtain⟨p',ys,rfl,h3,h4⟩:=hy.fE;obtain⟨rfl,_⟩:=su n1 h2;obtain⟨rfl,_⟩:=su n2 h4;exact IH ∅ aa s σ H _ _ v u Q I rx ry ⟨p,p',ns,ms,rfl,rfl,(ah zA H).jV h1,(ah zA H).jV h3,q _ _ (af.refl H) cT⟩
  |_=>cases e
 |_=>cases e
theorem Jb:hW X (Qw .Gt) (qa X.K λa b=>(fZ .gt a b).map λc=>.d (.bl c)):=by
 intro aa s σ H x y v u Q I rx ry h;obtain⟨zA,z,dx,dy,w,st,hx,hy,e,q⟩:=h;cases dx with
 |int i =>
  cases dy with
  |int j =>
   cases e;cases hx.bK;cases hy.bK;exact Lo aa s σ H _ _ v u Q I rx ry ⟨i,j,rfl,rfl,q _ _ (af.refl H) cT⟩
  |_=>cases e
 |_=>cases e
theorem Jc:hW X (Qw .GtE) (qa X.K λa b=>(fZ .ge a b).map λc=>.d (.bl c)):=by
 intro aa s σ H x y v u Q I rx ry h;obtain⟨zA,z,dx,dy,w,st,hx,hy,e,q⟩:=h;cases dx with
 |int i =>
  cases dy with
  |int j =>
   cases e;cases hx.bK;cases hy.bK;exact Lp aa s σ H _ _ v u Q I rx ry ⟨i,j,rfl,rfl,q _ _ (af.refl H) cT⟩
  |_=>cases e
 |_=>cases e
theorem Cq{K:Â}{H:Hp}{d:D}{v:V}(h:Hd K H d v):decide (v=.bp)=xk d:=by
 cases d with
 |bp=>cases h.Fq;rfl
 |bl b=>cases h.yG;rfl
 |int i=>cases h.bK;rfl
 |str x=>cases h.IS;rfl
 |tup l=>obtain⟨a,xs,rfl,_⟩:=h.fE;rfl
 |lst l=>obtain⟨a,xs,rfl,_⟩:=h.kM;rfl
 |dct=>unfold Hd at h;obtain⟨a,kvs,rfl,_⟩:=h;rfl
theorem Cr:hW X (Qw .IsNot) (qa X.K λa b=>(fZ .isnt a b).map λc=>.d (.bl c)):=by
 intro aa s σ H x y v u Q I rx ry h;obtain⟨zA,z,dx,dy,w,st,hx,hy,e,q⟩:=h;cases dy with
 |bl b =>
  cases dx with
  |bl a =>
   cases e;cases hx.yG;cases hy.yG;exact Ad aa s σ H _ _ v u Q I rx ry ⟨a,b,rfl,rfl,q _ _ (af.refl H) cT⟩
  |_=>cases e
 |bp =>
  have e':some (S.d (.bl (!xk dx)))=some w:=by cases dx <;> exact e
  cases e';cases hy.Fq;refine EJ aa s σ H _ _ v u Q I rx ry ⟨rfl,?_⟩;rw[Cq hx];exact q _ _ (af.refl H) cT
 |_=>cases dx <;> cases e
def FA:Cm->CmpOp
 |.eq=>.Eq | .ne=>.NotEq | .lt=>.Lt | .le=>.LtE | .gt=>.Gt | .ge=>.GtE | .isnt=>.IsNot | .mem=>.In | .nmem=>.NotIn
theorem Aw(hu:X.A.units + 64 < Rz)(o:Cm):hW X (Qw (FA o)) (qa X.K λa b=>(fZ o a b).map λc=>.d (.bl c)):=by
 cases o
 ·exact IV hu
 ·exact Fy hu
 ·exact I0 hu
 ·exact Ja hu
 ·exact Jb
 ·exact Jc
 ·exact Cr
 ·exact Fz hu
 ·exact Co hu
theorem aK.one{K:Â}{H:Hp}{d:D}{xs:List V}(h:aK K H [d] xs):∃ x,xs=[x]/\Hd K H d x:=by
 obtain⟨x,r,rfl,h1,h2⟩:=h.aN;rw[h2.bN];exact⟨x,rfl,h1⟩
theorem aK.two{K:Â}{H:Hp}{d e:D}{xs:List V}(h:aK K H [d,e] xs):∃ x y,xs=[x,y]/\Hd K H d x/\Hd K H e y:=by
 obtain⟨x,r,rfl,h1,h2⟩:=h.aN;obtain⟨y,rfl,h3⟩:=h2.one;exact⟨x,y,rfl,h1,h3⟩
theorem sv{K:Â}{zA:Zl}{H:Hp}{d:D}{l:List D}{v:V}(h:Hd K (hz zA H) d v)(e:kh d=some l):∃ a xs,v=.ref a/\(jP K H a xs\/dU K H a xs)/\aK K (hz zA H) l xs:=by
 cases d with
 |tup m =>
  cases e;obtain⟨a,xs,rfl,h1,h2⟩:=h.fE;exact⟨a,xs,rfl,.inr ((ah zA H).jV h1),h2⟩
 |lst m =>
  cases e;obtain⟨a,xs,rfl,h1,h2⟩:=h.kM;exact⟨a,xs,rfl,.inl (h1.same (ah zA H)).sq,h2⟩
 |_=>cases e
theorem Jd:bZ X (.builtin "len") (As X.K (pY .len)):=by
 intro aa s σ H xs us Q I r h;obtain⟨zA,z,ds,w,st,hx,e,q⟩:=h
 match ds,e with
 |[d],e =>
  obtain⟨l,e1,rfl⟩:=Ð.mp (show(kh d).map _=some w from e);obtain⟨x,rfl,h1⟩:=hx.one;obtain⟨a,ys,rfl,h2,h3⟩:=sv h1 e1;exact rS aa s σ H _ us Q I r ⟨a,ys,rfl,h2,by rw[h3.length];exact q _ _ (af.refl H) cZ⟩
theorem Cs:bZ X (.type "tuple") (As X.K (pY .tuple)):=by
 intro aa s σ H xs us Q I r h;obtain⟨zA,z,ds,w,st,hx,e,q⟩:=h
 match ds,e with
 |[d],e =>
  obtain⟨l,e1,rfl⟩:=Ð.mp (show(kh d).map _=some w from e);obtain⟨x,rfl,h1⟩:=hx.one;obtain⟨a,ys,rfl,h2,h3⟩:=sv h1 e1;refine qc aa s σ H _ us Q I r ⟨a,ys,rfl,?_⟩;rcases h2 with h2 | h2
  ·refine .inl ⟨h2,λp hp=>q _ _ (af.new _ hp) (oo (Hd.tup ((st.same (af.new _ hp)).xn (dU.of aO)) (h3.same (dG (af.new _ hp)))))⟩
  ·exact .inr ⟨h2,q _ _ (af.refl H) (oo (Hd.tup (st.xn h2) h3))⟩
theorem FC:bZ X (.type "list") (As X.K (pY .list)):=by
 intro aa s σ H xs us Q I r h;obtain⟨zA,z,ds,w,st,hx,e,q⟩:=h
 match ds,e with
 |[d],e =>
  obtain⟨l,e1,rfl⟩:=Ð.mp (show(kh d).map _=some w from e);obtain⟨x,rfl,h1⟩:=hx.one;obtain⟨a,ys,rfl,h2,h3⟩:=sv h1 e1;exact rT aa s σ H _ us Q I r ⟨a,ys,rfl,h2,λp hp=>q _ _ (af.new _ hp) (ir st h3 hp)⟩
theorem Ct{K:Â}{H:Hp}:∀ {l:List D}{bs:List Bool}{vs:List V},l.mapM ni=some bs->aK K H l vs->vs=bs.map V.bl
 |[],_,_,e,h=>by simp at e;subst e;rw[h.bN];rfl
 |x::r,_,_,e,h=>by
  simp only[VP,bind,Ï] at e;obtain⟨b,e1,bs,e2,e3⟩:=e;cases e3;obtain⟨y,ys,rfl,h1,h2⟩:=h.aN;cases x with
  |bl c=>cases e1;cases h1.yG;rw[Ct e2 h2];rfl
  |_=>cases e1
theorem Je(hc:X.calm=true):bZ X (.builtin "all") (As X.K (pY .all)):=by
 intro aa s σ H xs us Q I r h;obtain⟨zA,z,ds,w,st,hx,e,q⟩:=h
 match ds,e with
 |[.lst l],e =>
  obtain⟨bs,e1,rfl⟩:=Ð.mp (show(l.mapM ni).map _=some w from e);obtain⟨x,rfl,h1⟩:=hx.one;obtain⟨a,ys,rfl,h2,h3⟩:=h1.kM;rw[Ct e1 h3] at h2;exact BK hc aa s σ H _ us Q I r ⟨a,bs,rfl,(h2.same (ah zA H)).sq,q _ _ (af.refl H) cT⟩
theorem uX:∀ {ns:Zi}{vs:Zj},Vals (ns.map V.int) vs->∃ xs:List (Int × Tok),vs=xs.map (λp=>.int p.1 p.2)/\xs.map (·.1)=ns
 |[],_,h=>by cases h;exact⟨[],rfl,rfl⟩
 |n::r,_,h=>by
  cases h with
  |cons h1 h2 =>
   obtain⟨t,rfl⟩:=h1;obtain⟨xs,rfl,e⟩:=uX h2;exact⟨(n,t)::xs,rfl,by rw[QS,e]⟩
theorem Cu(hc:X.calm=true):bZ X (.builtin "sum") (λxs H Q=>∃ (a:Ì) (ns:Zi),xs=[.ref a]/\(jP X.K H a (ns.map V.int)\/dU X.K H a (ns.map V.int))/\Q (.int ns.sum) H):=by
 intro aa s σ H xs us Q I r h;obtain⟨a,ns,rfl,hq,q⟩:=h;obtain⟨u,rfl,rx⟩:=vals1 r;cases rx;have fin:∀ {ar:Zj},Vals (ns.map V.int) ar->∃ xs:Array (Int × Tok),ar.toArray=intItems xs/\preSum (numAt xs) xs.size=ns.sum:=λ{ar} rv=>by
  obtain⟨xs,rfl,e⟩:=uX rv;exact⟨xs.toArray,by simp[intItems],by rw[preSum_eq,R9 (by simp)];simp[e]⟩
 rcases hq with hq | hq
 ·obtain⟨ar,rv,p,_⟩:=I.list hq;obtain⟨xs,e1,e2⟩:=fin rv;exact sum_intListG (I.ok.hd hc) (e1 ▸ p.isList) λh' tk t' k=>⟨.int ns.sum,H,I.kept k,by rw[e2];exact⟨_,rfl⟩,q⟩
 ·obtain⟨ar,rv,p,_⟩:=I.tuple hq;obtain⟨xs,e1,e2⟩:=fin rv;exact W.ktm_sumG (I.ok.hd hc) (e1 ▸ p) λh' tk t' k=>⟨.int ns.sum,H,I.kept k,by rw[e2];exact⟨_,rfl⟩,q⟩
theorem Cv{K:Â}{H:Hp}:∀ {l:List D}{i:Int}{vs:List V},sj l=some i->aK K H l vs->∃ ns:Zi,vs=ns.map V.int/\ns.sum=i
 |[],_,_,e,h=>by cases e;rw[h.bN];exact⟨[],rfl,rfl⟩
 |.int j::r,_,_,e,h=>by
  obtain⟨k,e1,rfl⟩:=Ð.mp (show(sj r).map _=_ from e);obtain⟨v,q,rfl,h1,h2⟩:=h.aN;obtain⟨ns,rfl,e2⟩:=Cv e1 h2;cases h1.bK;exact⟨j::ns,rfl,by rw[List.sum_cons,e2]⟩
theorem Jf(hc:X.calm=true):bZ X (.builtin "sum") (As X.K (pY .sum)):=by
 intro aa s σ H xs us Q I r h;obtain⟨zA,z,ds,w,st,hx,e,q⟩:=h
 match ds,e with
 |[d],e =>
  obtain⟨i,e1,rfl⟩:=Ð.mp (show((kh d).bind sj).map _=some w from e);obtain⟨l,e2,e3⟩:=Ï.mp e1;obtain⟨x,rfl,h1⟩:=hx.one;obtain⟨a,ys,rfl,h2,h3⟩:=sv h1 e2;obtain⟨ns,rfl,rfl⟩:=Cv e3 h3;exact Cu hc aa s σ H _ us Q I r ⟨a,ns,rfl,h2,q _ _ (af.refl H) (show Hd X.K (hz zA H) _ _ from Hd.int)⟩
theorem Jg(hc:X.calm=true):bZ X (.builtin "min") (As X.K (pY .min)):=by
 intro aa s σ H xs us Q I r h;obtain⟨zA,z,ds,w,st,hx,e,q⟩:=h
 match ds,e with
 |[.int i,.int j],e =>
  cases e;obtain⟨x,y,rfl,h1,h2⟩:=hx.two;cases h1.bK;cases h2.bK;exact zV hc aa s σ H _ us Q I r ⟨i,j,rfl,q _ _ (af.refl H) cZ⟩
theorem Jh(hc:X.calm=true):bZ X (.builtin "max") (As X.K (pY .max)):=by
 intro aa s σ H xs us Q I r h;obtain⟨zA,z,ds,w,st,hx,e,q⟩:=h
 match ds,e with
 |[.int i,.int j],e =>
  cases e;obtain⟨x,y,rfl,h1,h2⟩:=hx.two;cases h1.bK;cases h2.bK;exact zU hc aa s σ H _ us Q I r ⟨i,j,rfl,q _ _ (af.refl H) cZ⟩
theorem Ji:bZ X (.builtin "abs") (As X.K (pY .abs)):=by
 intro aa s σ H xs us Q I r h;obtain⟨zA,z,ds,w,st,hx,e,q⟩:=h
 match ds,e with
 |[.int i],e =>
  cases e;obtain⟨x,rfl,h1⟩:=hx.one;cases h1.bK;exact Bv aa s σ H _ us Q I r ⟨i,rfl,q _ _ (af.refl H) cZ⟩
theorem Jj:bZ X (.type "int") (As X.K (pY .int)):=by
 intro aa s σ H xs us Q I r h;obtain⟨zA,z,ds,w,st,hx,e,q⟩:=h
 match ds,e with
 |[.int i],e =>
  cases e;obtain⟨x,rfl,h1⟩:=hx.one;cases h1.bK;exact qw aa s σ H _ us Q I r (.inl ⟨i,rfl,q _ _ (af.refl H) cZ⟩)
 |[.bl b],e =>
  cases e;obtain⟨x,rfl,h1⟩:=hx.one;cases h1.yG;exact qw aa s σ H _ us Q I r (.inr ⟨b,rfl,q _ _ (af.refl H) cZ⟩)
def Ax:Ty->String
 |.int=>"int" | .bool=>"bool" | .tuple=>"tuple" | .list=>"list" | .str=>"str" | .seq=>""
theorem FD(t:Ty)(d:D)(h:t≠.seq):NF d.ty (Ax t)=IQ t d:=by
 cases t <;> cases d <;> first | rfl | (exact absurd rfl h) | decide
theorem at_of{K:Â}{H:Hp}{l:List D}{xs:List V}{i:Int}{d:D}(h:aK K H l xs)(e:Bz l i=some d):∃ v,Bz xs i=some v/\Hd K H d v:=by
 unfold Bz at e ⊢;obtain⟨j,e1,e2⟩:=Ï.mp e;rw[h.length,e1];exact h.get e2
theorem Qf:Nx X (qa X.K λa b=>(je a b).map S.d):=by
 intro value slice aa s σ H x y v u Q I rx ry h hs;obtain⟨zA,z,dx,dy,w,st,hx,hy,e,q⟩:=h;obtain⟨r,e1,rfl⟩:=Ð.mp e;cases dx with
 |tup l =>
  cases dy with
  |int i =>
   cases hy.bK;obtain⟨a,xs,rfl,h1,h2⟩:=hx.fE;obtain⟨v',e2,h3⟩:=at_of h2 e1;exact Io value slice aa s σ H _ _ v u Q I rx ry ⟨a,xs,i,v',rfl,rfl,(ah zA H).jV h1,e2,q _ _ (af.refl H) (oo h3)⟩ hs
  |_=>cases e1
 |lst l =>
  cases dy with
  |int i =>
   cases hy.bK;obtain⟨a,xs,rfl,h1,h2⟩:=hx.kM;obtain⟨v',e2,h3⟩:=at_of h2 e1;exact yo value slice aa s σ H _ _ v u Q I rx ry ⟨a,xs,i,v',rfl,rfl,(h1.same (ah zA H)).sq,e2,q _ _ (af.refl H) (oo h3)⟩ hs
  |_=>cases e1
 |_=>cases e1
theorem Cw{K:Â}{H:Hp}{l:List D}{xs:List V}(h:aK K H l xs)(lo hi:Zp):aK K H (cutD l lo hi) (rO xs lo hi):=by
 unfold cutD rO;rw[h.length];exact(h.drop _).take _
def OS(K:Â):V->Zp->Zp->Hp->VK->Prop:=λx lo hi H Q=>∃ zA z dx s,aM zA z H/\Hd K (hz zA H) dx x/\OQ dx lo hi=some s/\∀ v H',af H H'->j6 K zA H H' s v->Q v H'
theorem OT:Nw X (OS X.K):=by
 intro aa s σ H x v vl vu lo hi sl Q I rx hs pl pu h;obtain⟨zA,z,dx,w,st,hx,e,q⟩:=h;cases dx with
 |tup l =>
  cases e;obtain⟨a,xs,rfl,h1,h2⟩:=hx.fE;exact Fc aa s σ H _ v vl vu lo hi sl Q I rx hs pl pu ⟨a,xs,rfl,(ah zA H).jV h1,tupQ st (Cw h2 lo hi) q⟩
 |lst l =>
  cases e;obtain⟨a,xs,rfl,h1,h2⟩:=hx.kM;exact EU aa s σ H _ v vl vu lo hi sl Q I rx hs pl pu ⟨a,xs,rfl,(h1.same (ah zA H)).sq,λp hp=>q _ _ (af.new _ hp) (ir st (Cw h2 lo hi) hp)⟩
 |_=>cases e
end
end Q
namespace Q
open PySem L2 PySem.Spec PyProof.Rows
open PySem.W (KatLex KatTups kat_nil kat_cons kat_go kat_yes kat_no kat_one kat_lt kat_kind kas_kind kat_lt_int)
theorem fk(k:D):∀ l,(kL k l).Perm (k::l)
 |[]=>.refl _
 |y::r=>by
  unfold kL;split
  ·exact((fk k r).cons y).trans (.swap _ _ _)
  ·exact .refl _
theorem bF:∀ l,(a7 l).Perm l
 |[]=>.refl _|k::r=>(fk k _).trans ((bF r).cons k)
theorem yH(k:D):∀ l,l.Pairwise (λx y=>MySort.aW (d6 y) (d6 x)=false)->(kL k l).Pairwise (λx y=>MySort.aW (d6 y) (d6 x)=false)
 |[],_=>Ub _ _
 |y::r,h=>by
  obtain⟨h1,h2⟩:=Th.mp h;unfold kL;split
  ·rename_i hy;refine Th.mpr ⟨λz hz=>?_,yH k r h2⟩;rcases ß.mp ((fk k r).mem_iff.mp hz) with rfl | hz
   ·cases q:MySort.aW (d6 z) (d6 y) with
    |false=>rfl|true=>have:=MySort.ik _ _ _ hy q;rw[MySort.jb] at this;cases this
   ·exact h1 z hz
  ·rename_i hy;refine Th.mpr ⟨λz hz=>?_,h⟩;rcases ß.mp hz with rfl | hz
   ·simpa using hy
   ·cases q:MySort.aW (d6 z) (d6 k) with
    |false=>rfl
    |true =>
     rcases MySort.ux _ (d6 y) _ q with q | q
     ·rw[h1 z hz] at q;cases q
     ·exact absurd q hy
theorem gS:∀ l,(a7 l).Pairwise (λx y=>MySort.aW (d6 y) (d6 x)=false)
 |[]=>.nil|k::r=>yH k _ (gS r)
mutual
theorem sx:∀ x y:D,eqT x y=true->x=y
 |.int i,y,h=>by
  cases y with
  |int j=>rw[eq_of_beq (show(i == j)=true from h)]|_=>cases h
 |.tup a,y,h=>by
  cases y with
  |tup b=>rw[sy a b h]|_=>cases h
 |.bp,y,h=>by cases y <;> cases h
 |.bl _,y,h=>by cases y <;> cases h
 |.str _,y,h=>by cases y <;> cases h
 |.lst _,y,h=>by cases y <;> cases h
 |.dct,y,h=>by cases y <;> cases h
theorem sy:∀ x y:List D,jS x y=true->x=y
 |[],[],_=>rfl|[],_::_,h=>by cases h
 |_::_,[],h=>by cases h
 |x::r,y::q,h=>by
  have h:(eqT x y&&jS r q)=true:=h;rw[Á] at h;rw[sx x y h.1,sy r q h.2]
end
def uY(hp:l'.Perm l)(hs:l'.Pairwise λx y=>MySort.aW (d6 y) (d6 x)=false)(inj:∀ x∈l,∀ y∈l,d6 x=d6 y->x=y):a7 l=l':=
 Td (le:=λx y=>MySort.aW (d6 y) (d6 x)=false) (λa b ha hb p q=>inj a ((bF l).mem_iff.mp ha) b (hp.mem_iff.mp hb) (MySort.fy _ _ q p)) (gS l) hs ((bF l).trans hp.symm)
variable [TB:Tb]
theorem yI(ok:∀ x∈l,∀ y∈l,d6 x=d6 y->x=y)(h:MySort.sortedBy (l.map d6) p):(p.map λi=>l.getD i .bp)=a7 l:=by
 have h1:=h.1.map λi=>l.getD i .bp;rw[Ä,MySort.range_getD] at h1;have e:((p.map λi=>l.getD i .bp).map d6)=p.map λi=>(l.map d6).getD i []:=by
  rw[Ó];refine QB λi hi=>?_;have:i < l.length:=by have:=h.1.mem_iff.mp hi;simpa using this
  simp[this]
 have h2:(p.map λi=>l.getD i .bp).Pairwise λx y=>MySort.aW (d6 y) (d6 x)=false:=by
  have:=h.2;rw[← e,QF] at this;exact this
 refine Td (le:=λx y=>MySort.aW (d6 y) (d6 x)=false) (λa b ha hb p q=>?_) h2 (gS l) (h1.trans (bF l).symm);exact ok a (h1.mem_iff.mp ha) b ((bF l).mem_iff.mp hb) (MySort.fy _ _ q p)
mutual
theorem Cy(kp:MySort.qJ h h'):∀ (d:D) {u:Å}{as:Zr},eqT d d=true->Reads h u (oq d) as->Reads h' u (oq d) as
 |.int i,_,_,_,r=>by cases r;exact .int _ _
 |.tup l,_,_,e,r=>by
  cases r with
  |tuple k1 k2 k3 k4=>exact .tuple (kp _ _ k1 k2) k2 k3 (gU kp l e k4)
 |.bp,_,_,e,_=>by cases e
 |.bl _,_,_,e,_=>by cases e
 |.str _,_,_,e,_=>by cases e
 |.lst _,_,_,e,_=>by cases e
 |.dct,_,_,e,_=>by cases e
theorem gU(kp:MySort.qJ h h'):∀ (l:List D) {us:Zj}{as:Zr},jS l l=true->W8 h us (iw l) as->W8 h' us (iw l) as
 |[],_,_,_,r=>by cases r;exact .nil
 |x::q,_,_,e,r=>by
  have e:(eqT x x&&jS q q)=true:=e;rw[Á] at e;cases r with
  |cons r1 r2=>exact .cons (Cy kp x e.1 r1) (gU kp q e.2 r2)
end
theorem bx.get:∀ {us:Zj}{l:List D}{i:Nat}{d:D},bx h us l->l[i]?=some d->qM h (us.getD i è) d
 |_,[],i,d,_,e=>by cases e
 |us,x::r,i,d,hd,e=>by
  obtain⟨u,q,rfl,h1,h2⟩:=hd.aN;cases i with
  |zero=>cases e;simpa using h1
  |succ i=>simpa using bx.get h2 (by simpa using e)
theorem bx.len:∀ {us:Zj}{l:List D},bx h us l->us.length=l.length
 |_,[],hd=>by rw[hd.bN];rfl
 |us,x::r,hd=>by
  obtain⟨u,q,rfl,h1,h2⟩:=hd.aN;simp[bx.len h2]
def Cz(l:List D):Prop:=∀ x r,l=x::r->∃ i,x=.int i
theorem LU(hu:A.units + 40 < Rz):∀ (a c:List D) {vs us:Zj}{r:Bool} (i:Nat),bx s.heap vs a->bx s.heap us c->sh a c=some r->da a<=39 ->
 ((b&&i == 0)=true->Cz a/\Cz c)->fin=decide (vs.length < us.length)->Q r s->KatLex P w A b fin Q (vs.zip us) i s
 |[],[],_,_,r,i,ha,hc,e,_,_,hf,q=>by
  cases ha.bN;cases hc.bN;cases e;subst hf;exact kat_nil q
 |[],y::t,_,_,r,i,ha,hc,e,_,_,hf,q=>by
  cases ha.bN;obtain⟨u,us,rfl,_,_⟩:=hc.aN;cases e;subst hf;exact kat_nil q
 |x::l,[],_,_,r,i,ha,hc,e,_,_,hf,q=>by
  cases hc.bN;obtain⟨v,vs,rfl,_,_⟩:=ha.aN;cases e;subst hf;exact kat_nil q
 |x::l,y::t,_,_,r,i,ha,hc,e,hd,hi,hf,q=>by
  obtain⟨v,vs,rfl,a1,a2⟩:=ha.aN;obtain⟨u,us,rfl,c1,c2⟩:=hc.aN;have d1:deep x<=39:=ê (YY _ _) hd;have d2:da l<=39:=ê (YE _ _) hd;have e:(if Er x y=true then sh l t else Es x y)=some r:=e;refine kat_cons (Hc (A:=A) a1 c1 ∅ P w _ _ ?_)
  refine kat_go (λz=>?_) λz=>?_
  ·rw[if_pos z] at e;refine kat_yes (LU hu l t (i + 1) a2 c2 e d2 (λk=>?_) (by rw[hf];simp) q)
   simp at k
  ·rw[if_neg (by rw[z];exact Û)] at e
   refine kat_no ?_;cases hb:(b&&i == 0) with
   |true =>
    obtain⟨f1,f2⟩:=hi hb;obtain⟨m,rfl⟩:=f1 x l rfl;obtain⟨n,rfl⟩:=f2 y t rfl;cases e;obtain⟨_,_,r1⟩:=a1;obtain⟨_,_,r2⟩:=c1;cases r1;cases r2;exact oneLt_int q
   |false=>exact kat_one _ _ ((Cp 39 (A:=A) (s:=s)).1 x y v u r d1 a1 c1 e ∅ P w _ _ q)
theorem sA(h:jd x=0):∃ i,x=.int i:=by
 cases x with
 |int i=>exact⟨i,rfl⟩
 |tup l =>
  cases l with
  |nil=>cases h
  |cons y r=>cases y <;> cases h
 |_=>cases h
theorem sC(h:jd x=k)(h1:1<=k)(h3:k < 3):∃ y r,x=.tup (y::r)/\(k=1->∃ i,y=.int i)/\(k=2->∃ l,y=.tup l):=by
 cases x with
 |tup l =>
  cases l with
  |nil=>have:k=3:=h.symm;omega
  |cons y r =>
   refine⟨y,r,rfl,λe=>?_,λe=>?_⟩ <;> subst e <;> cases y <;> first | exact⟨_,rfl⟩ | cases h
 |int i=>have:k=0:=h.symm;omega|_=>have:k=3:=h.symm;omega
theorem CA(h1:1<=k)(h3:k < 3):∀ {us:Zj}{l:List D},bx h us l->(∀ x∈l,jd x=k)->∃ fs,KatTups h us fs/\fs.length=us.length/\∀ v∈fs,(k=1->∃ i t,v=X8 i t)/\(k=2->∃ a o,v=ò a/\h.get? a=some o/\o.cls=.type "tuple")
 |_,[],hd,_=>by rw[hd.bN];exact⟨[],.nil,rfl,λv hv=>absurd hv (by simp)⟩
 |_,x::r,hd,hk=>by
  obtain⟨u,q,rfl,⟨_,as,r1⟩,h2⟩:=hd.aN;obtain⟨fs,t1,t2,t3⟩:=CA h1 h3 h2 λy hy=>hk y (È _ hy);obtain⟨y,l,rfl,y1,y2⟩:=sC (hk x Ë) h1 h3;cases r1 with
  | @tuple a o vs n xs as k1 k2 k3 k4 =>
   cases hv:vs.toList with
   |nil=>rw[hv] at k4;cases k4
   |cons f fr =>
    rw[hv] at k4;cases k4 with
    |cons f1 f2 =>
     refine⟨f::fs,.cons k1 k2 k3 (by rw[← û,hv];rfl) t1,by simp[t2],λv hm=>?_⟩
     rcases ß.mp hm with rfl | hm
     ·refine⟨λe=>?_,λe=>?_⟩
      ·obtain⟨i,rfl⟩:=y1 e;cases f1;exact⟨_,_,rfl⟩
      ·obtain⟨m,rfl⟩:=y2 e;cases f1 with
       |tuple g1 g2 g3 g4=>exact⟨_,_,rfl,g1,g2⟩
     ·exact t3 v hm
def kdOf:Nat->SV
 |0=>U6|1=>tuples' true|_=>tuples' false
theorem sD(h:cz x y=true):jd y=jd x/\Es x y=some (MySort.aW (d6 x) (d6 y))/\(d6 x=d6 y->x=y):=by
 unfold cz at h;rw[Á,Á,QL] at h;refine⟨eq_of_beq h.1,eq_of_beq h.2.1,λe=>?_⟩;rcases h.2.2 with k | k
 ·exact sx _ _ k
 ·rw[e] at k;simp at k
theorem Jk{P:â}{w:ó}{A:ö}{s:É}{us:Zj}{l:List D}{k:Nat}(hd:bx s.heap us l)(k3:k < 3)(hk:∀ x∈l,jd x=k)(h2:2<=us.length)(E:Å->É->Prop)(Q:SV->É->Prop)(q:Q (kdOf k) s):Ô (à P w) A (keyKind' us.toArray) Q E s:=by
 match k,k3,hk,q with
 |0,_,hk,q =>
  refine kas_kind h2 (T:=.type "int") (λv hv=>?_) rfl rfl q;obtain⟨i,hi,rfl⟩:=Xo.mp hv;have hi':i < l.length:=by rw[← hd.len];exact hi
  obtain⟨_,as,r⟩:=hd.get (i:=i) (d:=l[i]) (by simp[hi'])
  obtain⟨n,hn⟩:=sA (hk l[i] (QD hi'));rw[hn] at r;have e:us.getD i è=us[i]:=by simp[hi]
  rw[e] at r;generalize us[i]=v at r;cases r;exact VH rfl
 |1,_,hk,q =>
  obtain⟨fs,t1,t2,t3⟩:=CA 1e1 1e1 hd hk
  exact kat_kind (T:=.type "int") t1 ∅ (λv hv=>by obtain⟨i,t,rfl⟩:=(t3 v hv).1 rfl;exact VH rfl) rfl q
 |2,_,hk,q =>
  obtain⟨fs,t1,t2,t3⟩:=CA 1e1 1e1 hd hk
  exact kat_kind (T:=.type "tuple") t1 ∅ (λv hv=>by
   obtain⟨a,o,rfl,g1,g2⟩:=(t3 v hv).2 rfl;rw[← g2];exact(Sr g1).andThen .now) rfl q
theorem LV{P:â}{w:ó}{A:ö}{s:É}{us:Zj}{l:List D}{k:Nat}(hd:bx s.heap us l)(hu:A.units + 40 < Rz)(k3:k < 3)(hk:∀ x∈l,jd x=k)(ho:∀ x∈l,mW x=true)(hp:∀ x∈l,∀ y∈l,cz x y=true)(i j:Nat)(hi:i < us.length)(hj:j < us.length)(E:Å->É->Prop)(C:Bool->É->Prop)(hC:C (MySort.aW ((l.map d6).getD i []) ((l.map d6).getD j [])) s):Ô (à P w) A (X4 (kdOf k) (us.getD i è) (us.getD j è)) C E s:=by
 have hi':i < l.length:=by rw[← hd.len];exact hi
 have hj':j < l.length:=by rw[← hd.len];exact hj
 have mi:=QD hi';have mj:=QD hj';obtain⟨_,h2,_⟩:=sD (hp _ mi _ mj);have a1:=hd.get (i:=i) (d:=l[i]) (by simp[hi'])
 have b1:=hd.get (i:=j) (d:=l[j]) (by simp[hj'])
 have e1:(l.map d6).getD i []=d6 l[i]:=by simp[hi']
 have e2:(l.map d6).getD j []=d6 l[j]:=by simp[hj']
 rw[e1,e2] at hC;generalize MySort.aW (d6 l[i]) (d6 l[j])=c at h2 hC;have kx:=hk _ mi;have ky:=hk _ mj;have ox:=oz (ho _ mi);generalize l[i]=x at *
 generalize l[j]=y at *
 have tup:∀ b:Bool,1<=k->(b=true->k=1)->Ô (à P w) A (X4 (tuples' b) (us.getD i è) (us.getD j è)) C E s:=λb h1 hb=>by
  obtain⟨x1,xr,rfl,x2,_⟩:=sC kx h1 k3;obtain⟨y1,yr,rfl,y2,_⟩:=sC ky h1 k3;obtain⟨f1,as,r1⟩:=a1;obtain⟨f2,bs,r2⟩:=b1;generalize us.getD i è=v at r1;generalize us.getD j è=u at r2;cases r1 with
  |tuple p1 p2 p3 p4 =>
   cases r2 with
   |tuple q1 q2 q3 q4 =>
    refine kat_lt p1 p3 q1 q3 (LU hu (x1::xr) (y1::yr) 0 ⟨f1,_,p4⟩ ⟨f2,_,q4⟩ h2 (by have:deep (.tup (x1::xr))=da (x1::xr) + 1:=rfl;omega) (λz=>?_) (by simp) hC)
    have hb1:=hb (by simpa using z)
    exact⟨λa q e=>by cases e;exact x2 hb1,λa q e=>by cases e;exact y2 hb1⟩
 match k,k3,kx,ky,tup with
 |0,_,kx,ky,_ =>
  obtain⟨m,rfl⟩:=sA kx;obtain⟨n,rfl⟩:=sA ky;cases h2;obtain⟨_,_,r1⟩:=a1;obtain⟨_,_,r2⟩:=b1;generalize us.getD i è=v at r1;generalize us.getD j è=u at r2;cases r1;cases r2;exact kat_lt_int hC
 |1,_,_,_,tup=>exact tup true 1e1 λ_=>rfl|2,_,_,_,tup=>exact tup false 1e1 λh=>by cases h
theorem CB(h64:us.length < 64)(hd:bx s.heap us l)(hu:A.units + 40 < Rz)(k3:k < 3)(hk:∀ x∈l,jd x=k)(ho:∀ x∈l,mW x=true)(hp:∀ x∈l,∀ y∈l,cz x y=true):MySort.wY P w A s us (MySort.sortedBy (l.map d6)) (kdOf k) where
 len:=∅
 few h2:=MySort.IC (by rw[Ä];exact hd.len) h2
 all p hp:=by rw[hp.1.length_eq,ï,Ä,hd.len]
 kind:=Jk hd k3 hk
 run:=MySort.E4 (by rw[Ä];exact hd.len) h64 (LV hd hu k3 hk ho hp)
theorem aK.pick{K:Â}{H:Hp}{l:List D}{vs:List V}(h:aK K H l vs):∀ {p:Zh},(∀ i∈p,i < l.length)->aK K H (p.map λi=>l.getD i .bp) (p.map λi=>vs.getD i .bp)
 |[],_=>.nil
 |i::p,hp=>by
  have hi:=hp i Ë;refine .cons ?_ (aK.pick h λj hj=>hp j (È _ hj));obtain⟨v,e1,e2⟩:=h.get (i:=i) (d:=l[i]) (by simp[hi])
  have g1:l.getD i .bp=l[i]:=by simp[hi]
  have g2:vs.getD i .bp=v:=by rw[Æ,e1];rfl
  show Hd K H (l.getD i .bp) (vs.getD i .bp);rw[g1,g2];exact e2
end Q
namespace Q
open PySem L2 PySem.Spec PyProof.Rows
open PySem.W (kas_mapM kas_first_eq kas_item kas_item_eq kas_cmp)
theorem CC(h:k<=8):∀ i∈TS.sN k,i < 2 ^ k:=by
 have:∀ k,k < 9->((TS.sN k).all λi=>Xa i (2 ^ k))=true:=by decide +kernel
 intro i hi;exact Nat.blt_eq.mp (Õ.mp (this k ∅) i hi)
theorem Jl(h:k<=8):(TS.sN k).length=2 ^ k:=by
 have:∀ k,k < 9->beq (TS.sN k).length (2 ^ k)=true:=by decide +kernel
 exact Xn (this k ∅)
theorem jF(h:i < 2 ^ k):(b8 k)[i]?=some (dE k i):=by
 unfold b8;rw[Ø,Sh h];rfl
def Jm(h:k<=8):((TS.sN k).map λi=>(b8 k).getD i .bp)=uN k:=
 QB λi hi=>by rw[Æ,jF (CC h i hi)];rfl
theorem yJ:∀ a b:Zh,sh (a.map λ(i:Nat)=>.int i) (b.map λ(i:Nat)=>.int i)=some (TS.E8 a b)
 |[],[]=>rfl|[],_::_=>rfl|_::_,[]=>rfl
 |a::r,b::q=>by
  show(if ((a:Int) == (b:Int))=true then sh (r.map λ(i:Nat)=>.int i) (q.map λ(i:Nat)=>.int i) else some (decide ((a:Int) < b)))=some (if beq a b=true then TS.E8 r q else Xa a b);rw[yJ r q];by_cases h:a=b
  ·subst h;rw[if_pos (by simp),if_pos (Nat.beq_refl a)]
  ·rw[if_neg (by simp;omega),if_neg λe=>h (Xn e)]
   congr 1
   rw[Q8,decide_eq_true_eq,Nat.blt_eq];omega
variable [TB:Tb]
section
variable {P:â}{w:ó}{A:ö}{E:Å->É->Prop}{s:É}
def TupAt(h:ø)(v:Å):Prop:=∃ a o xs n,v=.ref a/\h.get? a=some o/\o.cls=.type "tuple"/\o.data=.seq xs n
theorem uZ(ho:s.heap.get? a=some o)(hc:o.cls=.type "tuple")(hd:o.data=.seq xs n)(q:Q xs[0]? s):Ô (à P w) A (firstOfTuple' (.ref a)) Q E s:=by
 rw[kas_first_eq];refine À (V2 (show Yo (à P w) s.heap (Y4 (.ref a)) o.cls from(Sr ho).andThen .now) ?_);rw[hc,if_neg (by first | decide | simp)]
 exact À (Tz ho hd (Ê q))
theorem qN:∀ (vs:Zj),(∀ v∈vs,TupAt s.heap v)->∃ fs:List Zn,∀ Q,Q fs s->Ô (à P w) A (vs.mapM firstOfTuple') Q E s
 |[],_=>⟨[],λQ q=>by rw[List.mapM_nil];exact Ê q⟩
 |v::vs,h=>by
  obtain⟨fs,hf⟩:=qN vs λu hu=>h u (È _ hu);obtain⟨a,o,xs,n,rfl,ho,hc,hd⟩:=h v Ë;refine⟨xs[0]?::fs,λQ q=>?_⟩;rw[VP];exact À (uZ ho hc hd (À (hf _ (Ê q))))
theorem FE(ho:s.heap.get? a=some o)(hc:o.cls=.type "tuple")(hd:o.data=.seq #[] n)(h:∀ v∈vs,TupAt s.heap v)(q:Q U6 s):Ô (à P w) A (keyKind' (ò a::vs).toArray) Q E s:=by
 obtain⟨fs,hf⟩:=qN (P:=P) (w:=w) (A:=A) (E:=E) vs h;rw[keyKind'_eq,Yh,map_eq_pure_bind,VP];refine À (À (À (uZ ho hc hd (À (hf _ (Ê (Ê ?_)))))));rw[if_neg (by simp),if_neg (by simp)]
 rw[oneTypeOnly'_eq,Yh,map_eq_pure_bind];refine À (À (À (kas_mapM (r:=.type "tuple") _ (λv hv Q' hq=>?_) (Ê ?_))))
 ·have:TupAt s.heap v:=by
   rcases ß.mp hv with rfl | hv
   ·exact⟨_,_,_,_,rfl,ho,hc,hd⟩
   ·exact h v hv
  obtain⟨b,o',xs,m,rfl,ho',hc',_⟩:=this;rw[← hc'] at hq;exact V2 (show Yo (à P w) s.heap (Y4 (.ref b)) o'.cls from(Sr ho').andThen .now) hq
 ·have hall:((Uc (λ_=>QU "tuple") (ò a::vs)).toArray.all λx=>x == QU "tuple")=true:=by
   simp only[List.all_toArray,all_map,Rp];intro _ _;rfl
  have h0:(Uc (λ_=>QU "tuple") (ò a::vs)).toArray[0]?=some (QU "tuple"):=by simp
  rw[h0];simp only[hall,if_true];exact Ê (Ê q)
theorem Jn(hl:UE s.heap l i1)(hb:UE s.heap b i2)(hu:A.units < Rz)(hx:Lx A.in1 s i1.toList i2.toList c)(q:Q c s):Ô (à P w) A (X4 U6 (.ref l) (.ref b)) Q E s:=by
 obtain⟨⟨cls,dd,data,sl⟩,ho,hc,n,hd⟩:=id hl;obtain⟨⟨cls2,dd2,data2,sl2⟩,ho2,hc2,n2,hd2⟩:=id hb;simp only at hc hd hc2 hd2;subst hc hd hc2 hd2;rw[keyLt'_oneType,oneLt'_eq];simp only[if_true];refine À (wpAny_cRoomFor hu (À (wpAny_callSpecialIfBound?_slot ⟨_,ho,rfl⟩ Uh (Y8 Uh ⟨_,ho,rfl⟩ Wt (Wc _ _) (mD l b i1 i2 n n2 dd dd2 sl sl2 c) ⟨ho,ho2,hx,?_⟩))));exact QR q
theorem Jo(h8:k<=8)(hd:bx s.heap us (b8 k))(hu:A.units + 40 < Rz):MySort.wY P w A s us (λp=>p=TS.sN k) U6 where
 len:=by rw[hd.len,b8,Ä,ï];exact ê (UK 1e1 h8) 1e1
 few h2:=by
  rw[hd.len,b8,Ä,ï] at h2 ⊢;cases k with
  |zero=>rfl|succ k=>have:=Nat.one_le_two_pow (n:=k);rw[Nat.pow_succ] at h2;omega
 all p hp:=by subst hp;rw[hd.len,b8,Ä,ï,Jl h8]
 kind h2 E Q q:=by
  have ht:∀ i v,us[i]?=some v->∃ xs n a o,v=.ref a/\s.heap.get? a=some o/\o.cls=.type "tuple"/\o.data=.seq xs n/\(i=0->xs=#[]):=λi v e=>by
   have hi:i < us.length:=(ç.mp e).1;have hi':i < 2 ^ k:=by rw[hd.len,b8,Ä,ï] at hi;exact hi
   obtain⟨_,as,r⟩:=hd.get (jF hi');have e2:us.getD i è=v:=by rw[Æ,e];rfl
   rw[e2] at r;have z0:∀ k,TS.jc k 0 0=[]:=λk=>by
    have:∀ k i,TS.jc k i 0=[]:=λk=>by
     induction k with
     |zero=>exact λ_=>rfl|succ k ih=>exact λi=>ih (i + 1)
    exact this k 0
   cases i with
   |zero =>
    have r:Reads s.heap v (oq (.tup ((TS.jc k 0 0).map λ(i:Nat)=>.int i))) as:=r;rw[z0] at r;cases r with
    | @tuple a o vs n xs as k1 k2 k3 k4 =>
     have:vs.toList=[]:=by cases hv:vs.toList with | nil=>rfl | cons _ _=>rw[hv] at k4;cases k4
     exact⟨vs,n,a,o,rfl,k1,k2,k3,λ_=>Array.toList_eq_nil_iff.mp this⟩
   |succ i =>
    cases r with
    | @tuple a o vs n xs as k1 k2 k3 k4=>exact⟨vs,n,a,o,rfl,k1,k2,k3,λe=>by cases e⟩
  match us,ht with
  |[],_=>simp at h2
  |v::vs,ht =>
   obtain⟨xs,n,a,o,rfl,h1,h3,h4,h5⟩:=ht 0 v rfl;cases h5 rfl;refine FE h1 h3 h4 (λu hu=>?_) q;obtain⟨i,hi,rfl⟩:=Xo.mp hu;obtain⟨xs,n,a,o,e,h1,h3,h4,_⟩:=ht (i + 1) vs[i] (by simp[hi])
   exact⟨a,o,xs,n,e,h1,h3,h4⟩
 run h2:=by
  have hl:us.length=2 ^ k:=by rw[hd.len,b8,Ä,ï]
  have h1:1<=k:=by
   cases k with
   |zero=>rw[hl] at h2;exact absurd h2 1e1|succ k=>omega
  refine TS.runL h1 h8 hl λi j C hi hj hC=>?_;have e1:=kas_item_eq us i;have e2:=kas_item_eq us j;show Ô (à P w) A (X4 U6 (ý (pairsOf us) i).1 (ý (pairsOf us) j).1) C _ s;rw[e1,e2];obtain⟨f1,as,r1⟩:=hd.get (jF hi);obtain⟨f2,bs,r2⟩:=hd.get (jF hj);show Ô (à P w) A (X4 U6 (us.getD i è) (us.getD j è)) C _ s;generalize us.getD i è=v at r1;generalize us.getD j è=u at r2;cases r1 with
  |tuple p1 p2 p3 p4 =>
   cases r2 with
   |tuple q1 q2 q3 q4 =>
    refine Jn ⟨_,p1,p2,_,p3⟩ ⟨_,q1,q2,_,q3⟩ ∅ ((Cp 40).2 _ _ _ _ _ ?_ ⟨f1,_,p4⟩ ⟨f2,_,q4⟩ (yJ _ _) ∅) hC
    have:∀ l:Zh,da (l.map λ(i:Nat)=>.int i)=0:=λl=>by
     induction l with
     |nil=>rfl|cons x r ih=>show Yq 0 _=0;rw[ih];rfl
    rw[this];decide
end
section
variable {X:Cx}
theorem FF{zA:Zl}{H:Hp}{k:Nat}{xs:List V}(hu:X.A.units + 64 < Rz)(hd:aK X.K H (b8 k) xs)(h8:k<=8):yB X H xs (λp=>p=TS.sN k):=by
 intro aa σ s us I rv;have ci:∀ l:Zh,bX (l.map λ(i:Nat)=>.int i)=true/\jS (l.map λ(i:Nat)=>.int i) (l.map λ(i:Nat)=>.int i)=true:=λl=>by
  induction l with
  |nil=>exact⟨rfl,rfl⟩|cons x r ih=>exact⟨ih.1,by show((x:Int) == (x:Int)&&_)=true;rw[ih.2];simp⟩
 have cl:∀ l:Zh,bX (l.map (dE k))=true/\jS (l.map (dE k)) (l.map (dE k))=true:=λl=>by
  induction l with
  |nil=>exact⟨rfl,rfl⟩
  |cons x r ih =>
   refine⟨?_,?_⟩
   ·show(bX _&&_)=true;rw[(ci _).1,ih.1];rfl
   ·show(jS _ _&&_)=true;rw[(ci _).2,ih.2];rfl
 obtain⟨as,ra⟩:=kO I hd rv (cl _).1;exact⟨U6,λh' kp=>Jo h8 ⟨(cl _).1,_,gU kp _ (cl _).2 ra⟩ (by show X.A.units + 1 + 1 + 40 < Rz;omega)⟩
theorem FG{zA:Zl}{H:Hp}{l:List D}{xs:List V}{Pr:Zh->Prop}(hd:aK X.K H l xs)(ok:cF l=true)(mk:∀ (s:É) (us:Zj) (k:Nat),us.length=l.length->bx s.heap us l->k < 3->(∀ x∈l,jd x=k)->(∀ x∈l,mW x=true)->(∀ x∈l,∀ y∈l,cz x y=true)->MySort.wY X.prog X.w X.A.in1.in1 s us Pr (kdOf k)):yB X H xs Pr:=by
 intro aa σ s us I rv;have hlen:us.length=l.length:=by rw[← rv.length,hd.length]
 have all:∀ x∈l,jd x < 3/\mW x=true/\∀ y∈l,cz x y=true:=λx hx=>by
  have:=Õ.mp ok x hx;rw[Á,Á,decide_eq_true_eq,Rp] at this;exact⟨this.1,this.2.1,this.2.2⟩
 have hf:bX l=true:=by
  clear hd mk hlen
  induction l with
  |nil=>rfl
  |cons x r ih =>
   have h1:=(fG (all x Ë).2.1).1;show(dY x&&bX r)=true;rw[h1];have ok':cF r=true:=Õ.mpr λy hy=>by
    obtain⟨a,b,c⟩:=all y (È _ hy);rw[Á,Á,decide_eq_true_eq,Rp];exact⟨a,b,λz hz=>c z (È _ hz)⟩
   exact ih ok' λy hy=>⟨(all y (È _ hy)).1,(all y (È _ hy)).2.1,λz hz=>(all y (È _ hy)).2.2 z (È _ hz)⟩
 obtain⟨as,ra⟩:=kO I hd rv hf;have pure:jS l l=true:=by
  clear hd ra hf ok;have:∀ q:List D,(∀ x∈q,eqT x x=true)->jS q q=true:=λq=>by
   induction q with
   |nil=>intro _;rfl|cons x r ih=>intro h;show(eqT x x&&jS r r)=true;rw[h x Ë,ih λy hy=>h y (È _ hy)];rfl
  refine this l λx hx=>?_;have h:=(all x hx).2.2 x hx;unfold cz at h;rw[Á,Á,QL] at h;rcases h.2.2 with k | k
  ·exact k
  ·simp at k
 cases l with
 |nil=>exact⟨kdOf 0,λh' kp=>mk _ _ _ hlen ⟨hf,_,gU kp _ pure ra⟩ 1e1 (λx hx=>absurd hx (by simp)) (λx hx=>absurd hx (by simp)) λx hx=>absurd hx (by simp)⟩
 |cons x r =>
  have hx:=all x Ë;exact⟨kdOf (jd x),λh' kp=>mk _ _ _ hlen ⟨hf,_,gU kp _ pure ra⟩ hx.1 (λy hy=>(sD (hx.2.2 y hy)).1) (λy hy=>(all y hy).2.1) λy hy=>(all y hy).2.2⟩
theorem FH{zA:Zl}{H:Hp}{l:List D}{xs:List V}(hu:X.A.units + 64 < Rz)(hd:aK X.K H l xs)(h64:l.length < 64)(ok:cF l=true):yB X H xs (MySort.sortedBy (l.map d6)):=
 FG (zA:=zA) hd ok λ_ _ _ hl d k3 hk ho hp=>CB ∅ d (by show X.A.units + 1 + 1 + 40 < Rz;omega) k3 hk ho hp
theorem Ay(hu:X.A.units + 64 < Rz):bZ X (.builtin "sorted") (As X.K (pY .sorted)):=by
 intro aa s σ H xs us Q I r h;obtain⟨zA,z,ds,w,st,hx,e,q⟩:=h
 match ds,e with
 |[x],e =>
  have e:sortedS x=some w:=e;unfold sortedS at e;obtain⟨l,h1,e⟩:=Ï.mp e;obtain⟨v,rfl,hv⟩:=hx.one;have go:∀ (a:Ì) (ys:List V),v=.ref a->(jP X.K H a ys\/dU X.K H a ys)->aK X.K (hz zA H) l ys->Ô (à X.prog X.w) X.A (call (.builtin "sorted") us) (EP X aa σ Q) X.xe s:=λa ys hva hq hd=>by
   subst hva;by_cases c:l.length < 64/\cF l=true
   ·rw[if_pos c] at e;cases e;obtain⟨h64,ok⟩:=c;refine kK aa s σ H _ us Q I r ⟨a,ys,MySort.sortedBy (l.map d6),rfl,hq,FH (zA:=zA) hu (hd.same (ah zA H)) h64 ok,λp hp i hi=>by have:=hp.1.mem_iff.mp hi;rw[hd.length];simpa using this,λp lA hp hn=>?_⟩
    have hd2:=hd.pick (p:=p) λi hi=>by have:=hp.1.mem_iff.mp hi;simpa using this
    rw[yI (λx hx y hy=>?_) hp] at hd2
    ·exact q _ _ (af.new _ hn) (ir st hd2 hn)
    ·have:=Õ.mp ok x hx;rw[Á,Á,Rp] at this;exact(sD (this.2.2 y hy)).2.2
   ·rw[if_neg c] at e;obtain⟨l',e1,rfl⟩:=Ð.mp e;obtain⟨k,e2,rfl⟩:=Ð.mp e1;have e3:=sy _ _ (List.find?_some (p:=λk=>jS l (b8 k)) e2);have k8:k<=8:=by have:=List.mem_of_find?_eq_some e2;simp at this;omega
    subst e3;refine kK aa s σ H _ us Q I r ⟨a,ys,λp=>p=TS.sN k,rfl,hq,FF (zA:=zA) hu (hd.same (ah zA H)) k8,λp hp i hi=>?_,λp lA hp hn=>?_⟩
    ·subst hp;rw[hd.length,b8,Ä,ï];exact CC k8 i hi
    ·subst hp;have hd2:=hd.pick (p:=TS.sN k) λi hi=>by rw[b8,Ä,ï];exact CC k8 i hi
     rw[Jm k8] at hd2;exact q _ _ (af.new _ hn) (ir st hd2 hn)
  cases x with
  |tup m =>
   cases h1;obtain⟨a,ys,rfl,k1,k2⟩:=hv.fE;exact go a ys rfl (.inr ((ah zA H).jV k1)) k2
  |lst m =>
   cases h1;obtain⟨a,ys,rfl,k1,k2⟩:=hv.kM;exact go a ys rfl (.inl (k1.same (ah zA H)).sq) k2
  |_=>cases h1
end
end Q
namespace SS
open PySem PySem.W PyProof.Rows MySort
end SS
namespace Q
open PySem L2 PySem.Spec PyProof.Rows
variable [TB:Tb]
structure Gs where
 fns:List (Str × List Str)
 nums:List (Str × Int)
 F:FT
 cls:Nat->Addr
 lv:Nat
def EPost(G:Gs)(zA:Zl)(E:XK)(c:Nat)(z:Z)(H:Hp):Prop:=∀ e H',Ext zA H H'->aM zA z H'->H' e=none->E (.ref (G.cls c)) (some e) H'
def EPost.mono(h:EPost G zA E c z H)(e:Ext zA H H1):EPost G zA E c z H1:=λa H' x s n=>h a H' (e.trans x) s n
def LW(K:Â)(G:Gs)(zA:Zl)(E:XK)(H:Hp)(Q:VK):R S->Prop
 |.ok s z'=>∀ v H',Ext zA H H'->aM zA z' H'->j6 K zA H H' s v->Q v H'|.er c z'=>EPost G zA E c z' H
def oA(K:Â)(G:Gs)(zA:Zl)(E:XK)(H:Hp)(Q:VK):R (List S)->Prop
 |.ok l z'=>∃ s,l=[s]/\∀ v H',Ext zA H H'->aM zA z' H'->j6 K zA H H' s v->Q v H'|.er c z'=>EPost G zA E c z' H
def LX(K:Â)(G:Gs)(zA:Zl)(E:XK)(H:Hp)(Q:List V->Hp->Prop):R (List S)->Prop
 |.ok l z'=>∀ vs H',Ext zA H H'->aM zA z' H'->Rx (j6 K zA H H') l vs->Q vs H'|.er c z'=>EPost G zA E c z' H
def yK(G:Gs)(zA:Zl)(E:XK)(H:Hp)(Q:Bool->Hp->Prop):R (List S)->Prop
 |.ok l z'=>∃ b,l=[.d (.bl b)]/\∀ H',Ext zA H H'->aM zA z' H'->Q b H'|.er c z'=>EPost G zA E c z' H
def eP(K:Â)(zA:Zl)(H:Hp)(ρ:Env)(σ:L2.St):Prop:=∀ (i:Nat) (s:S),ρ[i]?=some (some s)->∃ v,σ[i]?=some (some v)/\wy K zA H s v
def eP.mono{K:Â}{zA:Zl}{H H':Hp}{ρ:Env}{σ:L2.St}(h:eP K zA H ρ σ)(e:Ext zA H H'):eP K zA H' ρ σ:=λi s q=>let ⟨v,a,b⟩:=h i s q;⟨v,a,b.mono e⟩
def tI(K:Â)(G:Gs)(E:XK)(x:Ex):TE:=λσ H Q=>∃ zA ρ z r,eP K zA H ρ σ/\aM zA z H/\ev G.F x ρ z=some r/\oA K G zA E H Q r
def tA(K:Â)(G:Gs)(E:XK)(x:Ex):TA:=λσ H Q=>∃ zA ρ z r,eP K zA H ρ σ/\aM zA z H/\ev G.F x ρ z=some r/\LX K G zA E H Q r
def tT(K:Â)(G:Gs)(E:XK)(x:Ex):TT:=λσ H Q=>∃ zA ρ z r,eP K zA H ρ σ/\aM zA z H/\ev G.F x ρ z=some r/\yK G zA E H Q r
def FI(K:Â)(G:Gs)(f n:Nat):Sp:=λvs H Q E=>vs.length=n/\∃ zA z ss r,pZ K zA H ss vs/\aM zA z H/\G.F false f ss z=some r/\LW K G zA E H Q r
section
variable {K:Â}{G:Gs}{E:XK}{a x:Ex}{ρ:Env}{z:Z}{zA:Zl}{σ:L2.St}{H:Hp}
theorem de{α:Type}{k:List S->M α}{r:R α}{Q':VK}(rel:eP K zA H ρ σ)(st:aM zA z H)(h:Zd (ev G.F a ρ) k z=some r)(her:∀ c z1,r=.er c z1->EPost G zA E c z1 H)
 (aV:∀ l z1,k l z1=some r->∃ s,l=[s]/\∀ v H1,Ext zA H H1->aM zA z1 H1->j6 K zA H H1 s v->Q' v H1):tI K G E a σ H Q':=by
 rcases M.bind_some h with ⟨l,z1,e1,e2⟩ | ⟨c,z1,e1,e2⟩
 ·exact⟨zA,ρ,z,_,rel,st,e1,aV l z1 e2⟩
 ·exact⟨zA,ρ,z,_,rel,st,e1,her c z1 e2⟩
theorem oB{α:Type}{k:List S->M α}{r:R α}{Q':List V->Hp->Prop}(rel:eP K zA H ρ σ)(st:aM zA z H)(h:Zd (ev G.F a ρ) k z=some r)(her:∀ c z1,r=.er c z1->EPost G zA E c z1 H)
 (aV:∀ l z1,k l z1=some r->∀ vs H1,Ext zA H H1->aM zA z1 H1->Rx (j6 K zA H H1) l vs->Q' vs H1):tA K G E a σ H Q':=by
 rcases M.bind_some h with ⟨l,z1,e1,e2⟩ | ⟨c,z1,e1,e2⟩
 ·exact⟨zA,ρ,z,_,rel,st,e1,aV l z1 e2⟩
 ·exact⟨zA,ρ,z,_,rel,st,e1,her c z1 e2⟩
theorem mE{α:Type}{k:Bool->M α}{r:R α}{Q':Bool->Hp->Prop}(rel:eP K zA H ρ σ)(st:aM zA z H)(h:Zd (ev G.F a ρ) (λx=>Zd (Zf ((pl x).bind ni)) k) z=some r)(her:∀ c z1,r=.er c z1->EPost G zA E c z1 H)
  (aV:∀ b z1,k b z1=some r->∀ H1,Ext zA H H1->aM zA z1 H1->Q' b H1):tT K G E a σ H Q':=by
 rcases M.bind_some h with ⟨l,z1,e1,e2⟩ | ⟨c,z1,e1,e2⟩
 ·obtain⟨b,e3,e4⟩:=M.ag e2;obtain⟨d,e5,e6⟩:=Ï.mp e3;have el:l=[.d (.bl b)]:=by
   obtain⟨s,rfl,hs⟩:=cA e5;cases s with
   |d y=>cases hs;cases d <;> first | (cases e6;rfl) | cases e6
   |fr ys=>cases hs;cases e6
   |_=>cases hs
  exact⟨zA,ρ,z,_,rel,st,e1,b,el,aV b z1 e4⟩
 ·exact⟨zA,ρ,z,_,rel,st,e1,her c z1 e2⟩
theorem jh{l:List S}{s:S}(h:one l=some s):l=[s]:=by
 unfold one at h;split at h
 ·cases h;rfl
 ·cases h
end
def PE.imp(h:PE X e t)(i:∀ σ H Q,t' σ H Q->t σ H Q):PE X e t':=λaa s σ H Q I q=>h aa s σ H Q I (i _ _ _ q)
def PT.imp(h:PT X e t)(i:∀ σ H Q,t' σ H Q->t σ H Q):PT X e t':=λaa s σ H Q I q=>h aa s σ H Q I (i _ _ _ q)
def PW.imp(h:PW X e t)(i:∀ σ H Q,t' σ H Q->t σ H Q):PW X e t':=λw aa s σ H Q I q=>h w aa s σ H Q I (i _ _ _ q)
def PA.imp(h:PA X e t)(i:∀ σ H Q,t' σ H Q->t σ H Q):PA X e t':=λp aa s σ H Q I q=>h p aa s σ H Q I (i _ _ _ q)
def noStar:Ù->Bool
 |.Starred ..=>false|_=>true
theorem bz(h:noStar e=true)(es:Zm)(env:RZ):þ (e::es) env=(false,eval e env)::þ es env:=by
 cases e <;> first | rfl | cases h
theorem gW:∀ {es:Zm} (env:RZ) (pos:Pos),es.all noStar=true->(Uq pos (þ es env)).any (·.1)=false
 |[],_,_,_=>rfl
 |e::es,env,pos,h=>by
  rw[Rh,Á] at h;rw[bz h.1];show(false || (Uq pos (þ es env)).any (·.1))=false;rw[gW env pos h.2];rfl
def plainT:Ù->Bool
 |.UnaryOp .Not _ _=>false|.BoolOp ..=>false|.IfExp ..=>false|.Compare ..=>false|_=>true
theorem Az(h:plainT e=true)(env:RZ)(whole:Sem Å):X6 e env whole=(do let v ← whole;standAt e.pos;WJ [v] (truthy v)):=by
 cases e with
 |UnaryOp op _ _=>cases op <;> first | rfl | cases h
 |BoolOp _ _ _=>cases h
 |IfExp _ _ _ _=>cases h
 |Compare _ _ _ _=>cases h
 |_=>rfl
def kQ:Ù->Bool
 |.Slice ..=>false|_=>true
theorem oC(h:kQ e=true):yn e:=λo i=>by
 cases e with
 |Slice _ _ _ _=>cases h
 |_=>rfl
def iT:Ù->Bool
 |.Set ..=>false|_=>true
theorem xp(h:iT e=true)(op:CmpOp):Xy op e=false:=by
 cases e with
 |Set _ _ _=>cases h
 |_=>rfl
structure aw(X:Cx)(G:Gs)(E:XK)(x:Ex)(e:Expr):Prop where
 pe:PE X e (tI X.K G E x)
 pt:(∀ t a b p,e≠.IfExp t a b p)->PT X e (tT X.K G E x)
 pw:∀ op vs p,e=.BoolOp op vs p->PW X e (tT X.K G E x)
theorem aF(h:PE X e (tI X.K G E x))(hp:plainT e=true):aw X G E x e:=by
 refine⟨h,λ_=>PT.imp (HM h (Az hp X.env)) λσ H Q q=>?_,λop vs p he=>?_⟩
 ·obtain⟨zA,ρ,z,r,rel,st,e,po⟩:=q;refine⟨zA,ρ,z,r,rel,st,e,?_⟩;cases r with
  |er c z1=>exact po
  |ok l z1 =>
   obtain⟨b,rfl,po⟩:=po;exact⟨_,rfl,λv H' ex st' rv=>⟨b,Hd.yG (show Hd X.K (hz zA H') (.bl b) v from rv),po H' ex st'⟩⟩
 ·subst he;cases hp
def bV:Ex->Bool
 |.nil=>true|.cons _ _=>true|_=>false
def Good(X:Cx)(G:Gs)(E:XK):Ex->Zm->Prop
 |.nil,es=>es=[]|.cons a r,es=>∃ e es',es=e::es'/\noStar e=true/\aw X G E a e/\bV r=true/\Good X G E r es'|x,es=>∃ e,es=[e]/\aw X G E x e
theorem Good.args:∀ {x:Ex}{es:Zm},bV x=true->Good X G E x es->PA X es (tA X.K G E x)/\es.all noStar=true:=by
 intro x
 induction x with
 |nil =>
  intro es _ h;have h:es=[]:=h;subst h;refine⟨PA.imp lE λσ H Q q=>?_,rfl⟩;obtain⟨zA,ρ,z,r,rel,st,e,po⟩:=q;cases e;exact po [] H Ext.refl st .nil
 |cons a r _ ih =>
  intro es _ h;obtain⟨e,es',rfl,ns,g,lr,gr⟩:=h;obtain⟨h1,h2⟩:=ih lr gr;refine⟨PA.imp (hZ g.pe h1 (bz ns es' X.env)) λσ H Q q=>?_,by rw[Rh,ns,h2];rfl⟩
  obtain⟨zA,ρ,z,rr,rel,st,e,po⟩:=q;have her:∀ c z1,rr=.er c z1->EPost G zA E c z1 H:=λc z1 e=>by subst e;exact po
  refine de rel st e her λl z1 e1=>?_;obtain⟨s,hs,e2⟩:=M.ag e1;refine⟨s,jh hs,λv H1 x1 aY rv=>?_⟩;refine oB (rel.mono x1) aY e2 (λc z2 q=>(her c z2 q).mono x1) λl2 z2 e3 vs H2 x2 st2 rvs=>?_;cases e3;exact po (v::vs) H2 (x1.trans x2) st2 (.cons (rv.mono x2) (Rx.zP rvs λ_ _ q=>q.from x1))
 |_=>intro es h;cases h
def xt:Zk:=["len","sorted","tuple","list","sum","min","max","abs","all","any","int","bool","str","isinstance","range","zip","enumerate","set"]
def lowG(G:Gs)(k:Nat):Gs:={ G with F:=aI G.F,lv:=k }
def CD(P:â)(w:ó)(K:Â)(mg:Str->Zn)(base:ø)(k:Nat)(q:Str):É->Sp:=λs vs H Q _=>∃ (Xl:Cx) (t:LT) (ws:List V),
 vs=[.ref t.f]/\(Xl.prog=P/\Xl.w=w/\Xl.K=K/\Xl.mg=mg/\Xl.base=base)/\LN Xl t.cJ t.N/\IP H q t/\jX t.cJ t.cl t.N ws H s.heap /\
 ((∃ (C:Ì) (j:Nat) (RR:Hp->Prop),Raises Xl q k H t ws (.ref C) RR/\lJ K mg C j/\∀ H',RR H'->Q .bp H')\/(∃ gv:Hp->VK->Prop,Gives Xl q k H t ws gv/\gv H Q))
structure CF(X:Cx)(G:Gs)(sc:Scope)(c P:Addr)(q:Str)(k:Nat)(fR:Addr)(fdR:FuncData):Prop where
 sco:X.env.scope=sc
 code:X.env.code=.ref c
 hd:PySem.W.codeHdIn X.K c P=true
 qual:X.env.qual++"<lambda>"=q
 tb:(P,q)∈TB.tb
 uq:∀ p∈TB.tb,p.1=P->p.2=q
 bm:BMain X.mg X.base
 lv:G.lv=k + 2
 cls:∀ j,j < 12->lJ X.K X.mg (G.cls j) j
 m:X.mg "_law_made"=some (.ref fR)
 kp:PySem.W.keepIn X.K (.ref fR)=true
 bd:Binds X.K fdR ["_law_call"] []
 fn:uH X.prog X.w X.K X.mg X.base (jE X.prog X.w) (k + 2) fR fdR ["_law_call"] (CD X.prog X.w X.K X.mg X.base k q)
 low:∀ f nm ps,G.fns[f]?=some (nm,ps)->∃ fa fd,X.mg nm=some (.ref fa)/\PySem.W.keepIn X.K (.ref fa)=true/\Binds X.K fd ps []/\jQ X.prog X.w X.K X.mg X.base (jE X.prog X.w) k fa fd ps (FI X.K (lowG G k) f ps.length)
theorem CF.rm{X:Cx}{G:Gs}{sc:tv}{c P:Ì}{q:Str}{k:Nat}{fR:Ì}{fdR:Rt}(L:CF X G sc c P q k fR fdR){A:ö}(r:dW G.lv A):dW (k + 2) A:=by rw[← L.lv];exact r
def LY(X:Cx)(G:Gs)(sc:tv):Prop:=∃ c P q k fR fdR,CF X G sc c P q k fR fdR
structure XI(lm:Bool)(X:Cx)(G:Gs)(E:XK)(N:List Str)(sc:Scope):Prop where
 gok:∀ f nm ps,G.fns[f]?=some (nm,ps)->∃ fa fd,X.mg nm=some (.ref fa)/\PySem.W.keepIn X.K (.ref fa)=true/\Binds X.K fd ps []/\jQ X.prog X.w X.K X.mg X.base (jE X.prog X.w) G.lv fa fd ps (FI X.K G f ps.length)
 num:∀ p∈G.nums,∃ t,X.mg p.1=some (.int p.2 t)
 blt:∀ n∈xt,X.mg n=none
 hN:X.N=N
 nd:N.Nodup
 vis:∀ x∈N,HJ X.env.scope x
 glb:∀ x,sc.names.lookup x=some .globalImplicit->Gl X x
 cel:∀ x,(sc.names.lookup x=some .cell\/sc.names.lookup x=some .free)->(X.env.kindOf x=some .cell\/X.env.kindOf x=some .free)
 calm:X.calm=true
 room:dW G.lv X.A
 pas:Passes (jE X.prog X.w) X E
 lam:lm=true->LY X G sc
def glob(sc:tv)(x:Str):Bool:=sc.names.lookup x == some .globalImplicit&&!(x == ("__debug__":Str))&&!(x == ("__name__":Str))
def a8(x:Str):Bool:=!(x == ("__debug__":Str))&&!(x == ("__classdict__":Str))
def CG:Const->D->Bool
 |.int i,.int j=>i == j|.bool a,.bl b=>a == b|.str x,.str y=>x == y|.none,.bp=>true|_,_=>false
def PY:Bf->Str × Bool
 |.len=>("len",false) | .sorted=>("sorted",false) | .tuple=>("tuple",true) | .list=>("list",true) | .sum=>("sum",false) | .min=>("min",false) | .max=>("max",false) | .abs=>("abs",false)|.all=>("all",false) | .int=>("int",true) | .sset=>("sorted",false) | .EV=>("len",false)
def served:Bf->Bool
 |.len | .tuple | .list | .min | .max | .abs | .all | .int | .sorted | .sum=>true|_=>false
mutual
noncomputable def cU(N:Zk)(loc:Str->Bool):gN->Ù->Bool
 |.v i=>λe=>match e with
  |.Name x _=>N[i]? == some x&&loc x|_=>false
 |.tup ps=>λe=>match e with
  |.Tuple es _ _=>lM N loc ps es|_=>false
 |.nil=>λ_=>false|.cons _ _=>λ_=>false
noncomputable def lM(N:Zk)(loc:Str->Bool):gN->Zm->Bool
 |.nil=>λes=>es.isEmpty
 |.cons p r=>λes=>match es with
  |e::es=>noStar e&&cU N loc p e&&lM N loc r es|[]=>false
 |.v _=>λ_=>false|.tup _=>λ_=>false
end
def ef:Ù->Bool
 |.Tuple ..=>true|_=>false
def bG:Ù->Zk
 |.Name x _=>[x]|.Tuple es _ _=>names es|_=>[]
where names:Zm->Zk
 |[]=>[]|.Name x _::r=>x::names r|.Tuple [.Name a _,.Name b _] _ _::r=>a::b::names r|_::r=>names r
def sE(dS sc:tv)(N own:Zk)(ak:List (Str × Nat)):Bool:=
 dS.kind == .function&&dS.names.all (λy=>y.2 != .cell)&&dS.names.all (λy=>y.2 != .local || dS.names.lookup y.1 == some .local) &&
  dS.names.all (λy=>y.2 != .free || (sc.names.lookup y.1 == some .cell || sc.names.lookup y.1 == some .free))&&ak.all (λp=>N[p.2]? == some p.1&&dS.names.lookup p.1 == some .free) &&
  own.all (λx=>dS.names.lookup x == some .local)&&decide (own++ak.map (·.1)).Nodup
def aD(N:Zk):Zh->List (Str × Nat)
 |[]=>[]
 |i::r=>match N[i]? with
  |some x=>(x,i)::aD N r|none=>aD N r
def opt{α:Type}(o:Option α)(f:α->Bool):Bool:=match o with
 |some a=>f a|none=>false
theorem ao{α:Type}{o:Option α}{f:α->Bool}(h:opt o f=true):∃ a,o=some a/\f a=true:=by
 cases o with
 |none=>cases h
 |some a=>exact⟨a,rfl,h⟩
def LZ:(e:Zm)->Option {q:Str × Pos // e=[.Name q.1 q.2]}
 |[.Name n p]=>some ⟨(n,p),rfl⟩|_=>none
def L0:(e:Zm)->Option {q:Const × Nat × Pos // e=[.Constant q.1 q.2.1 q.2.2]}
 |[.Constant c k p]=>some ⟨(c,k,p),rfl⟩|_=>none
def L1:(e:Zm)->Option {q:Pos // e=[.Dict [] [] q]}
 |[.Dict [] [] p]=>some ⟨p,rfl⟩|_=>none
def L4:(e:Zm)->Option {q:Zm × Nat × Pos // e=[.Tuple q.1 q.2.1 q.2.2]}
 |[.Tuple l k p]=>some ⟨(l,k,p),rfl⟩|_=>none
def L5:(e:Zm)->Option {q:Zm × Pos // e=[.List q.1 q.2]}
 |[.List l p]=>some ⟨(l,p),rfl⟩|_=>none
def L6:(e:Zm)->Option {q:Ù × T6 × Ù × Pos // e=[.BinOp q.1 q.2.1 q.2.2.1 q.2.2.2]}
 |[.BinOp l o r p]=>some ⟨(l,o,r,p),rfl⟩|_=>none
def L7:(e:Zm)->Option {q:Ù × CmpOp × Ù × Pos // e=[.Compare q.1 [q.2.1] [q.2.2.1] q.2.2.2]}
 |[.Compare l [o] [r] p]=>some ⟨(l,o,r,p),rfl⟩|_=>none
def L8:(e:Zm)->Option {q:Ù × Pos // e=[.UnaryOp .USub q.1 q.2]}
 |[.UnaryOp .USub x p]=>some ⟨(x,p),rfl⟩|_=>none
def L9:(e:Zm)->Option {q:Ù × Pos // e=[.UnaryOp .Not q.1 q.2]}
 |[.UnaryOp .Not x p]=>some ⟨(x,p),rfl⟩|_=>none
def Ma:(e:Zm)->Option {q:Ù × Ù × Zm × Pos // e=[.BoolOp .And (q.1::q.2.1::q.2.2.1) q.2.2.2]}
 |[.BoolOp .And (l::r::v) p]=>some ⟨(l,r,v,p),rfl⟩|_=>none
def Mb:(e:Zm)->Option {q:Ù × Ù × Zm × Pos // e=[.BoolOp .Or (q.1::q.2.1::q.2.2.1) q.2.2.2]}
 |[.BoolOp .Or (l::r::v) p]=>some ⟨(l,r,v,p),rfl⟩|_=>none
def Mc:(e:Zm)->Option {q:Ù × Ù × Ù × Pos // e=[.IfExp q.1 q.2.1 q.2.2.1 q.2.2.2]}
 |[.IfExp t x y p]=>some ⟨(t,x,y,p),rfl⟩|_=>none
def OU:(e:Zm)->Option {q:Ù × CmpOp × CmpOp × Ù × Ù × Pos // e=[.Compare q.1 [q.2.1,q.2.2.1] [q.2.2.2.1,q.2.2.2.2.1] q.2.2.2.2.2]}
 |[.Compare l [o,o2] [r,s] p]=>some ⟨(l,o,o2,r,s,p),rfl⟩|_=>none
def Md:(e:Zm)->Option {q:Str × Pos × Ù × Zm × Pos // e=[.Call (.Name q.1 q.2.1) (q.2.2.1::q.2.2.2.1) [] q.2.2.2.2]}
 |[.Call (.Name n q1) (x::l) [] p]=>some ⟨(n,q1,x,l,p),rfl⟩|_=>none
def OV:(e:Zm)->Option {q:Str × Pos × Str × Pos × Ù × Pos × Pos // e=[.Call (.Name q.1 q.2.1) [.Call (.Name q.2.2.1 q.2.2.2.1) [q.2.2.2.2.1] [] q.2.2.2.2.2.1] [] q.2.2.2.2.2.2]}
 |[.Call (.Name n p1) [.Call (.Name m p2) [x] [] p3] [] p4]=>some ⟨(n,p1,m,p2,x,p3,p4),rfl⟩|_=>none
def OW:Bf->Bool
 |.sset=>true|_=>false
def Me:(e:Zm)->Option {q:Str × Pos × Ù × Ù × Pos // e=[.Call (.Name q.1 q.2.1) [q.2.2.1,q.2.2.2.1] [] q.2.2.2.2]}
 |[.Call (.Name n q1) [x,ty] [] p]=>some ⟨(n,q1,x,ty,p),rfl⟩|_=>none
def OX:(e:Zm)->Option {q:Ù × Ù × Pos // e=[.Subscript q.1 q.2.1 q.2.2]}
 |[.Subscript v x p]=>some ⟨(v,x,p),rfl⟩|_=>none
def OY:(e:Zm)->Option {q:Ù × Option Ù × Option Ù × Pos × Pos // e=[.Subscript q.1 (.Slice q.2.1 q.2.2.1 none q.2.2.2.1) q.2.2.2.2]}
 |[.Subscript v (.Slice l h none q1) p]=>some ⟨(v,l,h,q1,p),rfl⟩|_=>none
def Jp:(e:Zm)->Option {q:Ù × Ù × Ù × Zm × tv × Pos // e=[.ListComp q.1 [⟨q.2.1,q.2.2.1,q.2.2.2.1,0⟩] q.2.2.2.2.1 q.2.2.2.2.2]}
 |[.ListComp elt [⟨tg,iter,ifs,0⟩] dS p]=>some ⟨(elt,tg,iter,ifs,dS,p),rfl⟩|_=>none
def AA:(e:Ù)->Option {q:Str × Pos × Ù × Pos // e=.Call (.Name q.1 q.2.1) [q.2.2.1] [] q.2.2.2}
 |.Call (.Name n q1) [a] [] p=>some ⟨(n,q1,a,p),rfl⟩|_=>none
def AB:(e:Ù)->Option {q:Str × Pos × Ù × Ù × Pos // e=.Call (.Name q.1 q.2.1) [q.2.2.1,q.2.2.2.1] [] q.2.2.2.2}
 |.Call (.Name n q1) [a,b] [] p=>some ⟨(n,q1,a,b,p),rfl⟩|_=>none
def PZ:(e:Ù)->Option {q:Str × Pos // e=.Name q.1 q.2}
 |.Name n p=>some ⟨(n,p),rfl⟩|_=>none
def OZ:(e:Ù)->Option {q:Str × Pos × Str × Pos × Nat × Pos // e=.Tuple [.Name q.1 q.2.1,.Name q.2.2.1 q.2.2.2.1] q.2.2.2.2.1 q.2.2.2.2.2}
 |.Tuple [.Name a q1,.Name b q2] k p=>some ⟨(a,q1,b,q2,k,p),rfl⟩|_=>none
def O0:(e:Zm)->Option {q:Str × Pos × Int × Nat × Pos × Pos // e=[.Subscript (.Name q.1 q.2.1) (.Constant (.int q.2.2.1) q.2.2.2.1 q.2.2.2.2.1) q.2.2.2.2.2]}
 |[.Subscript (.Name n p) (.Constant (.int j) c q1) r]=>some ⟨(n,p,j,c,q1,r),rfl⟩|_=>none
def O1:(e:Zm)->Option {q:Str × Pos × Str × Pos × Zm × Pos × Pos // e=[.Call (.Name q.1 q.2.1) [.Call (.Name q.2.2.1 q.2.2.2.1) q.2.2.2.2.1 [] q.2.2.2.2.2.1] [] q.2.2.2.2.2.2]}
 |[.Call (.Name n p) [.Call (.Name m q1) l [] r] [] t]=>some ⟨(n,p,m,q1,l,r,t),rfl⟩|_=>none
def Mf:(e:Zm)->Option {q:Str × Pos × Ù × tv × Pos × Pos // e=[.Call (.Name q.1 q.2.1) [.Lambda ⟨[],[],none,[],[],none,[]⟩ q.2.2.1 q.2.2.2.1 q.2.2.2.2.1] [] q.2.2.2.2.2]}
 |[.Call (.Name n p) [.Lambda ⟨[],[],none,[],[],none,[]⟩ b c l] [] t]=>some ⟨(n,p,b,c,l,t),rfl⟩|_=>none
def Qg(sc:tv):Ty->Ù->Bool
 |.seq=>λ_=>false|t=>λe=>opt (PZ e) λq=>q.1.1 == QH (Ax t)&&glob sc (QH (Ax t))
def Jq:D->Bool
 |.dct=>true|_=>false
def FJ:Ù->Bool
 |.IfExp ..=>true|_=>false
def CI(cJ sc:tv)(cs:List (Str × Nat)):Bool:=
 cJ.kind == .function&&!cJ.isCoroutine&&!cJ.isGenerator&&cJ.names.all (λy=>y.2 != .cell)&&cJ.names.all (λy=>y.2 != .free || sc.names.lookup y.1 == some .cell)&&cs.all (λp=>cJ.names.lookup p.1 == some .free)&&decide (cs.map (·.1)).Nodup
def mt:Bool->List (Str × Zk)->List (Str × Int)->Ex->tv->Zk->Zm->Bool
 |lm,fns,nums,.nil=>λ_ _ es=>es.isEmpty
 |lm,fns,nums,.cons a r=>λsc N es=>match es with
  |e::es=>noStar e&&!bV a&&bV r&&mt lm fns nums a sc N [e]&&mt lm fns nums r sc N es|[]=>false
 |lm,fns,nums,.var i=>λ_ N es=>opt (LZ es) λq=>N[i]? == some q.1.1&&a8 q.1.1|lm,fns,nums,.con d=>λ_ _ es=>(opt (L0 es) λq=>CG q.1.1 d) || opt (L1 es) λ_=>Jq d|lm,fns,nums,.gint g i=>λsc _ es=>opt (LZ es) λq=>q.1.1 == g&&glob sc q.1.1&&nums.contains (g,i)|lm,fns,nums,.tup as=>λsc N es=>opt (L4 es) λq=>bV as&&mt lm fns nums as sc N q.1.1|lm,fns,nums,.lst as=>λsc N es=>opt (L5 es) λq=>bV as&&mt lm fns nums as sc N q.1.1|lm,fns,nums,.bin o a b=>λsc N es=>opt (L6 es) λq=>q.1.2.1 == OR o&&!bV a&&!bV b&&mt lm fns nums a sc N [q.1.1]&&mt lm fns nums b sc N [q.1.2.2.1]|lm,fns,nums,.cmp o a b=>λsc N es=>opt (L7 es) λq=>q.1.2.1 == FA o&&iT q.1.2.2.1&&!bV a&&!bV b&&mt lm fns nums a sc N [q.1.1]&&mt lm fns nums b sc N [q.1.2.2.1]|lm,fns,nums,.neg a=>λsc N es=>opt (L8 es) λq=>!bV a&&mt lm fns nums a sc N [q.1.1]|lm,fns,nums,.not a=>λsc N es=>opt (L9 es) λq=>!bV a&&!FJ q.1.1&&mt lm fns nums a sc N [q.1.1]|lm,fns,nums,.and a b=>λsc N es=>opt (Ma es) λq=>!bV a&&!bV b&&!FJ q.1.1&&mt lm fns nums a sc N [q.1.1]&&(if q.1.2.2.1.isEmpty then !FJ q.1.2.1&&mt lm fns nums b sc N [q.1.2.1] else mt lm fns nums b sc N [.BoolOp .And (q.1.2.1::q.1.2.2.1) q.1.2.2.2])|lm,fns,nums,.or a b=>λsc N es=>opt (Mb es) λq=>!bV a&&!bV b&&!FJ q.1.1&&mt lm fns nums a sc N [q.1.1]&&(if q.1.2.2.1.isEmpty then !FJ q.1.2.1&&mt lm fns nums b sc N [q.1.2.1] else mt lm fns nums b sc N [.BoolOp .Or (q.1.2.1::q.1.2.2.1) q.1.2.2.2])|lm,fns,nums,.orT a b=>λsc N es=>opt (Mb es) λq=>!bV a&&!bV b&&q.1.2.2.1.isEmpty&&mt lm fns nums a sc N [q.1.1]&&mt lm fns nums b sc N [q.1.2.1]|lm,fns,nums,.ite c a b=>λsc N es=>opt (Mc es) λq=>!bV c&&!bV a&&!bV b&&!FJ q.1.1&&mt lm fns nums c sc N [q.1.1]&&mt lm fns nums a sc N [q.1.2.1]&&mt lm fns nums b sc N [q.1.2.2.1]|lm,fns,nums,.ch o o' a b c=>λsc N es=>opt (OU es) λq=>q.1.2.1 == FA o&&q.1.2.2.1 == FA o'&&iT q.1.2.2.2.2.1&&!bV a&&!bV b&&!bV c&&mt lm fns nums a sc N [q.1.1]&&mt lm fns nums b sc N [q.1.2.2.2.1]&&mt lm fns nums c sc N [q.1.2.2.2.2.1]|lm,fns,nums,.bf f as=>λsc N es=>(opt (Md es) λq=>served f&&q.1.1 == (PY f).1&&glob sc q.1.1&&bV as&&mt lm fns nums as sc N (q.1.2.2.1::q.1.2.2.2.1)) || (OW f&&opt (OV es) λq=>q.1.1 == ("sorted":Str)&&q.1.2.2.1 == ("set":Str)&&glob sc "sorted"&&glob sc "set"&&bV as&&mt lm fns nums as sc N [q.1.2.2.2.2.1])|lm,fns,nums,.isi t a=>λsc N es=>opt (Me es) λq=>q.1.1 == ("isinstance":Str)&&glob sc q.1.1&&noStar q.1.2.2.1&&!bV a&&mt lm fns nums a sc N [q.1.2.2.1]&&Qg sc t q.1.2.2.2.1|lm,fns,nums,.idx a i=>λsc N es=>opt (OX es) λq=>kQ q.1.2.1&&!bV a&&!bV i&&mt lm fns nums a sc N [q.1.1]&&mt lm fns nums i sc N [q.1.2.1]|lm,fns,nums,.sl a lo hi=>λsc N es=>opt (OY es) λq=>!bV a&&bV lo&&bV hi&&mt lm fns nums a sc N [q.1.1]&&mt lm fns nums lo sc N q.1.2.1.toList&&mt lm fns nums hi sc N q.1.2.2.1.toList|lm,fns,nums,.call f as=>λsc N es=>opt (Md es) λq=>(opt fns[f]? λp=>p.1 == q.1.1&&p.2.length == q.1.2.2.2.1.length + 1)&&glob sc q.1.1&&bV as&&mt lm fns nums as sc N (q.1.2.2.1::q.1.2.2.2.1)
 |lm,fns,nums,.comp own ak p it src cond el=>λsc N es=>opt (Jp es) λq =>
   (bG q.1.2.1).length == own&&(aD N ak).length == ak.length&&sE q.1.2.2.2.2.1 sc N (bG q.1.2.1) (aD N ak)&&cU (bG q.1.2.1++(aD N ak).map (·.1)) (λx=>(bG q.1.2.1).contains x) p q.1.2.1&&bV src&&!bV el&&bV cond&&q.1.2.2.2.1.length<=1&&noStar q.1.1&&iT q.1.2.2.1 &&
    q.1.2.2.2.1.all (λc=>!FJ c) &&
    (match it with
    |.seq=>mt lm fns nums src sc N [q.1.2.2.1]|.rng1=>opt (AA q.1.2.2.1) λr=>r.1.1 == ("range":Str)&&glob sc r.1.1&&mt lm fns nums src sc N [r.1.2.2.1]|.rng2=>opt (AB q.1.2.2.1) λr=>r.1.1 == ("range":Str)&&glob sc r.1.1&&mt lm fns nums src sc N [r.1.2.2.1,r.1.2.2.2.1]|.zip=>opt (AB q.1.2.2.1) λr=>r.1.1 == ("zip":Str)&&glob sc r.1.1&&ef q.1.2.1&&mt lm fns nums src sc N [r.1.2.2.1,r.1.2.2.2.1]|.enum=>opt (AA q.1.2.2.1) λr=>r.1.1 == ("enumerate":Str)&&glob sc r.1.1&&ef q.1.2.1&&mt lm fns nums src sc N [r.1.2.2.1]
    )&&mt false fns nums cond q.1.2.2.2.2.1 (bG q.1.2.1++(aD N ak).map (·.1)) q.1.2.2.2.1&&mt false fns nums el q.1.2.2.2.2.1 (bG q.1.2.1++(aD N ak).map (·.1)) [q.1.1]
 |lm,fns,nums,.lrng b as=>λsc N es=>opt (O1 es) λq=>q.1.1 == G9 b&&q.1.2.2.1 == ("range":Str)&&glob sc (G9 b)&&glob sc "range"&&bV as&&decide (1<=q.1.2.2.2.2.1.length/\q.1.2.2.2.2.1.length<=2)&&mt lm fns nums as sc N q.1.2.2.2.2.1|lm,fns,nums,.zget i k=>λ_ N es=>opt (O0 es) λq=>N[i]? == some q.1.1&&a8 q.1.1&&q.1.2.2.1 == (k:Int)|lm,fns,nums,.mad ak a=>λsc N es=>opt (Mf es) λq=>lm&&q.1.1 == ("_law_made":Str)&&glob sc "_law_made"&&(aD N ak).length == ak.length&&CI q.1.2.2.2.1 sc (aD N ak)&&!bV a&&mt false fns nums a q.1.2.2.2.1 ((aD N ak).map (·.1)) [q.1.2.2.1]
theorem bS{sc:tv}{x:Str}(h:glob sc x=true):sc.names.lookup x=some .globalImplicit/\(x == ("__debug__":Str))=false/\x≠"__name__":=by
 unfold glob at h;simp only[Á,î,beq_iff_eq] at h;refine⟨h.1.1,h.1.2,λe=>?_⟩;subst e;simp at h
section
variable {lm:Bool}{X:Cx}{G:Gs}{E:XK}{N:Zk}{sc:tv}
theorem CJ{K:Â}{zA:Zl}{H0 H:Hp}{s:S}{v:V}(h:wy K zA H s v):j6 K zA H0 H (gK s) v:=by cases s <;> exact h
theorem xu(h:(!FJ e)=true):∀ t a b p,e≠.IfExp t a b p:=by
 intro t a b p he;subst he;cases h
theorem az(hL:bV x=false)(h:Good X G E x [e]):aw X G E x e:=by
 cases x with
 |nil=>cases hL
 |cons _ _=>cases hL
 |_ =>
  obtain⟨e',h1,h2⟩:=(show ∃ e',[e]=[e']/\aw X G E _ e' from h);cases h1;exact h2
theorem aR(hL:bV x=false)(h:aw X G E x e):Good X G E x [e]:=by
 cases x with
 |nil=>cases hL
 |cons _ _=>cases hL
 |_=>exact⟨e,rfl,h⟩
def b9(po:oA X.K G zA E H Q r):∀ c z1,r=.er c z1->EPost G zA E c z1 H:=λc z1 e=>by subst e;exact po
def oD(po:yK G zA E H Q r):∀ c z1,r=.er c z1->EPost G zA E c z1 H:=λc z1 e=>by subst e;exact po
theorem Mg(x:XI lm X G E N sc){i:Nat}{n:Str}{pos:Pos}(h1:N[i]?=some n)(h2:a8 n=true):aw X G E (.var i) (.Name n pos):=by
 unfold a8 at h2;simp only[Á,î] at h2;refine aF (PE.imp (hX (i:=i) (by rw[x.hN];exact h1) (x.vis n (ð h1)) h2.1 h2.2) λσ H Q q=>?_) rfl
 obtain⟨zA,ρ,z,r,rel,st,e,po⟩:=q;have e':(match ρ[i]? with | some (some s)=>Ze [gK s] | _=>Zg) z=some r:=e
 cases hs:ρ[i]? with
 |none=>rw[hs] at e';cases e'
 |some o =>
  cases o with
  |none=>rw[hs] at e';cases e'
  |some s =>
   rw[hs] at e';cases e';obtain⟨v,hv,rv⟩:=rel i s hs;obtain⟨s',e',po⟩:=po;cases e';exact⟨v,hv,po v H Ext.refl st (CJ rv)⟩
theorem Mh(h:CG c d=true):aw X G E (.con d) (.Constant c j pos):=by
 refine aF ?_ rfl;have fin:∀ {v:V},(∀ H,Hd X.K H d v)->∀ σ H Q,tI X.K G E (.con d) σ H Q->tC v σ H Q:=λ{v} hd σ H Q q=>by
  obtain⟨zA,ρ,z,r,rel,st,e,po⟩:=q;cases e;obtain⟨s',e',po⟩:=po;cases e';exact po v H Ext.refl st (oo (hd _))
 cases c with
 |int i=>cases d <;> first | (simp only[CG,beq_iff_eq] at h;subst h;exact PE.imp wA (fin λH=>Hd.int)) | (cases h)
 |bool b=>cases d <;> first | (simp only[CG,beq_iff_eq] at h;subst h;exact PE.imp KZ (fin λH=>Hd.bl)) | (cases h)
 |str y=>cases d <;> first | (simp only[CG,beq_iff_eq] at h;subst h;exact PE.imp Bc (fin λH=>Hd.str)) | (cases h)
 |none=>cases d <;> first | exact PE.imp HL (fin λH=>Hd.bp) | (cases h)
 |_=>cases h
theorem Mi:aw X G E (.con .dct) (.Dict [] [] pos):=by
 refine aF (PE.imp Fd λσ H Q q=>?_) rfl;obtain⟨zA,ρ,z,r,rel,st,e,po⟩:=q;cases e;obtain⟨s',e',po⟩:=po;cases e';intro p hp;refine po _ _ (Ext.of (af.new _ hp)) (st.same (af.new _ hp)) (oo ?_);unfold Hd;exact⟨p,[],rfl,bw aO (st.xo hp)⟩
theorem Jr(x:XI lm X G E N sc){g:Str}{i:Int}{pos:Pos}(h1:glob sc g=true)(h2:(g,i)∈G.nums):aw X G E (.gint g i) (.Name g pos):=by
 obtain⟨k1,k2,_⟩:=bS h1;obtain⟨t,ht⟩:=x.num _ h2;refine aF (PE.imp (EA (v:=.int i) (x.glb g k1) ht ⟨t,rfl⟩ k2) λσ H Q q=>?_) rfl;obtain⟨zA,ρ,z,r,rel,st,e,po⟩:=q;cases e;obtain⟨s',e',po⟩:=po;cases e';exact po _ H Ext.refl st cZ
def j7{K:Â}{zA:Zl}{H0 H:Hp}{l:List S}{vs:List V}{ds:List D}(h:Rx (j6 K zA H0 H) l vs)(e:iZ l=some ds):aK K (hz zA H) ds vs:=pZ.ds (Rx.zP h λ_ _ q=>q.pl) e
theorem Mj{as:Ex}{l:Zm}{k:Nat}{pos:Pos}(hL:bV as=true)(g:Good X G E as l):aw X G E (.tup as) (.Tuple l k pos):=by
 refine aF (PE.imp (Ij (g.args hL).1) λσ H Q q=>?_) rfl;obtain⟨zA,ρ,z,r,rel,st,e,po⟩:=q;refine oB rel st e (b9 po) λl z1 e1 vs H1 x1 aY rvs=>?_;obtain⟨ds,hd,e2⟩:=M.ag e1;split at e2
 ·rename_i hm;cases e2;obtain⟨s',e',po⟩:=po;cases e';have h:=j7 rvs hd;exact⟨d9 (by rw[h.length];exact hm),λp hp=>po _ _ (x1.trans (Ext.of (af.new _ hp))) (aY.same (af.new _ hp)) (oo (Hd.tup ((aY.same (af.new _ hp)).xn (dU.of aO)) (h.same (dG (af.new _ hp)))))⟩
 ·cases e2
theorem Mk{as:Ex}{l:Zm}{pos:Pos}(hL:bV as=true)(g:Good X G E as l):aw X G E (.lst as) (.List l pos):=by
 refine aF (PE.imp (Ik (g.args hL).1) λσ H Q q=>?_) rfl;obtain⟨zA,ρ,z,r,rel,st,e,po⟩:=q;refine oB rel st e (b9 po) λl z1 e1 vs H1 x1 aY rvs=>?_;obtain⟨ds,hd,e2⟩:=M.ag e1;split at e2
 ·rename_i hm;cases e2;obtain⟨s',e',po⟩:=po;cases e';have h:=j7 rvs hd;exact⟨d9 (by rw[h.length];exact hm),λp hp=>po _ _ (x1.trans (Ext.of (af.new _ hp))) (aY.same (af.new _ hp)) ((ir aY h hp).from x1)⟩
 ·cases e2
theorem sF{α:Type}{a b:Ex}{k:D->D->M α}{zA:Zl}{ρ:Env}{z:Z}{r:R α}{σ:L2.St}{H:Hp}{Q:V->V->Hp->Prop}(rel:eP X.K zA H ρ σ)(st:aM zA z H)
 (h:Zd (ev G.F a ρ) (λx=>Zd (Zf (pl x)) λx=>Zd (ev G.F b ρ) λy=>Zd (Zf (pl y)) λy=>k x y) z=some r) (her:∀ c z1,r=.er c z1->EPost G zA E c z1 H)
 (hk:∀ dx dy z2 v w H2,k dx dy z2=some r->Ext zA H H2->aM zA z2 H2->Hd X.K (hz zA H2) dx v->Hd X.K (hz zA H2) dy w->Q v w H2) :
 tI X.K G E a σ H λv H1=>tI X.K G E b σ H1 λw H2=>Q v w H2:=by
 refine de rel st h her λl z1 e1=>?_;obtain⟨dx,p1,e2⟩:=M.ag e1;obtain⟨s1,rfl,q1⟩:=cA p1;refine⟨s1,rfl,λv H1 x1 aY rv=>?_⟩;refine de (rel.mono x1) aY e2 (λc z2 q=>(her c z2 q).mono x1) λm z2 e3=>?_;obtain⟨dy,p2,e4⟩:=M.ag e3;obtain⟨s2,rfl,q2⟩:=cA p2;exact⟨s2,rfl,λw H2 x2 st2 rw'=>hk dx dy z2 v w H2 e4 (x1.trans x2) st2 ((rv.pl.mono x2).d_ q1) (rw'.pl.d_ q2)⟩
def cB{zA:Zl}{H H2:Hp}{z2:Z}{s:S}{Q:VK}(po:oA X.K G zA E H Q (.ok [s] z2))(x:Ext zA H H2)(st:aM zA z2 H2):∀ v H',af H2 H'->j6 X.K zA H2 H' s v->Q v H':=λv H' sm rv=>by
 obtain⟨s',e',po⟩:=po;cases e';exact po v H' (x.trans (Ext.of sm)) (st.same sm) (rv.from x)
theorem Ml(ga:aw X G E a l)(gb:aw X G E b r):aw X G E (.bin o a b) (.BinOp l (OR o) r pos):=by
 refine aF (PE.imp (Lk (Qe o) ga.pe gb.pe) λσ H Q q=>?_) rfl;obtain⟨zA,ρ,z,rr,rel,st,e,po⟩:=q;refine sF rel st e (b9 po) λdx dy z2 v w H2 e2 x2 st2 h1 h2=>?_;obtain⟨s,hs,e3⟩:=M.ag e2;cases e3;exact⟨zA,z2,dx,dy,s,st2,h1,h2,hs,cB po x2 st2⟩
theorem CK(po:yK G zA E H Q r):oA X.K G zA E H (λx H'=>∃ k,x=.bl k/\Q k H') r:=by
 cases r with
 |er c z1=>exact po
 |ok l z1 =>
  obtain⟨b,rfl,po⟩:=po;exact⟨_,rfl,λv H' ex st' rv=>⟨b,Hd.yG (show Hd X.K (hz zA H') (.bl b) v from rv),po H' ex st'⟩⟩
theorem Mm(x:XI lm X G E N sc)(hs:iT r=true)(ga:aw X G E a l)(gb:aw X G E b r):aw X G E (.cmp o a b) (.Compare l [FA o] [r] pos):=by
 have key:∀ σ H Q,tI X.K G E (.cmp o a b) σ H Q->Lj (qa X.K λa b=>(fZ o a b).map λc=>.d (.bl c)) (tI X.K G E a) (tI X.K G E b) σ H Q:=λσ H Q q=>by
  obtain⟨zA,ρ,z,rr,rel,st,e,po⟩:=q;refine sF rel st e (b9 po) λdx dy z2 v w H2 e2 x2 st2 h1 h2=>?_;obtain⟨c,hc,e3⟩:=M.ag e2;cases e3;exact⟨zA,z2,dx,dy,_,st2,h1,h2,by show S9 _ (fZ o dx dy)=_;rw[hc];rfl,cB po x2 st2⟩
 refine⟨PE.imp (EK (Aw x.room.units o) ga.pe gb.pe (xp hs _)) key,λ_=>PT.imp (EL (Aw x.room.units o) ga.pe gb.pe (xp hs _)) λσ H Q q=>?_,λop vs p h=>by cases h⟩
 obtain⟨zA,ρ,z,rr,rel,st,e,po⟩:=q;exact key σ H _ ⟨zA,ρ,z,rr,rel,st,e,CK po⟩
theorem Mn(ga:aw X G E a l):aw X G E (.neg a) (.UnaryOp .USub l pos):=by
 refine aF (PE.imp (Ll Ii ga.pe) λσ H Q q=>?_) rfl;obtain⟨zA,ρ,z,rr,rel,st,e,po⟩:=q;refine de rel st e (b9 po) λm z1 e1=>?_;obtain⟨i,p1,e2⟩:=M.ag e1;obtain⟨d,p2,p3⟩:=Ï.mp p1;obtain⟨s1,rfl,q1⟩:=cA p2;cases e2;refine⟨s1,rfl,λv H1 x1 aY rv=>?_⟩;have hd:=rv.pl.d_ q1;cases d with
 |int j =>
  cases p3;exact⟨i,hd.bK,cB po x1 aY _ _ (af.refl H1) cZ⟩
 |_=>cases p3
theorem Mo(ga:aw X G E a l)(hn:∀ t x y p,l≠.IfExp t x y p):aw X G E (.not a) (.UnaryOp .Not l pos):=by
 refine⟨PE.imp (HU ga.pe) λσ H Q q=>?_,λ_=>PT.imp (HQ (ga.pt hn)) λσ H Q q=>?_,λop vs p h=>by cases h⟩
 ·obtain⟨zA,ρ,z,rr,rel,st,e,po⟩:=q;refine de rel st e (b9 po) λm z1 e1=>?_;obtain⟨b,p1,e2⟩:=M.ag e1;obtain⟨d,p2,p3⟩:=Ï.mp p1;obtain⟨s1,rfl,q1⟩:=cA p2;cases e2;refine⟨s1,rfl,λv H1 x1 aY rv=>?_⟩;have hd:=rv.pl.d_ q1;cases d with
  |bl c =>
   cases p3;exact⟨b,hd.yG,cB po x1 aY _ _ (af.refl H1) cT⟩
  |_=>cases p3
 ·obtain⟨zA,ρ,z,rr,rel,st,e,po⟩:=q;refine mE rel st e (oD po) λb z1 e1 H1 x1 aY=>?_;cases e1;obtain⟨b',e',po⟩:=po;cases e';exact po H1 x1 aY
end
end Q
namespace Q
open PySem L2 PySem.Spec PyProof.Rows
variable [TB:Tb]
section
variable {lm:Bool}{X:Cx}{G:Gs}{E:XK}{N:Zk}{sc:tv}
theorem nr(rel:eP X.K zA H ρ σ)(st:aM zA z H)
 (h:Zd (ev G.F a ρ) (λx=>Zd (Zf ((pl x).bind ni)) k) z=some r) (her:∀ c z1,r=.er c z1->EPost G zA E c z1 H)
 (aV:∀ b z1,k b z1=some r->∀ H1,Ext zA H H1->aM zA z1 H1->Q' (.bl b) H1):tI X.K G E a σ H Q':=by
 refine de rel st h her λm z1 e1=>?_;obtain⟨b,p1,e2⟩:=M.ag e1;obtain⟨d,p2,p3⟩:=Ï.mp p1;obtain⟨s1,rfl,q1⟩:=cA p2;refine⟨s1,rfl,λv H1 x1 aY rv=>?_⟩;have hd:=rv.pl.d_ q1;cases d with
 |bl c =>
  cases p3;rw[hd.yG];exact aV b z1 e2 H1 x1 aY
 |_=>cases p3
theorem Mp(ga:aw X G E a l)(hl:∀ t x y p,l≠.IfExp t x y p)
 (gb:aw X G E b (.BoolOp .And (r::vs) p)):aw X G E (.and a b) (.BoolOp .And (l::r::vs) p):=by
 have pw:PW X (.BoolOp .And (l::r::vs) p) (tT X.K G E (.and a b)):=by
  refine PW.imp (HP (ga.pt hl) (gb.pw _ _ _ rfl)) λσ H Q q=>?_;obtain⟨zA,ρ,z,rr,rel,st,e,po⟩:=q;refine mE rel st e (oD po) λc z1 e1 H1 x1 aY=>?_;cases c with
  |true =>
   rw[if_pos rfl];rw[if_pos rfl] at e1;refine mE (rel.mono x1) aY e1 (λc z2 q=>((oD po) c z2 q).mono x1) λc z2 e2 H2 x2 st2=>?_;cases e2;obtain⟨b',e',po⟩:=po;cases e';exact po H2 (x1.trans x2) st2
  |false =>
   rw[if_neg Û];rw[if_neg Û] at e1;cases e1;obtain⟨b',e',po⟩:=po;cases e';exact po H1 x1 aY
 refine⟨PE.imp (HS ga.pe gb.pe) λσ H Q q=>?_,λ_=>pw.pt,λop vs p h=>pw⟩;obtain⟨zA,ρ,z,rr,rel,st,e,po⟩:=q;refine nr rel st e (b9 po) λc z1 e1 H1 x1 aY=>⟨c,rfl,?_⟩;cases c with
 |true =>
  rw[if_pos rfl];rw[if_pos rfl] at e1;refine nr (rel.mono x1) aY e1 (λc z2 q=>((b9 po) c z2 q).mono x1) λc z2 e2 H2 x2 st2=>?_;cases e2;exact cB po (x1.trans x2) st2 _ _ (af.refl H2) cT
 |false =>
  rw[if_neg Û];rw[if_neg Û] at e1;cases e1;exact cB po x1 aY _ _ (af.refl H1) cT
theorem O2(ga:aw X G E a l)(hl:∀ t x y p,l≠.IfExp t x y p)
 (gb:aw X G E b (.BoolOp .Or (r::vs) p)):aw X G E (.or a b) (.BoolOp .Or (l::r::vs) p):=by
 have pw:PW X (.BoolOp .Or (l::r::vs) p) (tT X.K G E (.or a b)):=by
  refine PW.imp (K0 (ga.pt hl) (gb.pw _ _ _ rfl)) λσ H Q q=>?_;obtain⟨zA,ρ,z,rr,rel,st,e,po⟩:=q;refine mE rel st e (oD po) λc z1 e1 H1 x1 aY=>?_;cases c with
  |false =>
   rw[if_neg Û];rw[if_neg Û] at e1;refine mE (rel.mono x1) aY e1 (λc z2 q=>((oD po) c z2 q).mono x1) λc z2 e2 H2 x2 st2=>?_;cases e2;obtain⟨b',e',po⟩:=po;cases e';exact po H2 (x1.trans x2) st2
  |true =>
   rw[if_pos rfl];rw[if_pos rfl] at e1;cases e1;obtain⟨b',e',po⟩:=po;cases e';exact po H1 x1 aY
 refine⟨PE.imp (K5 ga.pe gb.pe) λσ H Q q=>?_,λ_=>pw.pt,λop vs p h=>pw⟩;obtain⟨zA,ρ,z,rr,rel,st,e,po⟩:=q;refine nr rel st e (b9 po) λc z1 e1 H1 x1 aY=>⟨c,rfl,?_⟩;cases c with
 |false =>
  rw[if_neg Û];rw[if_neg Û] at e1;refine nr (rel.mono x1) aY e1 (λc z2 q=>((b9 po) c z2 q).mono x1) λc z2 e2 H2 x2 st2=>?_;cases e2;exact cB po (x1.trans x2) st2 _ _ (af.refl H2) cT
 |true =>
  rw[if_pos rfl];rw[if_pos rfl] at e1;cases e1;exact cB po x1 aY _ _ (af.refl H1) cT
theorem He(gb:aw X G E b r)(hr:∀ t x y p,r≠.IfExp t x y p):aw X G E b (.BoolOp op [r] p):=by
 have pw:PW X (.BoolOp op [r] p) (tT X.K G E b):=by
  cases op with
  |And=>exact EC (gb.pt hr)|Or=>exact HN (gb.pt hr)
 exact⟨HR gb.pe,λ_=>pw.pt,λ_ _ _ _=>pw⟩
theorem oA.Hg(po:oA X.K G zA E H Q rr)(x1:Ext zA H H1):oA X.K G zA E H1 Q rr:=by
 cases rr with
 |er c z1=>exact EPost.mono po x1
 |ok l z2 =>
  obtain⟨s,e',po⟩:=po;exact⟨s,e',λv H' x' st' rv=>po v H' (x1.trans x') st' (rv.from x1)⟩
theorem qO{α:Type}{m:M α}{z:Z}{r:R α}(h:M.calm m z=some r):m z=some r/\∃ a z1,r=.ok a z1:=by
 unfold M.calm at h;split at h
 ·rename_i a z1 e;cases h;exact⟨e,a,z1,rfl⟩
 ·cases h
theorem Js(ha:PE X a ta)(hb:PE X b tb):PE X (.BoolOp .Or [a,b] pos) (λσ H Q=>ta σ H λx H1=>∃ t xs,x=.ref t/\dU X.K H1 t xs/\if xs.isEmpty=true then tb σ H1 Q else Q x H1):=by
 intro aa s σ H Q I h;refine BoolOp_or (b7 (ha aa s σ H _ I h) λv s1 ⟨x,H1,I1,r1,q1⟩=>?_);obtain⟨t,xs,rfl,hq,q1⟩:=q1;obtain⟨ar,hv,ht,hl⟩:=I1.tuple hq;have hlen:xs.length=ar.length:=hv.length;cases r1;refine truthy_tuple ht (by rw[ã,← hlen];have:=Qy;omega) ?_
 cases xs with
 |nil =>
  cases ar with
  |nil=>exact BoolOp_one (hb aa _ σ H1 Q (I1.tok _) q1)|cons _ _=>cases hlen
 |cons y r =>
  cases ar with
  |nil=>cases hlen
  |cons _ _=>exact⟨.ref t,H1,I1.tok _,rfl,q1⟩
theorem CL(h:(pl y).bind Cc=some l):∃ s,y=[s]/\Cb s=some (.tup l):=by
 obtain⟨d,p2,p3⟩:=Ï.mp h;obtain⟨s1,rfl,q1⟩:=cA p2;cases d with
 |tup l=>cases p3;exact⟨s1,rfl,q1⟩
 |_=>cases p3
theorem Mq(ga:aw X G E a l)(gb:aw X G E b r):aw X G E (.orT a b) (.BoolOp .Or [l,r] p):=by
 have no:∀ {zA:Zl}{ρ:Env}{z:Z}{rr:R (List S)}{H:Hp}{Q:Bool->Hp->Prop},ev G.F (.orT a b) ρ z=some rr->yK G zA E H Q rr->False:=λe po=>by
  obtain⟨e,u,z1,rfl⟩:=qO e;obtain⟨c,rfl,_⟩:=po;rcases M.bind_some e with ⟨m,z2,_,e2⟩ | ⟨c,z2,_,e2⟩
  ·obtain⟨ds,_,e3⟩:=M.ag e2;split at e3
   ·rcases M.bind_some e3 with ⟨m,z2,_,e2⟩ | ⟨c,z2,_,e2⟩
    ·obtain⟨ds,_,e3⟩:=M.ag e2;cases e3
    ·cases e2
   ·cases e3
  ·cases e2
 refine⟨PE.imp (Js ga.pe gb.pe) λσ H Q q=>?_,λ_ aa s σ H Q I ⟨_,_,_,_,_,_,e,po⟩=>(no e po).elim,λ_ _ _ _ wh aa s σ H Q I ⟨_,_,_,_,_,_,e,po⟩=>(no e po).elim⟩;obtain⟨zA,ρ,z,rr,rel,st,e,po⟩:=q;obtain⟨e,u,z1,rfl⟩:=qO e;refine de rel st e (b9 po) λm z1 e1=>?_;obtain⟨ds,p1,e2⟩:=M.ag e1;obtain⟨s1,rfl,q1⟩:=CL p1;refine⟨s1,rfl,λv H1 x1 aY rv=>?_⟩;have hd:=rv.pl.d_ q1;obtain⟨t,xs,rfl,h1,h2⟩:=hd.fE;refine⟨t,xs,rfl,(ah zA H1).jV h1,?_⟩;cases ds with
 |nil =>
  cases h2.bN;have po:=po.Hg x1;refine de (rel.mono x1) aY e2 (b9 po) λm z1 e1=>?_;obtain⟨ds,p1,e2⟩:=M.ag e1;obtain⟨s1,rfl,q1⟩:=CL p1;cases e2;exact⟨s1,rfl,λv H2 x2 st2 rv=>cB po x2 st2 _ _ (af.refl H2) (rv.pl.d_ q1)⟩
 |cons y r =>
  obtain⟨u,w,rfl,_⟩:=h2.aN;cases e2;exact cB po x1 aY _ _ (af.refl H1) hd
theorem Mr(gc:aw X G E c t)(ht:∀ a b d p,t≠.IfExp a b d p)(ga:aw X G E a x)(gb:aw X G E b y):aw X G E (.ite c a b) (.IfExp t x y p):=by
 refine⟨PE.imp (Bg (gc.pt ht) ga.pe gb.pe) λσ H Q q=>?_,λh=>absurd rfl (h t x y p),λop vs p h=>by cases h⟩
 obtain⟨zA,ρ,z,rr,rel,st,e,po⟩:=q;refine mE rel st e (b9 po) λk z1 e1 H1 x1 aY=>?_;have po1:=po.Hg x1;cases k with
 |true =>
  rw[if_pos rfl];rw[if_pos rfl] at e1;exact⟨zA,ρ,z1,rr,rel.mono x1,aY,e1,po1⟩
 |false =>
  rw[if_neg Û];rw[if_neg Û] at e1;exact⟨zA,ρ,z1,rr,rel.mono x1,aY,e1,po1⟩
theorem O3(x:XI lm X G E N sc)(hs:iT s=true)(ga:aw X G E a l)(gb:aw X G E b r)(gc:aw X G E c s):aw X G E (.ch o o' a b c) (.Compare l [FA o,FA o'] [r,s] pos):=by
 have hm:lastMarks [FA o,FA o'] [r,s]=false:=xp hs _;have key:∀ σ H Q,tI X.K G E (.ch o o' a b c) σ H Q->wI (qa X.K λa b=>(fZ o a b).map λc=>.d (.bl c)) (qa X.K λa b=>(fZ o' a b).map λc=>.d (.bl c)) (tI X.K G E a) (tI X.K G E b) (tI X.K G E c) σ H Q:=λσ H Q q=>by
  obtain⟨zA,ρ,z,rr,rel,st,e,po⟩:=q;refine sF rel st e (b9 po) λdx dy z2 v w H2 e2 x2 st2 h1 h2=>?_;obtain⟨k,hk,e3⟩:=M.ag e2;refine⟨zA,z2,dx,dy,.d (.bl k),st2,h1,h2,by show S9 _ (fZ o dx dy)=_;rw[hk];rfl,λv3 H3 sm rv=>⟨k,Hd.yG (show Hd X.K (hz zA H3) (.bl k) v3 from rv),?_⟩⟩
  have x3:=x2.trans (Ext.of sm);have st3:=st2.same sm;cases k with
  |true =>
   rw[if_pos rfl];rw[if_pos rfl] at e3;refine de (rel.mono x3) st3 e3 (λc z2 q=>((b9 po) c z2 q).mono x3) λm z4 e4=>?_;obtain⟨dw,p1,e5⟩:=M.ag e4;obtain⟨k',hk',e6⟩:=M.ag e5;obtain⟨s1,rfl,q1⟩:=cA p1;cases e6;refine⟨s1,rfl,λv4 H4 x4 st4 rv4=>?_⟩;exact⟨zA,z4,dy,dw,_,st4,(h2.same (af.trans (dG sm) x4)),rv4.pl.d_ q1,by show S9 _ (fZ o' dy dw)=_;rw[hk'];rfl,cB po (x3.trans x4) st4⟩
  |false =>
   rw[if_neg Û];rw[if_neg Û] at e3;cases e3;exact cB po x3 st3 _ _ (af.refl H3) cT
 refine⟨PE.imp (Bt (Aw x.room.units o) (Aw x.room.units o') ga.pe gb.pe gc.pe hm) key,λ_=>PT.imp (Bu (Aw x.room.units o) (Aw x.room.units o') ga.pe gb.pe gc.pe hm) λσ H Q q=>?_,λop vs p h=>by cases h⟩
 obtain⟨zA,ρ,z,rr,rel,st,e,po⟩:=q;exact key σ H _ ⟨zA,ρ,z,rr,rel,st,e,CK po⟩
def CM:∀ σ H Q,tI X.K G E (.bf f as) σ H Q->Ob (As X.K (pY f)) (tA X.K G E as) σ H Q:=λσ H Q q=>by
 obtain⟨zA,ρ,z,rr,rel,st,e,po⟩:=q;refine oB rel st e (b9 po) λl z1 e1 vs H1 x1 aY rvs=>?_;obtain⟨ds,hd,e2⟩:=M.ag e1;obtain⟨s,hs,e3⟩:=M.ag e2;cases e3;exact⟨zA,z1,ds,s,aY,j7 rvs hd,hs,cB po x1 aY⟩
theorem oE(x:XI lm X G E N sc){f:Bf}{as:Ex}{n:Str}{id:String}{e:Ù}{l:Zm}{p pos:Pos}(hc:bZ X (.builtin id) (As X.K (pY f)))(hb:n∈xt)(hv:õ n=some (.builtin id))(hg:glob sc n=true)(hL:bV as=true)(g:Good X G E as (e::l)):aw X G E (.bf f as) (.Call (.Name n p) (e::l) [] pos):=by
 obtain⟨k1,k2,k3⟩:=bS hg;obtain⟨ha,hs⟩:=g.args hL;rw[Rh,Á] at hs;exact aF (PE.imp (nM hc (x.glb n k1) (x.blt n hb) hv ha k3 k2 (bz hs.1 l X.env) (gW X.env pos hs.2)) CM) rfl
theorem CN(x:XI lm X G E N sc){f:Bf}{as:Ex}{n:Str}{T:String}{e:Ù}{l:Zm}{p pos:Pos}(hc:bZ X (.type T) (As X.K (pY f)))(hb:n∈xt)(hv:õ n=some (.type T))(hg:glob sc n=true)(hL:bV as=true)(g:Good X G E as (e::l)):aw X G E (.bf f as) (.Call (.Name n p) (e::l) [] pos):=by
 obtain⟨k1,k2,k3⟩:=bS hg;obtain⟨ha,hs⟩:=g.args hL;rw[Rh,Á] at hs;exact aF (PE.imp (qC hc (x.glb n k1) (x.blt n hb) hv ha k3 k2 (bz hs.1 l X.env) (gW X.env pos hs.2)) CM) rfl
theorem Jt:õ "len"=some (.builtin "len"):=by decide +kernel
theorem qP:õ "sorted"=some (.builtin "sorted"):=by decide +kernel
theorem Ju:õ "all"=some (.builtin "all"):=by decide +kernel
theorem Jv:õ "sum"=some (.builtin "sum"):=by decide +kernel
theorem Jw:õ "min"=some (.builtin "min"):=by decide +kernel
theorem Jx:õ "max"=some (.builtin "max"):=by decide +kernel
theorem Jy:õ "abs"=some (.builtin "abs"):=by decide +kernel
theorem qg:õ "isinstance"=some (.builtin "isinstance"):=by decide +kernel
theorem Jz:õ "int"=some (.type "int"):=by decide +kernel
theorem u0:õ "tuple"=some (.type "tuple"):=by decide +kernel
theorem yL:õ "list"=some (.type "list"):=by decide +kernel
theorem O4(x:XI lm X G E N sc){f:Bf}{as:Ex}{n:Str}{e:Ù}{l:Zm}{p pos:Pos}(hf:served f=true)(hn:n=(PY f).1)(hg:glob sc n=true)(hL:bV as=true)(g:Good X G E as (e::l)):aw X G E (.bf f as) (.Call (.Name n p) (e::l) [] pos):=by
 subst hn;cases f with
 |len=>exact oE x Jd 1e1 Jt hg hL g|tuple=>exact CN x Cs 1e1 u0 hg hL g|list=>exact CN x FC 1e1 yL hg hL g|min=>exact oE x (Jg x.calm) 1e1 Jw hg hL g|max=>exact oE x (Jh x.calm) 1e1 Jx hg hL g|abs=>exact oE x Ji 1e1 Jy hg hL g|all=>exact oE x (Je x.calm) 1e1 Ju hg hL g|int=>exact CN x Jj 1e1 Jz hg hL g|sorted=>exact oE x (Ay x.room.units) 1e1 qP hg hL g|sum=>exact oE x (Jf x.calm) 1e1 Jv hg hL g|_=>cases hf
theorem Ms(t:Ty)(h:t≠.seq):QH (Ax t)∈xt/\õ (QH (Ax t))=some (.type (Ax t))/\Ax t∈["int","bool","tuple","list","str"]:=by
 cases t with
 |seq=>exact absurd rfl h|_=>decide +kernel
theorem JA(x:XI lm X G E N sc){t:Ty}{a:Ex}{n:Str}{e:Ù}{p pos p2:Pos}(hs:t≠.seq)
 (hg2:glob sc (QH (Ax t))=true) (hn:n="isinstance") (hg:glob sc n=true) (ns:noStar e=true) (ga:aw X G E a e):aw X G E (.isi t a) (.Call (.Name n p) [e,.Name (QH (Ax t)) p2] [] pos):=by
 obtain⟨hb,hv,ht⟩:=Ms t hs;subst hn;obtain⟨k1,k2,k3⟩:=bS hg;obtain⟨m1,m2,m3⟩:=bS hg2;refine aF (PE.imp (nM BZ (x.glb _ k1) (x.blt _ 1e1) qg (hZ ga.pe (hZ (EB (v:=.ty (Ax t)) (x.glb _ m1) (x.blt _ hb) hv rfl m3 m2) lE) (bz ns _ _)) k3 k2 (bz ns _ _) rfl) λσ H Q q=>?_) rfl
 obtain⟨zA,ρ,z,rr,rel,st,e,po⟩:=q;refine de rel st e (b9 po) λm z1 e1=>?_;obtain⟨d,p1,e2⟩:=M.ag e1;obtain⟨s1,rfl,q1⟩:=cA p1;cases e2;refine⟨s1,rfl,λv H1 x1 aY rv=>⟨d,v,Ax t,rfl,((rv.pl.d_ q1).same (ah zA H1)).has,ht,?_⟩⟩;rw[FD t d hs];exact cB po x1 aY _ _ (af.refl H1) cT
theorem Mt(hs:kQ x=true)(ga:aw X G E a v)(gi:aw X G E i x):aw X G E (.idx a i) (.Subscript v x pos):=by
 refine aF (PE.imp (G5 Qf ga.pe gi.pe (oC hs)) λσ H Q q=>?_) rfl;obtain⟨zA,ρ,z,rr,rel,st,e,po⟩:=q;refine sF rel st e (b9 po) λdx dy z2 v w H2 e2 x2 st2 h1 h2=>?_;obtain⟨c,hc,e3⟩:=M.ag e2;cases e3;exact⟨zA,z2,dx,dy,_,st2,h1,h2,by show S9 _ (je dx dy)=_;rw[hc];rfl,cB po x2 st2⟩
theorem JB(x:XI lm X G E N sc){i k:Nat}{n:Str}{c:Nat}{p q pos:Pos}(h1:N[i]?=some n)(h2:a8 n=true):aw X G E (.zget i k) (.Subscript (.Name n p) (.Constant (.int k) c q) pos):=by
 unfold a8 at h2;simp only[Á,î] at h2;refine aF (PE.imp (G5 yo (hX (i:=i) (by rw[x.hN];exact h1) (x.vis n (ð h1)) h2.1 h2.2) wA (oC rfl)) λσ H Q qq=>?_) rfl
 obtain⟨zA,ρ,z,rr,rel,st,e,po⟩:=qq;have e0:uP k ρ[i]? z=some rr:=e;unfold uP at e0;split at e0
 ·rename_i p hs;obtain⟨v,hv,a,hz',rfl⟩:=rel i .z hs;subst hz';have st':H a=some (.lst [.int p.1,.bl p.2]):=st.zat;refine⟨_,hv,a,[.int p.1,.bl p.2],(k:Int),?_⟩;split at e0
  ·rename_i hk;subst hk;cases e0;obtain⟨s',e',po⟩:=po;cases e';exact⟨_,rfl,rfl,jP.of st',rfl,po _ H Ext.refl st cZ⟩
  ·split at e0
   ·rename_i hk;subst hk;cases e0;obtain⟨s',e',po⟩:=po;cases e';exact⟨_,rfl,rfl,jP.of st',rfl,po _ H Ext.refl st (oo Hd.bl)⟩
   ·cases e0
 ·cases e0
theorem u9(a:Int):∀ (n:Nat) {ar:Zj},ar.length=n->(∀ i,i < n->∃ v t,ar[i]?=some v/\v=.int (a + (i:Nat)) t)->Vals ((Ö n).map λ(k:Nat)=>V.int (a + k)) ar:=by
 intro n ar hl h;have:∀ (m:Nat) (l:Zj) (o:Nat),l.length=m->(∀ i,i < m->∃ v t,l[i]?=some v/\v=.int (a + (o + i:Nat)) t)->Vals ((Ro o m 1).map λ(k:Nat)=>V.int (a + k)) l:=by
  intro m
  induction m with
  |zero =>
   intro l o hl _;rw[List.length_eq_zero_iff.mp hl];exact .nil
  |succ m ih =>
   intro l o hl h;cases l with
   |nil=>cases hl
   |cons x r =>
    obtain⟨v,t,e1,e2⟩:=h 0 (Nat.succ_pos m);simp only[Sz,Sk] at e1;subst e1;rw[SR,QS];refine .cons ⟨t,by rw[e2];simp⟩ (ih r (o + 1) (by simpa using hl) λi hi=>?_)
    obtain⟨v,t,e1,e2⟩:=h (i + 1) (Nat.succ_lt_succ hi);exact⟨v,t,by simpa using e1,by rw[e2];congr 1;omega⟩
 rw[Sx];exact this n ar 0 hl λi hi=>by
  obtain⟨v,t,e1,e2⟩:=h i hi;exact⟨v,t,e1,by rw[e2];simp⟩
theorem AD:õ "range"=some (.type "range"):=by decide +kernel
def Qh:List V->Option (Int × Int)
 |[.int j]=>some (0,j)|[.int i,.int j]=>some (i,j)|_=>none
def O5:Bool->List V->HO
 |true=>HO.tup|false=>HO.lst
def P0:Bool->String
 |true=>"tuple"|false=>"list"
def Mu(b:Bool)(ta:TA):TE:=λσ H Q=>ta σ H λvs H1=>∃ i j:Int,Qh vs=some (i,j)/\-100000 < i/\i < 100000/\-100000 < j/\j < 100000/\∀ l,H1 l=none->Q (.ref l) (upd H1 l (O5 b ((Ö (j - i).toNat).map λ(k:Nat)=>V.int (i + k))))
theorem JC{aa:List (Ì × Obj)}{σ:L2.St}{H1:Hp}{s1:É}{r:Ì}{i j:Int}{t u v:Tok}{Q:VK}(hc:X.calm=true)(I2:Inv X aa σ H1 s1)(hr:WT s1.heap r i j 1 t u v)(i1:-100000 < i)(i2:i < 100000)(j1:-100000 < j)(j2:j < 100000)
 (q:∀ l,H1 l=none->Q (.ref l) (upd H1 l (.lst ((Ö (j - i).toNat).map λ(k:Nat)=>V.int (i + k))))):Ô (à X.prog X.w) X.A (call (.type "list") [.ref r]) (EP X aa σ Q) X.xe s1:=by
 have hz:Rf i j 1=(((j - i).toNat:Nat):Int):=by rw[Xx];split <;> omega
 refine call_list_range (n:=(j - i).toNat) (I2.ok.hd hc) hr (small_one ∅ ∅ ∅ ∅) hz ∅ λh' tk acc' c' kp hS hacc=>?_
 have rv:Vals ((Ö (j - i).toNat).map λ(k:Nat)=>V.int (i + k)) acc'.toList:=by
  refine u9 i (j - i).toNat ?_ λi hi=>?_
  ·rw[Sw];exact hacc.1
  ·have hlt:i < acc'.size:=by rw[hacc.1];exact hi
   obtain⟨t,e⟩:=hacc.2 i acc'[i] (Sa hlt);exact⟨acc'[i],t,by rw[û];exact Sa hlt,by rw[e];simp⟩
 have hlen:((Ö (j - i).toNat).map λ(k:Nat)=>V.int (i + k)).length<=sizeLine:=by rw[Ä,ï,Qy];omega
 have hn:=I2.aV.fresh (Ñ _);exact⟨.ref _,_,I2.laid (t':=tk) kp (Ñ _) (show c9 X.prog X.w _ h' _ (.lst _) from⟨hlen,acc'.toList,c',rv,by rw[Ts];exact hS⟩),rfl,q _ hn⟩
theorem FK{aa:List (Ì × Obj)}{σ:L2.St}{H1:Hp}{s1:É}{r:Ì}{i j:Int}{t u v:Tok}{Q:VK}(hc:X.calm=true)(I2:Inv X aa σ H1 s1)(hr:WT s1.heap r i j 1 t u v)(i1:-100000 < i)(i2:i < 100000)(j1:-100000 < j)(j2:j < 100000)
 (q:∀ l,H1 l=none->Q (.ref l) (upd H1 l (.tup ((Ö (j - i).toNat).map λ(k:Nat)=>V.int (i + k))))):Ô (à X.prog X.w) X.A (call (.type "tuple") [.ref r]) (EP X aa σ Q) X.xe s1:=by
 have hz:Rf i j 1=(((j - i).toNat:Nat):Int):=by rw[Xx];split <;> omega
 refine HT.tuple_range (n:=(j - i).toNat) (I2.ok.hd hc) hr (small_one ∅ ∅ ∅ ∅) hz ∅ λh' tk acc' kp hsz hacc=>?_
 have rv:Vals ((Ö (j - i).toNat).map λ(k:Nat)=>V.int (i + k)) acc'.toList:=by
  refine u9 i (j - i).toNat ?_ λi hi=>?_
  ·rw[Sw];exact hacc.1
  ·have hlt:i < acc'.size:=by rw[hacc.1];exact hi
   obtain⟨t,e⟩:=hacc.2 i acc'[i] (Sa hlt);exact⟨acc'[i],t,by rw[û];exact Sa hlt,by rw[e];simp⟩
 have hlen:((Ö (j - i).toNat).map λ(k:Nat)=>V.int (i + k)).length<=sizeLine:=by rw[Ä,ï,Qy];omega
 exact⟨.ref _,_,I2.laid (t':=tk) (λb o e=>Ã _ (kp b o e)) hsz (show c9 X.prog X.w _ _ _ (.tup _) from⟨hlen,acc'.toList,rv,⟨_,Ò _ rfl,rfl,0,by rw[Ts]⟩⟩),rfl,q _ (I2.aV.fresh hsz)⟩
theorem yM(b:Bool){aa:List (Ì × Obj)}{σ:L2.St}{H1:Hp}{s1:É}{r:Ì}{i j:Int}{t u v:Tok}{Q:VK}(hc:X.calm=true)(I2:Inv X aa σ H1 s1)(hr:WT s1.heap r i j 1 t u v)(i1:-100000 < i)(i2:i < 100000)(j1:-100000 < j)(j2:j < 100000)
 (q:∀ l,H1 l=none->Q (.ref l) (upd H1 l (O5 b ((Ö (j - i).toNat).map λ(k:Nat)=>V.int (i + k))))):Ô (à X.prog X.w) X.A (call (.type (P0 b)) [.ref r]) (EP X aa σ Q) X.xe s1:=by
 cases b with
 |true=>exact FK hc I2 hr i1 i2 j1 j2 q|false=>exact JC hc I2 hr i1 i2 j1 j2 q
theorem Mv(b:Bool):õ (G9 b)=some (.type (P0 b)):=by
 cases b with
 |true=>exact u0|false=>exact yL
theorem AE(b:Bool){e:Ù}{l:Zm}{ta:TA}{p p2 pos pos2:Pos}(hc:X.calm=true)(hg:Gl X (G9 b))(hm:X.mg (G9 b)=none)(hg2:Gl X "range")(hm2:X.mg "range"=none)(ha:PA X (e::l) ta)(hs:noStar e=true)(hs2:l.all noStar=true) :
 PE X (.Call (.Name (G9 b) p) [.Call (.Name "range" p2) (e::l) [] pos2] [] pos) (Mu b ta):=by
 intro aa s σ H Q I h;refine Call_ (hY I hg hm (Mv b) (QA (XE ?_) rfl rfl) (by cases b <;> decide) (by cases b <;> decide))
 refine Call_ (hY I hg2 hm2 AD (QA (b7 (ha pos2 aa s σ H _ I h) λus s1 ⟨vs,H1,I1,r1,q1⟩=>?_) (bz hs l X.env) (gW X.env pos2 hs2)));obtain⟨i,j,hv,i1,i2,j1,j2,q⟩:=q1
 match vs,hv with
 |[.int _],hv =>
  cases hv;obtain⟨u,rfl,r⟩:=vals1 r1;obtain⟨t,rfl⟩:=r;exact call_range_1 (Vd (yM b hc (I1.kept λb o e=>Ã _ e) (WI ..) i1 i2 j1 j2 q))
 |[.int _,.int _],hv =>
  cases hv;obtain⟨u,u',rfl,r,r'⟩:=vals2 r1;obtain⟨t,rfl⟩:=r;obtain⟨t',rfl⟩:=r';exact call_range_2 (Vd (yM b hc (I1.kept λb o e=>Ã _ e) (WI ..) i1 i2 j1 j2 q))
theorem CO:∀ {ds xs:List D},KQ ds=some xs->∃ i j:Int,((ds=[.int j]/\i=0)\/ds=[.int i,.int j])/\-100000 < i/\i < 100000/\-100000 < j/\j < 100000/\xs=(Ö (j - i).toNat).map λ(k:Nat)=>D.int (i + k)
 |[],_,h=>by cases h
 |[x],xs,h=>by
  cases x with
  |int j =>
   obtain⟨hj,h⟩:=cL h;have hj:=jf.mp hj;exact⟨0,j,.inl ⟨rfl,rfl⟩,∅,∅,hj.1,hj.2,by cases h;simp⟩
  |_=>cases h
 |[x,y],xs,h=>by
  cases x with
  |int i =>
   cases y with
   |int j =>
    obtain⟨hj,h⟩:=cL h;have h1:=jf.mp hj.1;have h2:=jf.mp hj.2;exact⟨i,j,.inr rfl,h1.1,h1.2,h2.1,h2.2,by cases h;rfl⟩
   |_=>cases h
  |_=>cases h
 |x::y::_::_,_,h=>by
  cases x with
  |int i=>cases y <;> cases h
  |_=>cases h
theorem JD(x:XI lm X G E N sc){b:Bool}{as:Ex}{a:Ù}{l:Zm}{p p2 pos pos2:Pos}(h1:glob sc (G9 b)=true)(h2:glob sc "range"=true)(hL:bV as=true)(g:Good X G E as (a::l)):aw X G E (.lrng b as) (.Call (.Name (G9 b) p) [.Call (.Name "range" p2) (a::l) [] pos2] [] pos):=by
 obtain⟨k1,_,_⟩:=bS h1;obtain⟨m1,_,_⟩:=bS h2;obtain⟨ha,hs⟩:=g.args hL;rw[Rh,Á] at hs;refine aF (PE.imp (AE b x.calm (x.glb _ k1) (x.blt _ (by cases b <;> decide)) (x.glb _ m1) (x.blt _ 1e1) ha hs.1 hs.2) λσ H Q q=>?_) rfl
 obtain⟨zA,ρ,z,rr,rel,st,e,po⟩:=q;refine oB rel st e (b9 po) λl z1 e1 vs H1 x1 aY rvs=>?_;obtain⟨xs,hx,e2⟩:=M.ag e1;cases e2;obtain⟨s',e',po⟩:=po;cases e';obtain⟨ds,h3,h4⟩:=Ï.mp hx;have hd:=j7 rvs h3;have fin:∀ i j:Int,xs=(Ö (j - i).toNat).map (λ(k:Nat)=>D.int (i + k))->∀ lA,H1 lA=none->Q (.ref lA) (upd H1 lA (O5 b ((Ö (j - i).toNat).map λ(k:Nat)=>V.int (i + k)))):=λi j ex lA hn=>by
  subst ex;have hI:=aK.ints (K:=X.K) (H:=hz zA H1) ((Ö (j - i).toNat).map λ(k:Nat)=>i + (k:Int));rw[Ó,Ó] at hI;cases b with
  |false=>exact po _ _ (x1.trans (Ext.of (af.new _ hn))) (aY.same (af.new _ hn)) ((ir aY hI hn).from x1)|true=>exact po _ _ (x1.trans (Ext.of (af.new _ hn))) (aY.same (af.new _ hn)) (oo (Hd.tup ((aY.same (af.new _ hn)).xn (dU.of aO)) (hI.same (dG (af.new _ hn)))))
 obtain⟨i,j,hds,j1,j2,j3,j4,ex⟩:=CO h4;refine⟨i,j,?_,j1,j2,j3,j4,fin i j ex⟩;rcases hds with ⟨rfl,rfl⟩ | rfl
 ·obtain⟨v,rfl,h5⟩:=hd.one;cases h5.bK;rfl
 ·obtain⟨v,w,rfl,h5,h6⟩:=hd.two;cases h5.bK;cases h6.bK;rfl
theorem JE:õ "set"=some (.type "set"):=by decide +kernel
end
end Q
namespace ST
open PySem PySem.W PyProof.Rows
def ent(L:List (Zi × Ì)):Array (Int × Å):=(L.map λe=>(hT e.1,ò e.2)).toArray
def lN(h:ø)(a:Ì)(L:List (Zi × Ì))(t:Rr):Prop:=∃ o ep,h.get? a=some o/\o.ExactSet/\o.data=.set (ent L) ep t
section
variable {P:â}{w:ó}{A:ö}{E:Å->É->Prop}{s:É}
theorem cq(L:List (Zi × Ì)):(ent L).size=L.length:=by unfold ent;simp
theorem CP{t:Rr}{f:Nat->Int}{L:List (Zi × Ì)}{h:Int}{p:Rr.Probe}(hf:∀ i,f i=((ent L)[i]?.map λx=>x.1).getD 0):t.probe f h p=t.probe (LP (L.map (·.1))) h p:=by
 congr 1
 funext i
 rw[hf];unfold LP ent;simp[Ø,Function.comp_def]
theorem va{a b:Ì}{ks:Zi}{L:List (Zi × Ì)}{t:Rr}{j:Nat}{Q:SetFound->É->Prop}(hS:lN s.heap a L t)(hf:t.fits L.length=true)(hg:t.gaveWay=false)(hp:t.probe (LP (L.map (·.1))) (hT ks) (t.probeStart (hT ks))=some (.empty j none))(q:Q (.free j false) s) :
  Ô (à P w) A (setSearch a (.ref b) (hT ks) true) Q E s:=by
 obtain⟨o,ep,ho,hx,hd⟩:=hS;unfold setSearch;refine À (RO ho hd (by rw[cq];exact hf) ?_)
 dsimp only;rw[if_neg (by rw[hg];exact Û)]
 rw[CP (L:=L)]
 ·show Ô _ _ (match t.probe (LP (L.map (·.1))) (hT ks) (t.probeStart (hT ks)) with | some met=>_ | x=>_) _ _ _
  rw[hp];exact Ê q
 ·exact λi=>rfl
theorem qQ(hb:∀ i t,body (.int i t) (none,())=pure (.yield (none,()))):∀ (l:Zj),(∀ v∈l,∃ i t,v=.int i t)->∀ {Q:Zs × Unit->É->Prop},Q (none,()) s->Ô (à P w) A (forIn l (none,()) body) Q E s
 |[],_,Q,q=>by rw[Uj];exact Ê q
 |v::r,h,Q,q=>by
  obtain⟨i,t,rfl⟩:=h v Ë;rw[SA,hb];exact À (Ê (qQ hb r (λu hu=>h u (È _ hu)) q))
theorem CQ(hk:Sl (RA P w) h ks b):∃ o ar n,h.get? b=some o/\o.cls=.type "tuple"/\o.data=.seq ar n/\∀ v∈ar.toList,∃ i t,v=.int i t:=by
 obtain⟨o,ar,n,h1,h2,h3,h4⟩:=hk;refine⟨o,ar,n,h1,h2,h3,?_⟩;generalize ar.toList=l at h4;clear h3
 induction h4 with
 |nil=>exact λv hv=>nomatch hv
 |cons e _ ih =>
  intro v hv;rcases ß.mp hv with rfl | hv
  ·cases v with
   |int i t=>exact⟨i,t,rfl⟩|_=>simp[RA,Tu] at e
  ·exact ih v hv
theorem JF(hk:Sl (RA P w) s.heap ks b)(q:Q true s):Ô (à P w) A (hashByValue 8 (.ref b)) Q E s:=by
 obtain⟨o,ar,n,h1,h2,h3,h4⟩:=CQ hk;unfold hashByValue;refine À (wpAny_specialOf (T:="tuple") ⟨o,h1,h2⟩ F.slot_tuple_hash.lookup ?_);refine À (RE h1 h3 ?_);refine À ?_;show Ô _ _ (forIn ar (none,()) _) _ _ _;rw[← Array.forIn_toList];exact qQ (λi t=>rfl) _ h4 (Ê q)
theorem FN(L:List (Zi × Ì))(p:Nat)(ks:Zi)(b:Ì):W7 (ent L) p (hT ks,ò b)=ent (fh L p (ks,b)):=by
 apply Vu.mp;unfold W7 ent fh;simp;exact R9 (by simp)
theorem oF(L:List (Zi × Ì))(p:Nat)(ks:Zi)(b:Ì):(fh L p (ks,b)).map (·.1)=fh (L.map (·.1)) p ks:=by
 unfold fh;simp[VC,VE]
theorem jG(l:List α)(p:Nat)(x:α):(fh l p x).length=l.length + 1:=by
 unfold fh;simp;omega
theorem CS(L:List (Zi × Ì)):(ent L).map (·.1)=((L.map (·.1)).map hT).toArray:=by
 unfold ent;rw[VY,Ó,Ó];rfl
theorem xv(f:α->β)(L:List α):∀ o:Zh,o.filterMap ((L.map f)[·]?)=(o.filterMap (L[·]?)).map f
 |[]=>rfl
 |i::r=>by
  rw[QC,QC,Ø,xv f L r];cases L[i]? <;> rfl
theorem JG(L:List (Zi × Ì))(o:Zq):o.filterMap ((ent L)[·]?)=ent (o.toList.filterMap (L[·]?)):=by
 apply Vu.mp;rw[Array.toList_filterMap];unfold ent;show o.toList.filterMap (λx=>(L.map λe=>(hT e.1,ò e.2)).toArray[x]?)=_;simp only[List.getElem?_toArray];exact xv _ L o.toList
theorem JH(hr:(Ve (RA P w)).room A)(hS:lN s.heap a L t)(hk:∀ e∈L,Sl (RA P w) s.heap e.1 e.2)(hb:Sl (RA P w) s.heap ks b)(ht:Ap t L.length=true)(hl:L.length<=100)(hadd:add (L.map (·.1),t) ks=some (K',t'))
 (h:∀ r h' L',Ul a s.heap h'->lN h' a L' t'->L'.map (·.1)=K'->Ap t' L'.length=true->L'.length<=L.length + 1->(∀ e∈L',e∈L\/e=(ks,b))->Q r { s with heap:=h' }):Ô (à P w) A (setAddHashed a (.ref b) (hT ks)) Q E s:=by
 have ht0:=ht;unfold Ap at ht;simp only[Á,î] at ht;obtain⟨⟨tp,tg⟩,tf⟩:=ht;have hS0:=hS;obtain⟨o,ep,ho,hx,hd⟩:=hS;unfold setAddHashed setAddHashedIn;refine Q9 (À (RO ho hd (by rw[cq];exact tf) ?_))
 dsimp only;rw[if_neg (by show ¬ (false&&_&&_)=true;simp)]
 refine À ?_;unfold add at hadd;dsimp only at hadd;split at hadd
 ·rename_i j hp;refine va hS0 tf tg hp ?_;dsimp only;refine À (RO ho hd (by rw[cq];exact tf) ?_)
  dsimp only;generalize t.put j=r at hadd ⊢;obtain⟨r1,p⟩:=r;dsimp only at hadd ⊢;split at hadd
  rotate_left
  ·cases hadd
  rename_i h1;have h1':=h1;unfold Ap at h1';simp only[Á,î] at h1';obtain⟨⟨rp,rg⟩,rf⟩:=h1';have hlen:(fh (L.map (·.1)) p ks).length=L.length + 1:=by rw[jG,Ä]
  rw[hlen] at rf h1;have get:∀ {h0:ø}{o:Obj}{es ep t} (es':Array (Int × Å)) (t':Rr),h0.get? a=some o->o.data=.set es ep t->(h0.update a (Yc es' t')).get? a=some { o with data:=.set es' (ep + 1) t' }:=λ{h0 o es ep t} es' t' e1 e2=>by
   have:=R3 (Yc es' t') e1 (by rw[putSet_of es' t' e2];rfl)
   rw[putSet_of es' t' e2] at this;exact this
  rw[if_pos rp];refine À (JF hb ?_);rw[if_pos rfl];rw[FN];have sz1:(ent (fh L p (ks,b))).size<=sizeLine:=by rw[cq,jG,Qy];omega
  have g1:=get (ent (fh L p (ks,b))) r1 ho hd;have sb1:=RC s.heap a (Yc (ent (fh L p (ks,b))) r1);have mem1:∀ e∈fh L p (ks,b),e∈L\/e=(ks,b):=λe he=>by
   unfold fh at he;rcases ë.mp he with he | he
   ·exact .inl (R1 he)
   ·rcases ß.mp he with he | he
    ·exact .inr he
    ·exact .inl (Ru he)
  refine À (wpAny_storeSet_of ho hd ?_ sz1);split at hadd
  ·rename_i hfull;rw[if_pos (by simpa using hfull)]
   obtain⟨⟨t2,ord⟩,hq,hadd⟩:=Ï.mp hadd;dsimp only at hadd;split at hadd
   rotate_left
   ·cases hadd
   rename_i hc;obtain⟨c1,c2,c3⟩:=hc;cases hadd;refine À ?_;unfold setRelay;refine À (RO g1 rfl (by rw[cq,jG];exact rf) ?_)
   dsimp only;rw[cq];rw[Ä] at c3 hq;rw[if_neg (by rw[Qy];omega)]
   rw[CS,oF,hq];refine À ?_;show Ô _ _ (if ((ord.filterMap ((ent (fh L p (ks,b)))[·]?)).size != (ent (fh L p (ks,b))).size)=true then _ else _) _ _ _;have e2:(ord.toList.filterMap ((fh L p (ks,b))[·]?)).map (·.1)=ord.toList.filterMap ((fh (L.map (·.1)) p ks)[·]?):=by
    rw[← oF L p ks b,xv]
   have c1':(ord.toList.filterMap ((fh L p (ks,b))[·]?)).length=L.length + 1:=by
    rw[← hlen,← c1,← e2,Ä]
   rw[JG,cq,cq,c1',jG,if_neg (by simp)]
   refine Ê (wpAny_storeSet_of g1 rfl ?_ (by rw[cq,c1',Qy];omega))
   refine Ê (h true _ (ord.toList.filterMap ((fh L p (ks,b))[·]?)) (sb1.trans (RC _ a _)) ⟨_,_,get _ _ g1 rfl,hx,rfl⟩ e2 (by rw[c1',← hlen,← c1];exact c2) (by rw[c1'];exact Ñ _) λe he=>?_)
   obtain⟨i,_,hi⟩:=RT.mp he;exact mem1 e (ð hi)
  ·rename_i hfull;cases hadd;rw[if_neg (by simpa using hfull)]
   exact Ê (h true _ (fh L p (ks,b)) sb1 ⟨_,ep + 1,g1,hx,rfl⟩ (oF L p ks b) (by rw[jG];exact h1) (by rw[jG];exact Ñ _) mem1)
 ·cases hadd
end
section
variable {P:â}{w:ó}{A:ö}
theorem lN.keep(x:lN h a L t)(k:∀ o,h.get? a=some o->h'.get? a=some o):lN h' a L t:=by
 obtain⟨o,ep,ho,r⟩:=x;exact⟨o,ep,k o ho,r⟩
theorem CT{R:Result->É->Prop}{I a S:Ì}{n:Nat}{Pv:Nat->Å->Prop}{St:Nat->ø->Prop}{vals:List (Zi × Ì)}{Kf:List Zi}{tf:Rr}{s0:É}(W:Walks P w A.in1 I [I,a] [I] n Pv St)(hr:(Ve (RA P w)).room A.in1)(hSI:S≠I)(hSa:S≠a)(hl:vals.length=n)(hz:n<=50)(hv:∀ (i:Nat) (e:Zi × Ì) (v:Å),vals[i]?=some e->Pv i v->v=ò e.2)(hne:∀ e∈vals,e.2≠I/\e.2≠S)
 (hk0:∀ e∈vals,Sl (RA P w) s0.heap e.1 e.2)
 (hR:∀ h' tk L,lN h' S L tf->L.map (·.1)=Kf->Ap tf L.length=true->(∀ e∈L,e∈vals)->(∀ b u,b≠I->b≠S->s0.heap.get? b=some u->h'.get? b=some u)->R (.ok (.ret .none)) { s0 with heap:=h',toks:=tk }) :
  ∀ (k i:Nat) (h:ø) (tk:Nat) (L:List (Zi × Ì)) (t:Rr),i + k=n->St i h->lN h S L t->Ap t L.length=true->L.length<=i->(∀ e∈L,e∈vals)->((vals.drop i).map (·.1)).foldlM add (L.map (·.1),t)=some (Kf,tf)->(∀ b u,b≠I->b≠S->s0.heap.get? b=some u->h.get? b=some u) ->
   TF (à P w) A (.builtin "set.update.loop" ⟨[.ref S,.ref I],[]⟩) R { s0 with heap:=h,toks:=tk }:=by
 intro k
 induction k with
 |zero =>
  intro i h tk L t hk st x ht hLi hLv hf kp;have hk:i=n:=hk;subst hk;refine QY Xr ?_;rw[QV Uu _];refine À (m:=TL (.ref I)) (W.done _ _ _ st λh1 tk1 k1=>?_);rw[← hl,UN] at hf;cases hf;exact Ê (hR h1 tk1 L (x.keep λo e=>k1 _ _ (by simpa using hSI) e) rfl ht hLv λb u z1 z2 e=>k1 b u (by simpa using z1) (kp b u z1 z2 e))
 |succ k ih =>
  intro i h tk L t hk st x ht hLi hLv hf kp;refine QY Xr ?_;rw[QV Uu _];have hi:i < vals.length:=∅
  refine À (m:=TL (.ref I)) (W.item i _ _ _ ∅ st λv h1 tk1 hv1 aY k1=>?_)
  have ev:=hv i _ v (Í hi) hv1;subst ev;have hm:=QD hi;have kall:∀ b u,b≠I->b≠S->s0.heap.get? b=some u->h1.get? b=some u:=λb u z1 z2 e=>k1 b u (by simpa using z1) (kp b u z1 z2 e)
  have key:∀ e∈vals,Sl (RA P w) h1 e.1 e.2:=λe he=>by
   obtain⟨o,it,n,g1,g2⟩:=hk0 e he;exact⟨o,it,n,kall _ _ (hne e he).1 (hne e he).2 g1,g2⟩
  rw[RJ hi,QS,Yt] at hf;obtain⟨⟨K',t'⟩,ha,hf⟩:=Ï.mp (show(add (L.map (·.1),t) vals[i].1).bind _=_ from hf);refine À (m:=WJ _ (setAdd S (.ref vals[i].2))) (Q9 ?_);unfold setAdd;refine Q9 (À ((Ve (RA P w)).pyHash hr (key _ hm) ?_));refine JH (s:={ s0 with heap:=h1,toks:=tk1 + (Ve (RA P w)).draws vals[i].1 }) hr (x.keep λo e=>k1 _ _ (by simpa using hSI) e) (λe he=>key e (hLv e he)) (key _ hm) ht ∅ ha λr h2 L' sb x2 eK ht' hl' mem=>?_
  have off:∀ c o,c≠S->h1.get? c=some o->h2.get? c=some o:=λc o hc e=>(sb.2 c hc).trans e;refine Ê ⟨S7 Uu _,ih (i + 1) h2 _ L' t' ∅ (W.frame _ h1 _ aY λc hc o e=>off c o (λz=>?_) e) x2 ht' ∅ (λe he=>?_) (by rw[eK];exact hf) λb u z1 z2 e=>off b u z2 (kall b u z1 z2 e)⟩
  ·subst z;rcases ß.mp hc with z | z
   ·exact hSI z
   ·exact hSa (by simpa using z)
  ·rcases mem e he with he | he
   ·exact hLv e he
   ·rw[he];exact hm
end
section
variable {P:â}{w:ó}{A:ö}{E:Å->É->Prop}{s:É}
set_option maxHeartbeats 3200000 in
theorem vb{T:String}{l:Ì}{o it:Obj}{n:Nat}{Pv:Nat->Å->Prop}{St:Ì->Nat->ø->Prop}{vals:List (Zi × Ì)}{Kf:List Zi}{tf:Rr}{Q:Å->É->Prop}(D:SS.ON P w T l o it n Pv St)(hr:∀ B:ö,B.units<=A.units + 10->(Ve (RA P w)).room B)(hh:A.handled=none)(ho:s.heap.get? l=some o)(hl:vals.length=n)(hz:n<=50)(hv:∀ (i:Nat) (e:Zi × Ì) (v:Å),vals[i]?=some e->Pv i v->v=ò e.2)(hk0:∀ e∈vals,Sl (RA P w) s.heap e.1 e.2)(hf:run (SS.led w) (vals.map (·.1))=some (Kf,tf))
 (h:∀ (h':ø) (tk:Nat) (L:List (Zi × Ì)),lN h' s.heap.objs.size L tf->L.map (·.1)=Kf->Ap tf L.length=true->(∀ e∈L,e∈vals)->(∀ b u,s.heap.get? b=some u->h'.get? b=some u)->Q (.ref s.heap.objs.size) { s with heap:=h',toks:=tk }):Ô (à P w) A (call (.type "set") [.ref l]) Q E s:=by
 obtain⟨c,tl,hmro⟩:=Sn.mro;have hmade:=Sn.made;have hsub:=Sn.sub;have h1:=Sn.notType;have h2:=Sn.canCreate;have hct:=F.typeCall_set_1 (.ref l);refine VJ (WH ?_);show Ô _ _ (callAny (.type "set") _) _ _ _;refine Ê ⟨XX _ (by decide +kernel),QY F.entry_type_call ?_⟩
 rw[Around.under_plain (weight_type_call_type "set" [.ref l] []) rfl]
 repeat (any_goals (first | assumption | wp_step))
 refine RP (SS.Fl (.ref l) (E:=E) (Q:=λv s1=>v=.ref s.heap.objs.size/\s1={ s with heap:=s.heap.push (SS.n9 w) }) ⟨rfl,rfl⟩) λr s1 hr=>?_;cases r with
 |error e=>exact hr
 |ok fl =>
  cases fl with
  |ret v =>
   obtain⟨rfl,rfl⟩:=hr;have hT:V9 { s with heap:=s.heap.push (SS.n9 w) } (.ref s.heap.objs.size) "set":=⟨_,Ò _ rfl,rfl⟩;have hli:=Sn.init.lookup;have hbi:=Sn.init.bind (.ref s.heap.objs.size);have lS:l < s.heap.objs.size:=á ho;have ho1:(s.heap.push (SS.n9 w)).get? l=some o:=Ã _ ho
   repeat (any_goals (first | assumption | wp_step))
   refine RP (codeAny_call_builtin (R:=wants (λr s2=>r=.none/\∃ h' tk L,s2={ s with heap:=h',toks:=tk }/\lN h' s.heap.objs.size L tf/\L.map (·.1)=Kf/\Ap tf L.length=true/\(∀ e∈L,e∈vals)/\∀ b u,s.heap.get? b=some u->h'.get? b=some u) E) Sn.init.plain F.entry_set_init (check_set_init_1 hT ?_)) λr2 s2 hr2=>?_
   ·have f1:=D.f1;have f2:=D.f2;have f3:=D.f3;obtain⟨ocls,odict,odata,oslots⟩:=o;have hc:ocls=.type T:=D.ty;subst hc;unfold Ss.«set.__init__» noKeywords YM;generalize hPI:pyIter=PI
    wp_walk
    subst hPI;refine D.iter _ _ _ _ ho1 ?_;refine À (U2 ?_);have hI:(s.heap.push (SS.n9 w)).objs.size=s.heap.objs.size + 1:=SD ..;have nI:l≠(s.heap.push (SS.n9 w)).objs.size:=by rw[hI];exact Ý (Ry lS)
    have nS:s.heap.objs.size ∉ [(s.heap.push (SS.n9 w)).objs.size,l]:=by
     rw[hI];simp only[ü,p9,or_false,not_or];exact⟨Ý (Sg _),R0 lS⟩
    have old:∀ b u,s.heap.get? b=some u->((s.heap.push (SS.n9 w)).push it).get? b=some u:=λb u e=>Ã _ (Ã _ e);have lw:∀ {b:Ì},b < s.heap.objs.size->b≠(s.heap.push (SS.n9 w)).objs.size/\b≠s.heap.objs.size:=λ{b} hb=>⟨by rw[hI];exact Ý (Ry hb),Ý hb⟩
    refine CT (s0:={ s with heap:=(s.heap.push (SS.n9 w)).push it }) (I:=(s.heap.push (SS.n9 w)).objs.size) (a:=l) (S:=s.heap.objs.size) (vals:=vals) (Kf:=Kf) (tf:=tf) (D.walk _ _ (by simp[hh]) nI) (hr _ (by show _<=A.units + 10;simp[ö.in1];try omega)) (by rw[hI];exact Ý (Sg _)) (R0 lS) hl hz hv (λe he=>by obtain⟨_,_,_,g1,_⟩:=hk0 e he;exact lw (á g1)) (λe he=>by obtain⟨o1,it1,n1,g1,g2⟩:=hk0 e he;exact⟨o1,it1,n1,old _ _ g1,g2⟩) (λh' tk L x1 x2 x3 x4 kp=>?_) n 0 _ _ [] (.fresh 0 0 (SS.led w)) (Wv _) (D.zero _ ho1) ⟨_,0,Ã _ (Ò _ rfl),⟨rfl,rfl,rfl⟩,rfl⟩ ?_ (Ñ _) (λe he=>nomatch he) hf λ_ _ _ _ e=>e
    ·refine Ê (Ê ⟨rfl,h',tk,L,rfl,x1,x2,x3,x4,λb u e=>?_⟩);exact kp b u (lw (á e)).1 (lw (á e)).2 (old b u e)
    ·cases SS.led w <;> decide
   ·cases r2 with
    |error e=>exact hr2
    |ok fl2 =>
     cases fl2 with
     |ret r =>
      obtain⟨rfl,h',tk,L,rfl,x1,x2,x3,x4,kp⟩:=hr2
      repeat (any_goals (first | assumption | wp_step))
      exact h _ _ L x1 x2 x3 x4 kp
     |_=>exact hr2.elim
  |_=>exact hr.elim
end
theorem CU:∀ {l m:List β},l.Perm m->∀ L:List α,m=L.map f->∃ L2:List α,L2.Perm L/\l=L2.map f:=by
 intro l m h
 induction h with
 |nil =>
  intro L e;cases L with
  |nil=>exact⟨[],.refl _,rfl⟩|cons _ _=>cases e
 |cons x _ ih =>
  intro L e;cases L with
  |nil=>cases e
  |cons y r =>
   cases e;obtain⟨L2,h1,rfl⟩:=ih r rfl;exact⟨y::L2,h1.cons y,rfl⟩
 |swap x y l =>
  intro L e;cases L with
  |nil=>cases e
  |cons a r =>
   cases r with
   |nil=>cases e
   |cons b r =>
    cases e;exact⟨b::a::r,.swap _ _ _,rfl⟩
 |trans _ _ ih1 ih2 =>
  intro L e;obtain⟨L2,h1,e2⟩:=ih2 L e;obtain⟨L3,h3,e3⟩:=ih1 L2 e2;exact⟨L3,h3.trans h1,e3⟩
section
variable {P:â}{w:ó}{A:ö}{E:Å->É->Prop}{s:É}
theorem oG:∀ {ks:Zi}{ar:Zj},ItemsAre (RA P w) ks ar->W8 h ar (Q.iw (ks.map L2.D.int)) []
 |[],_,.nil=>.nil
 |k::ks,v::_,.cons e t=>by
  have:∃ u,v=.int k u:=by
   cases v with
   |int i u =>
    have h:(i == k)=true:=by simpa [RA,Tu] using e
    exact⟨u,by rw[eq_of_beq h]⟩
   |_=>simp[RA,Tu] at e
  obtain⟨u,rfl⟩:=this;exact .cons (.int _ _) (oG t)
theorem oH:∀ ks:Zi,Q.bX (ks.map L2.D.int)=true
 |[]=>rfl|_::r=>oH r
theorem qR:∀ L:List (Zi × Ì),(∀ e∈L,Sl (RA P w) h e.1 e.2)->Q.bx h (L.map λe=>ò e.2) (L.map λe=>tD e.1)
 |[],_=>⟨rfl,[],.nil⟩
 |e::r,k=>by
  obtain⟨o,ar,n,h1,h2,h3,h4⟩:=k e Ë;obtain⟨g1,as,g2⟩:=qR r λx hx=>k x (È _ hx);refine⟨?_,_,.cons (.tuple h1 h2 h3 (oG h4)) g2⟩;show(Q.bX (e.1.map L2.D.int)&&Q.bX (r.map λe=>tD e.1))=true;rw[g1,oH];rfl
end
open PySem PySem.W PyProof.Rows MySort
theorem FO{led:Bool}{ks:List Zi}(h:Ep led ks=true):∃ s,run led ks=some s/\(∀ x∈ks,x∈s.1)/\(∀ x∈s.1,x∈ks)/\s.1.Nodup/\s.2.led=led/\∀ i,i<=s.1.length->S1 s.2.place (SS.my s.2 i)=i:=by
 unfold Ep at h;cases e:run led ks with
 |none=>rw[e] at h;cases h
 |some s =>
  rw[e] at h;have h:Ca led ks s=true:=h;unfold Ca at h;simp only[Á,Rp,decide_eq_true_eq,beq_iff_eq,Qu,UW] at h;obtain⟨⟨⟨⟨h1,h2⟩,h3⟩,h4⟩,h5⟩:=h;exact⟨s,rfl,h1,h2,h3,h4,λi hi=>h5 i ∅⟩
theorem Mw(hl:t.led=SS.led w)(hb:∀ i,i<=L.length->S1 t.place (SS.my t i)=i)(ht:Ap t L.length=true)(hs:L.length<=50):SS.se w t (ent L):=by
 unfold Ap at ht;simp only[Á,î] at ht;exact⟨by rw[cq];exact ht.2,ht.1.1,hl,by rw[cq];exact hb,by rw[cq];omega⟩
section
variable {P:â}{w:ó}{A:ö}{E:Å->É->Prop}{s:É}{S ep:Nat}{L:List (Zi × Ì)}{t:Rr}{o:Obj}
theorem xw{R:Å->É->Prop}(hh:A.handled=none)(hu:A.units + 64 < Rz)(hG:SS.se w t (ent L))(hl:L.length<=50)(hk:∀ e∈L,Sl (RA P w) s.heap e.1 e.2)(aV:Q.cF (L.map λe=>tD e.1)=true)(ho:s.heap.get? S=some o)(hx:o.ExactSet)(hd:o.data=.set (ent L) ep t)
  (h:∀ lA h' tk c (L3:List (Zi × Ì)),L3.Perm L->(L3.map λe=>tD e.1)=Q.a7 (L.map λe=>tD e.1)->s.heap.objs.size<=lA->(∀ b u,s.heap.get? b=some u->h'.get? b=some u)->h'.get? lA=some (QW "list" (L3.map λe=>ò e.2).toArray c)->R (.ref lA) { s with heap:=h',toks:=tk }):Ô (à P w) A (call (.builtin "sorted") [.ref S]) R E s:=by
 obtain⟨L2,hp2,e2⟩:∃ L2:List (Zi × Ì),L2.Perm L/\(SS.ord w S ep (ent L)).toList.map (·.2)=L2.map λe=>ò e.2:=by
  have:=(SS.uI w S ep (ent L)).map (·.2);refine CU this L ?_;unfold ent;rw[Ó];rfl
 have hpD:(L2.map λe=>tD e.1).Perm (L.map λe=>tD e.1):=hp2.map _;have hok1:∀ x∈L2.map (λe=>tD e.1),∀ y∈L2.map (λe=>tD e.1),Q.jd x < 3/\Q.mW x=true/\Q.cz x y=true:=λx hx y hy=>by
  have h1:=Õ.mp aV x (hpD.mem_iff.mp hx);simp only[Á,decide_eq_true_eq] at h1;exact⟨h1.1,h1.2.1,Õ.mp h1.2.2 y (hpD.mem_iff.mp hy)⟩
 have inj:∀ x∈L2.map (λe=>tD e.1),∀ y∈L2.map (λe=>tD e.1),Q.d6 x=Q.d6 y->x=y:=λx hx y hy e=>by
  have:=(hok1 x hx y hy).2.2;unfold Q.cz at this;simp only[Á,QL,î] at this;rcases this.2.2 with h | h
  ·exact Q.sx _ _ h
  ·rw[e] at h;simp at h
 obtain⟨k,k3,kk⟩:∃ k,k < 3/\∀ x∈L2.map (λe=>tD e.1),Q.jd x=k:=by
  cases hL:L2.map (λe=>tD e.1) with
  |nil=>exact⟨0,-0,λx hx=>nomatch hx⟩
  |cons d r =>
   have hm:d∈L2.map (λe=>tD e.1):=by rw[hL];exact Ë
   refine⟨Q.jd d,(hok1 d hm d hm).1,λx hx=>?_⟩;have:=(hok1 d hm x (by rw[hL];exact hx)).2.2
   unfold Q.cz at this;simp only[Á,beq_iff_eq] at this;exact this.1
 have len2:L2.length<=50:=by rw[hp2.length_eq];exact hl
 refine Wh kind_sorted plain_sorted entry_sorted (args_sorted1 _) ?_;unfold Ss.«sorted»;refine À (m:=checkCount "sorted" 1 1 _) (Ê ?_);refine À (SS.uK (by simp[hh]) hG ho hx hd λh1 tk lS kp1=>?_)
 rw[e2];refine À (Vy ?_ (by show(L2.map _).length<=_;rw[Ä,Qy];omega))
 have hoL:(h1.push (QW "list" (L2.map λe=>ò e.2).toArray 0)).get? h1.objs.size=some (QW "list" (L2.map λe=>ò e.2).toArray 0):=Ò _ rfl;have kw:∀ h',qJ (h1.push (QW "list" (L2.map λe=>ò e.2).toArray 0)) h'->wY P w A.in1.in1 { s with heap:=h',toks:=tk } (L2.map λe=>ò e.2) (sortedBy ((L2.map λe=>tD e.1).map Q.d6)) (Q.kdOf k):=λh' kp=>by
  letI:Q.Tb:=⟨[]⟩
  refine Q.CB (by rw[Ä];omega) (qR (P:=P) (w:=w) L2 λe he=>?_) (by show A.units + 1 + 1 + 40 < Rz;omega) k3 kk (λd hd=>(hok1 d hd d hd).2.1) λd hd e he=>(hok1 d hd e he).2.2
  obtain⟨o,ar,n,g1,g2,g3⟩:=hk e (hp2.mem_iff.mp he);exact⟨o,ar,n,kp _ _ (Ã _ (kp1 _ _ g1)) g2,g2,g3⟩
 refine À (Q9 (QG slot_list_sort ⟨_,hoL,rfl⟩ entry_list_sort (uy hoL kw λp h' c hp kp hD=>⟨_,rfl,Ê ⟨_,rfl,?_⟩⟩) (args_list_sort _)));have hlt:∀ i∈p,i < L2.length:=λi hi=>by
  have:=hp.1.mem_iff.mp hi;simpa using this
 have e3:(p.map λi=>(L2.map λe=>ò e.2).getD i è)=(p.map λi=>L2.getD i ([],0)).map λe=>ò e.2:=by
  rw[Ó];refine QB λi hi=>?_;have:=hlt i hi;simp[Æ,this]
 have e4:((p.map λi=>L2.getD i ([],0)).map λe=>tD e.1)=Q.a7 (L.map λe=>tD e.1):=by
  letI:Q.Tb:=⟨[]⟩
  have h1:=Q.yI inj hp;rw[Ó];have h2:Q.a7 (L2.map λe=>tD e.1)=Q.a7 (L.map λe=>tD e.1):=
   (Q.uY ((Q.bF _).trans hpD.symm) (Q.gS _) inj)
  rw[← h2,← h1];refine QB λi hi=>?_;have:=hlt i hi;simp[Æ,this]
 have e5:(p.map λi=>L2.getD i ([],0)).Perm L:=by
  have h1:=hp.1.map λi=>L2.getD i ([],0);rw[Ä,Ä] at h1;rw[MySort.range_getD] at h1;exact h1.trans hp2
 rw[e3] at hD;exact h _ h' tk c _ e5 e4 (Rj lS) (λb u e=>kp b u (Ý (á (kp1 b u e))) (Ã _ (kp1 b u e))) hD
end
end ST
namespace L2
open PySem PySem.Spec PyProof.Rows
theorem items_int{P:â}{w:ó}:∀ {ks:Zi}{ar:Zj},Vals (ks.map V.int) ar->ItemsAre (RA P w) ks ar
 |[],_,h=>by cases h;exact .nil
 |k::ks,_,h=>by
  cases h with
  |cons r t =>
   obtain⟨u,rfl⟩:=r;exact .cons (by show Tu k (.int k u)=true;simp[Tu]) (items_int t)
section
variable {X:Cx}{aa:List (Ì × Obj)}{σ:St}{H:Hp}{s:É}
theorem key_is(I:Inv X aa σ H s){b:Ì}{ks:Zi}(h:dU X.K H b (ks.map V.int)):Sl (RA X.prog X.w) s.heap ks b:=by
 obtain⟨ar,rv,⟨o,e,c,n,d⟩,_⟩:=I.tuple h;exact⟨o,ar.toArray,n,e,c,d,items_int rv⟩
end
end L2
namespace Q
open PySem L2 PySem.Spec PyProof.Rows
variable [TB:Tb]
def yN(p:Nat)(L:List (Zi × Ì))(t:Rr):ø->Prop:=λh=>ST.lN h p L t
structure CV(K:PySem.W.Frag)(w:World)(H:Hp)(ks:List (List Int))(L:List (List Int × Addr))(t:SetTable):Prop where
 g:SS.se w t (ST.ent L)
 few:L.length<=50
 at_:∀ e∈L,dU K H e.2 (e.1.map V.int)
 mem:∀ x,x∈L.map (·.1)↔x∈ks
 nodup:(L.map (·.1)).Nodup
def CV.same{K:Â}{w:ó}{H H':Hp}{ks:List Zi}{L:List (Zi × Ì)}{t:Rr}(x:CV K w H ks L t)(e:af H H'):CV K w H' ks L t:=⟨x.g,x.few,λy hy=>e.jV (x.at_ y hy),x.mem,x.nodup⟩
def CW(K:Â)(H:Hp)(P:Zi->Ì->Prop)(xs:List V)(ks:List Zi):Prop:=Rx (λx k=>∃ b,x=V.ref b/\dU K H b (k.map V.int)/\P k b) xs ks
theorem qS{K:Â}{H:Hp}{P:Zi->Ì->Prop}:∀ {us:List V}{ks:List Zi},CW K H P us ks->∃ vals:List (Zi × Ì),vals.map (·.1)=ks/\us=vals.map (λe=>V.ref e.2)/\∀ e∈vals,dU K H e.2 (e.1.map V.int)/\P e.1 e.2
 |_,_,.nil=>⟨[],rfl,rfl,λe he=>nomatch he⟩
 |_,_,.cons (b:=k) h r=>by
  obtain⟨b,rfl,hb⟩:=h;obtain⟨vals,h1,h2,h3⟩:=qS r;refine⟨(k,b)::vals,by rw[QS,h1],by rw[QS,h2],λe he=>?_⟩
  rcases ß.mp he with rfl | he
  ·exact hb
  ·exact h3 e he
theorem lO:∀ {vals:List (Zi × Ì)}{ar:Zj},Vals (vals.map λe=>V.ref e.2) ar->ar=vals.map λe=>ò e.2
 |[],_,.nil=>rfl
 |e::r,_,.cons h t=>by
  cases h;rw[QS,← lO t]
theorem qT:∀ vals:List (Zi × Ì),Vals (vals.map λe=>V.ref e.2) (vals.map λe=>ò e.2)
 |[]=>.nil|e::r=>.cons rfl (qT r)
section
variable {lm:Bool}{X:Cx}{G:Gs}{E:XK}{N:Zk}{sc:tv}
theorem AF(hc:X.calm=true)(hu:X.A.units + 64 < Rz):bZ X (.type "set") (λxs H Q=>∃ (a:Ì) (ks:List Zi) (us:List V) (P:Zi->Ì->Prop),xs=[.ref a]/\(jP X.K H a us\/dU X.K H a us)/\CW X.K H P us ks/\ks.length<=8/\(ST.Ep true ks&&ST.Ep false ks)=true/\∀ p L t,H p=none->CV X.K X.w H ks L t->(∀ e∈L,P e.1 e.2)->Q (.ref p) (upd H p (.ext (yN p L t)))):=by
 intro aa s σ H xs us Q I r h;obtain⟨a,ks,vs,P,rfl,hq,pk,h6,hb,q⟩:=h;obtain⟨u,rfl,rx⟩:=vals1 r;cases rx;obtain⟨vals,hv1,rfl,hv3⟩:=qS pk;have hlen:vals.length=ks.length:=by rw[← hv1,Ä]
 rw[Á] at hb;obtain⟨⟨Kf,tf⟩,hrun,m1,m2,nd,ld,bl⟩:=ST.FO (led:=SS.led X.w) (ks:=ks) (by cases SS.led X.w;exact hb.2;exact hb.1)
 have fin:∀ (h':ø) (tk:Nat) (L:List (Zi × Ì)),ST.lN h' s.heap.objs.size L tf->L.map (·.1)=Kf->ST.Ap tf L.length=true->(∀ e∈L,e∈vals)->(∀ b u,s.heap.get? b=some u->h'.get? b=some u)->EP X aa σ Q (.ref s.heap.objs.size) { s with heap:=h',toks:=tk }:=by
  intro h' tk L hS hK ht hL kp;have hS':=hS;obtain⟨oS,ep,hoS,_⟩:=hS';have hl50:L.length<=50:=by
   have h1:(L.map (·.1)).length<=ks.length:=UT (hK ▸ nd) λx hx=>m2 x (hK ▸ hx);rw[Ä] at h1;omega
  refine⟨.ref s.heap.objs.size,_,I.laid (t':=tk) (o:=.ext (yN s.heap.objs.size L tf)) kp (Ñ _) ⟨hS,⟨oS,hoS⟩,λh1 h2 p k=>ST.lN.keep p k⟩,rfl,q _ _ _ (I.aV.fresh (Ñ _)) ⟨ST.Mw ld (λi hi=>bl i (by show i<=Kf.length;rw[← hK,Ä];exact hi)) ht hl50,hl50,λe he=>(hv3 e (hL e he)).1,λx=>?_,hK ▸ nd⟩ λe he=>(hv3 e (hL e he)).2⟩
  rw[hK];exact⟨m2 x,m1 x⟩
 have pv:∀ (i:Nat) (e:Zi × Ì) (v:Å),vals[i]?=some e->(vals.map λe=>ò e.2).toArray[i]?=some v->v=ò e.2:=λi e v h1 h2=>by
  simp[h1] at h2;exact h2.symm
 rcases hq with hq | hq
 ·obtain⟨ar,rv,pl,_⟩:=I.list hq;obtain⟨o,ho,hcl,n,hd⟩:=pl.isList;obtain rfl:=lO rv;exact ST.vb (T:="list") (o:=o) (it:={ cls:=.type "list_iterator",data:=.fields #[.ref a,.int 0 0] }) (n:=(vals.map λe=>ò e.2).toArray.size) (St:=λI i h=>h.IsListIter I a i/\h.IsList a (vals.map λe=>ò e.2).toArray) (Pv:=λi v=>(vals.map λe=>ò e.2).toArray[i]?=some v) (vals:=vals) (Kf:=Kf) (tf:=tf)
   ⟨hcl,F.sub_list_set,F.sub_list_frozenset,-0,λA E s Q e q=>VU ⟨o,e,hcl,n,hd⟩ q,λA I hh hn=>Walks.list hh I a hn _,λh e=>⟨⟨_,Ò _ rfl,rfl,rfl⟩,⟨o,Ã _ e,hcl,n,hd⟩⟩⟩ (λB hB=>by show B.units < Rz;omega) (I.ok.hd hc) ho (by simp) (by simp;omega) pv (λe he=>key_is I (hv3 e he).1) (by rw[hv1];exact hrun) fin
 ·obtain⟨ar,rv,pl,_⟩:=I.tuple hq;obtain⟨o,ho,hcl,n,hd⟩:=pl;obtain rfl:=lO rv;exact ST.vb (T:="tuple") (o:=o) (it:={ cls:=.type "tuple_iterator",data:=.fields #[.ref a,.int 0 0] }) (n:=(vals.map λe=>ò e.2).toArray.size) (St:=λI i h=>h.IsTupleIter I a i/\h.IsTuple a (vals.map λe=>ò e.2).toArray) (Pv:=λi v=>(vals.map λe=>ò e.2).toArray[i]?=some v) (vals:=vals) (Kf:=Kf) (tf:=tf)
   ⟨hcl,by rw[TU];kernel_rfl,by rw[TU];kernel_rfl,-0,λA E s Q e q=>R4 ⟨o,e,hcl,n,hd⟩ q,λA I hh hn=>Walks.tuple hh I a hn _,λh e=>⟨⟨_,Ò _ rfl,rfl,rfl⟩,⟨o,Ã _ e,hcl,n,hd⟩⟩⟩ (λB hB=>by show B.units < Rz;omega) (I.ok.hd hc) ho (by simp) (by simp;omega) pv (λe he=>key_is I (hv3 e he).1) (by rw[hv1];exact hrun) fin
theorem sG(hc:X.calm=true)(hu:X.A.units + 64 < Rz):bZ X (.builtin "sorted") (λxs H Q=>∃ (p:Ì) (ks:List Zi) (L:List (Zi × Ì)) (t:Rr),xs=[.ref p]/\H p=some (.ext (yN p L t))/\CV X.K X.w H ks L t/\cF (L.map λe=>ST.tD e.1)=true/\∀ l (L3:List (Zi × Ì)),H l=none->L3.Perm L->(L3.map λe=>ST.tD e.1)=a7 (L.map λe=>ST.tD e.1)->Q (.ref l) (upd H l (.lst (L3.map λe=>V.ref e.2)))):=by
 intro aa s σ H xs us Q I r h;obtain⟨p,ks,L,t,rfl,hp,k,aV,q⟩:=h;obtain⟨u,rfl,rx⟩:=vals1 r;cases rx;obtain⟨⟨o,ep,ho,hx,hd⟩,_⟩:=I.aV p _ hp;refine ST.xw (by exact I.ok.hd hc) hu k.g k.few (λe he=>key_is I (k.at_ e he)) aV ho hx hd λl h' tk c L3 hp3 e3 hl kp hD=>?_
 refine⟨.ref l,_,I.laid (t':=tk) (o:=.lst (L3.map λe=>V.ref e.2)) kp hl ⟨?_,_,c,qT L3,hD⟩,rfl,q _ L3 (I.aV.fresh hl) hp3 e3⟩;rw[Ä,hp3.length_eq,Qy];have:=k.few;omega
theorem CY:∀ {l:List D}{ks:List Zi},Ce l=some ks->l=ks.map ST.tD
 |[],_,h=>by cases h;rfl
 |x::r,ks,h=>by
  cases x with
  |tup m =>
   obtain⟨k,h1,h⟩:=Ï.mp h;obtain⟨q,h2,rfl⟩:=Ð.mp h;rw[QS,← CY h2];have:∀ {m:List D}{k:Zi},jY m=some k->m=k.map D.int:=by
    intro m
    induction m with
    |nil=>intro k h;cases h;rfl
    |cons y q ih =>
     intro k h;cases y with
     |int i =>
      obtain⟨k2,h3,rfl⟩:=Ð.mp h;rw[QS,← ih h3]
     |_=>cases h
   rw[this h1]
  |_=>cases h
theorem vc{K:Â}{H:Hp}:∀ {ns:Zi}{us:List V},aK K H (ns.map D.int) us->us=ns.map V.int
 |[],_,h=>h.bN
 |n::r,_,h=>by
  obtain⟨y,q,rfl,h1,h2⟩:=aK.aN h;rw[h1.bK,vc h2];rfl
theorem yO{K:Â}{H H1:Hp}(sm:af H H1):∀ {ks:List Zi}{us:List V},aK K H (ks.map ST.tD) us->CW K H1 (λk b=>dU K H b (k.map V.int)) us ks
 |[],_,h=>by rw[h.bN];exact .nil
 |k::r,_,h=>by
  obtain⟨y,q,rfl,h1,h2⟩:=aK.aN h;obtain⟨a,xs,rfl,m1,m2⟩:=h1.fE;obtain rfl:=vc m2;exact .cons ⟨a,rfl,sm.jV m1,m1⟩ (yO sm h2)
theorem yP{K:Â}{H:Hp}:∀ {L:List (Zi × Ì)},(∀ e∈L,dU K H e.2 (e.1.map V.int))->aK K H (L.map λe=>ST.tD e.1) (L.map λe=>V.ref e.2)
 |[],_=>.nil|e::r,h=>.cons (.tup (h e Ë) (aK.ints _)) (yP λx hx=>h x (È _ hx))
theorem nu:∀ {l:List Zi},x∈ub l↔x∈l
 |[]=>.rfl
 |y::r=>by
  unfold ub;by_cases h:r.contains y=true
  ·rw[if_pos h,nu,ü];refine⟨.inr,λh1=>?_⟩;rcases h1 with rfl | h1
   ·exact Qu.mp h
   ·exact h1
  ·rw[if_neg h,ü,ü,nu]
theorem lQ:∀ l:List Zi,(ub l).Nodup
 |[]=>.nil
 |y::r=>by
  unfold ub;by_cases h:r.contains y=true
  ·rw[if_pos h];exact lQ r
  ·rw[if_neg h];exact Q7.mpr ⟨λh1=>h (Qu.mpr (nu.mp h1)),lQ r⟩
theorem FP(x:XI lm X G E N sc){as:Ex}{e:Ù}{p1 p2 p3 p4:Pos}(h1:glob sc "sorted"=true)(h2:glob sc "set"=true)(hL:bV as=true)(g:Good X G E as [e]):aw X G E (.bf .sset as) (.Call (.Name "sorted" p1) [.Call (.Name "set" p2) [e] [] p3] [] p4):=by
 obtain⟨k1,k2,k3⟩:=bS h1;obtain⟨j1,j2,j3⟩:=bS h2;obtain⟨ha,hs⟩:=g.args hL;rw[Rh,Á] at hs;refine aF (PE.imp (nM (sG x.calm x.room.units) (x.glb _ k1) (x.blt _ 1e1) qP (hZ (qC (AF x.calm x.room.units) (x.glb _ j1) (x.blt _ 1e1) JE ha j3 j2 (bz hs.1 [] X.env) (gW X.env p3 hs.2)) lE) k3 k2) λσ H Q q=>?_) rfl
 obtain⟨zA,ρ,z,rr,rel,st,ee,po⟩:=q;refine oB rel st ee (b9 po) λl z1 e1 vs H1 x1 aY rvs=>?_;obtain⟨ds,hd,e2⟩:=M.ag e1;obtain⟨s,hs',e3⟩:=M.ag e2;cases e3;have hds:=j7 rvs hd
 match ds,hs' with
 |[d],hs' =>
  obtain⟨l,hl,hs'⟩:=Ï.mp hs';obtain⟨ms,hn,rfl⟩:=Ð.mp hs';obtain⟨v,rfl,hv⟩:=hds.one;obtain⟨ks,hk,hn⟩:=Ï.mp (show Fo _=some ms from hn);obtain⟨⟨c6,cb,co⟩,hn⟩:=cL hn;cases hn;obtain rfl:=CY hk;obtain⟨a,us,rfl,hq,m2⟩:∃ a us,v=.ref a/\(jP X.K H1 a us\/dU X.K H1 a us)/\aK X.K (hz zA H1) (ks.map ST.tD) us:=by
   cases d with
   |tup m =>
    cases hl;obtain⟨a,xs,rfl,m1,m2⟩:=hv.fE;exact⟨a,xs,rfl,.inr ((ah zA H1).jV m1),m2⟩
   |lst m =>
    cases hl;obtain⟨a,xs,rfl,m1,m2⟩:=hv.kM;exact⟨a,xs,rfl,.inl (m1.same (ah zA H1)).sq,m2⟩
   |_=>cases hl
  refine⟨a,ks,us,_,rfl,hq,yO (ah zA H1) m2,c6,cb,λp L t hp k hP=>?_⟩;have sm:af H1 (upd H1 p (.ext (yN p L t))):=af.new _ hp;have pm:(L.map (·.1)).Perm (ub ks):=(RB k.nodup (lQ ks)).mpr λy=>by rw[k.mem,nu]
  have pmD:(L.map λe=>ST.tD e.1).Perm ((ub ks).map ST.tD):=by
   have:=pm.map ST.tD;rw[Ó] at this;exact this
  have ok:cF (L.map λe=>ST.tD e.1)=true:=by
   unfold cF at co ⊢;refine Õ.mpr λd hd=>?_;have:=Õ.mp co d (pmD.mem_iff.mp hd);simp only[Á] at this ⊢;exact⟨this.1,this.2.1,Õ.mpr λy hy=>Õ.mp this.2.2 y (pmD.mem_iff.mp hy)⟩
  refine⟨p,ks,L,t,rfl,aO,k.same sm,ok,λl L3 hl p3 e3=>?_⟩;have inj:∀ y∈(ub ks).map ST.tD,∀ y'∈(ub ks).map ST.tD,d6 y=d6 y'->y=y':=λy hy y' hy' e=>by
   have h1:=Õ.mp co y hy;simp only[Á] at h1;have h2:=Õ.mp h1.2.2 y' hy';unfold cz at h2;simp only[Á,QL,î] at h2;rcases h2.2.2 with h | h
   ·exact sx _ _ h
   ·rw[e] at h;simp at h
  have ek:a7 ((ub ks).map ST.tD)=L3.map λe=>ST.tD e.1:=by
   rw[e3];exact uY ((bF _).trans pmD) (gS _) inj
  rw[ek] at po;refine cB po x1 aY _ _ (af.trans sm (af.new _ hl)) ((ir (aY.same sm) (yP λe he=>?_) hl).from (Ext.of sm));exact(dG sm).jV (hP e (p3.mem_iff.mp he))
end
end Q
namespace ST
open PySem
def mF:Nat->Zh->List Zi->Prop
 |_,_,[]=>True|a,js,x::r=>(x=[0,(a:Int)]/\a < 4/\mF (a + 1) js r)\/∃ j∈js,x=[1,(j:Int)]/\mF a (js.erase j) r
abbrev Nd:=(Nat × Zh) × St
def okN(led:Bool)(n:Nd):Bool:=decide n.2.1.Nodup&&n.2.2.led == led&&(Ö (n.2.1.length + 1)).all λi=>S1 n.2.2.place (SS.my n.2.2 i) == i
def Mx(n:Nd):List (Option Nd):=(if n.1.1 < 4 then [(add n.2 [0,(n.1.1:Int)]).map λt=>((n.1.1 + 1,n.1.2),t)] else [])++n.1.2.map λ(j:Nat)=>(add n.2 [1,(j:Int)]).map λt=>((n.1.1,n.1.2.erase j),t)
abbrev JI(i:Nat):Zi:=if i < 4 then [0,(i:Int)] else [1,((i - 4:Nat):Int)]
def enc(n:Nd):Nat:=(Ö 8).foldr (λi c=>c * 64 + if n.2.1.contains (JI i) then n.2.2.place.getD (n.2.1.idxOf (JI i)) 0 + 1 else 0) 0
def dec(led:Bool)(c:Nat):Nd:=
 let l:=(range 32).flatMap λs=>((range 8).filter λi=>c / 64 ^ i % 64 == s + 1).map λi=>(i,s)
 ((((range 4).filter λi=>!(c / 64 ^ i % 64 == 0)).length,(range 4).filter λj=>c / 64 ^ (4 + j) % 64 == 0),(l.map λp=>JI p.1,{ mask:=if l.length < 5 then 7 else 31,place:=(l.map (·.2)).toArray,dummies:=#[],finger:=0,led,moves:=if l.length < 5 then 0 else 1,plain:=true }))
def NK(n m:Nd):Bool:=decide (n.1=m.1)&&(decide (n.2.1=m.2.1)&&(n.2.2.mask == m.2.2.mask&&(decide (n.2.2.place.toList=m.2.2.place.toList)&&(decide (n.2.2.dummies.toList=m.2.2.dummies.toList)&&(n.2.2.finger == m.2.2.finger&&(n.2.2.led == m.2.2.led&&(n.2.2.moves == m.2.2.moves&&n.2.2.plain == m.2.2.plain)))))))
theorem CZ(h:NK n m=true):n=m:=by
 obtain⟨a,k,t1,⟨t2⟩,⟨t3⟩,t4,t5,t6,t7⟩:=n;obtain⟨b,l,u1,⟨u2⟩,⟨u3⟩,u4,u5,u6,u7⟩:=m;unfold NK at h;simp only[Á,decide_eq_true_eq,beq_iff_eq] at h;obtain⟨rfl,rfl,rfl,rfl,rfl,rfl,rfl,rfl,rfl⟩:=h;rfl
def codes:Zh:=[0,8,72,12360,1060936,16777216,16777224,16777352,16789640,33554504,33566792,422654024,3221225472,3221225480,3221225544,3221233736,3238002688,3238002696,3238002824,3254779976,5368721480,11814383688,12230668360,12233814088,274877906944,274877906952,274877907016,274877919304,274881130568,274894684160,274894684168,274894684296,274911461448,275297415240,275300560968,278099132416,278099132424,278099132488,278115909632,278115909640,286689144904,286692290632,287108497480,287108575304,287111721032,21990232555520,21990232555528,21990232555592,21990232567880,21990249332736,21990249332744,21990249332872,21990266110024,21993453780992,21993453781000,21993453781064,21993470558208,21993470558216,22265110462464,22265110462472,22265110462536,22265127239680,22265127239688,22268331687936,22268331687944,22268348465152,127543352045640,127543768330312,127543771476040,127555160059976,127555163205704,127555579412552,127555579490376,127555582636104,127818226806856,127818229952584,127818646159432,127818646237256,127818649382984,127830037889096,127830037966920,127830041112648,127830457319432,127830457319496,127830457397320,127830460543048]
def stepOk(led:Bool)(c:Nat):Bool:=okN led (dec led c)&&(Mx (dec led c)).all λo=>match o with
 |some n=>NK n (dec led (enc n))&&codes.contains (enc n)|none=>false
theorem JJ:([true,false].all λled=>codes.all (stepOk led))=true:=by decide +kernel
theorem O6(led:Bool):dec led 0=((0,[0,1,2,3]),s0 led):=by cases led <;> exact CZ (by decide +kernel)
theorem FQ(h:add s x=some t)(nd:t.1.Nodup)(y:Zi):y∈t.1↔y∈s.1\/y=x:=by
 have ins:∀ p,y∈fh s.1 p x↔y∈s.1\/y=x:=λp=>by
  unfold fh;rw[Uz,ü];constructor
  ·rintro (h | h | h)
   ·exact .inl (R1 h)
   ·exact .inr h
   ·exact .inl (Ru h)
  ·rintro (h | h)
   ·rw[← Xb p s.1,Uz] at h;rcases h with h | h
    ·exact .inl h
    ·exact .inr (.inr h)
   ·exact .inr (.inl h)
 unfold add at h;dsimp only at h;split at h
 ·rename_i j hp;split at h
  rotate_left
  ·cases h
  split at h
  ·obtain⟨q,_,h⟩:=Ï.mp h;split at h
   rotate_left
   ·cases h
   rename_i hc;cases h;refine YK ⟨λhz=>?_,λhy=>?_⟩ (ins (s.2.put j).2)
   ·obtain⟨i,_,e⟩:=RT.mp hz;exact ð e
   ·refine Decidable.byContradiction λhn=>?_;have:=UT (Q7.mpr ⟨hn,nd⟩) (l₂:=fh s.1 (s.2.put j).2 x) λz hz=>?_
    ·rw[Ü] at this;have h1:=hc.1;dsimp only at this;omega
    ·rcases ß.mp hz with rfl | hz
     ·exact hy
     ·obtain⟨i,_,e⟩:=RT.mp hz;exact ð e
  ·cases h;exact ins _
 ·cases h
theorem yQ{led:Bool}:∀ (ks:List Zi) (c:Nat),c∈codes->mF (dec led c).1.1 (dec led c).1.2 ks->∃ (q:Nat × Zh) (t:St),ks.foldlM add (dec led c).2=some t/\okN led (q,t)=true/\∀ y,y∈t.1↔y∈(dec led c).2.1\/y∈ks
 |[],c,hn,_=>by
  have h:=Õ.mp (Õ.mp JJ led (by cases led <;> simp)) c hn
  unfold stepOk at h;rw[Á] at h;exact⟨(dec led c).1,(dec led c).2,rfl,h.1,λy=>by simp⟩
 |x::r,c,hn,hx=>by
  have h:=Õ.mp (Õ.mp JJ led (by cases led <;> simp)) c hn
  unfold stepOk at h;rw[Á] at h;have go:∀ (q:Nat × Zh) (o:Option Nd),o∈Mx (dec led c)->o=(add (dec led c).2 x).map (λt=>(q,t))->mF q.1 q.2 r->∃ (q:Nat × Zh) (t:St),(x::r).foldlM add (dec led c).2=some t/\okN led (q,t)=true/\∀ y,y∈t.1↔y∈(dec led c).2.1\/y∈x::r:=λq o ho eo hr=>by
   have h1:=Õ.mp h.2 o ho;cases e:add (dec led c).2 x with
   |none=>rw[e] at eo;rw[eo] at h1;cases h1
   |some t =>
    rw[e] at eo;rw[eo] at h1;have h1:(NK (q,t) (dec led (enc (q,t)))&&codes.contains (enc (q,t)))=true:=h1;rw[Á] at h1;have en:=CZ h1.1;have hm:=Qu.mp h1.2;have ok:=Õ.mp (Õ.mp JJ led (by cases led <;> simp)) _ hm
    unfold stepOk at ok;rw[Á,← en] at ok;obtain⟨q',u,k1,k2,k3⟩:=yQ r _ hm (by rw[← en];exact hr)
    rw[← en] at k1 k3;refine⟨q',u,?_,k2,λy=>?_⟩
    ·rw[Yt,e];exact k1
    ·have ok:=ok.1;unfold okN at ok;rw[Á,Á,decide_eq_true_eq] at ok;rw[k3,FQ e ok.1.1,ü,or_assoc]
  rcases hx with ⟨rfl,ha,hr⟩ | ⟨j,hj,rfl,hr⟩
  ·exact go ((dec led c).1.1 + 1,(dec led c).1.2) _ (ë.mpr (.inl (by rw[if_pos ha];exact Ú.mpr rfl))) rfl hr
  ·exact go ((dec led c).1.1,(dec led c).1.2.erase j) _ (ë.mpr (.inr (Ç.mpr ⟨j,hj,rfl⟩))) rfl hr
theorem qU(h:mF 0 [0,1,2,3] ks)(_:ks.length<=8)(led:Bool):Ep led ks=true:=by
 have e0:=O6 led;obtain⟨q,t,e,h2,h3⟩:=yQ (led:=led) ks 0 1e1 (by rw[e0];exact h)
 rw[e0] at e h3;have e:run led ks=some t:=e;unfold Ep;rw[e];show Ca led ks t=true;unfold okN at h2;unfold Ca;simp only[Á] at h2 ⊢;refine⟨⟨⟨⟨?_,?_⟩,h2.1.1⟩,h2.1.2⟩,h2.2⟩
 ·exact Õ.mpr λx hx=>Qu.mpr ((h3 x).mpr (.inr hx))
 ·refine Õ.mpr λx hx=>Qu.mpr ?_;rcases (h3 x).mp hx with h | h
  ·cases h
  ·exact h
end ST
namespace Q
open PySem L2 PySem.Spec PyProof.Rows
variable [TB:Tb]
section
variable {lm:Bool}{X:Cx}{G:Gs}{E:XK}{N:Zk}{sc:tv}
def Qi(K:Â)(G:Gs)(E:XK)(x:Ex):TO:=λσ H Q=>∃ zA ρ z r,eP K zA H ρ σ/\aM zA z H/\ev G.F x ρ z=some r/\(match r with
 |.ok l z'=>∃ o,uO l=some o/\∀ H',Ext zA H H'->aM zA z' H'->Q o H'
 |.er c z'=>EPost G zA E c z' H)
theorem Hh(hL:bV x=true)(g:Good X G E x e.toList):PO X e (Qi X.K G E x):=by
 cases e with
 |none =>
  cases x with
  |nil =>
   refine λaa s σ H Q I q=>ES aa s σ H Q I ?_;obtain⟨zA,ρ,z,r,rel,st,e,po⟩:=q;cases e;obtain⟨o,e',po⟩:=po;cases e';exact po H Ext.refl st
  |cons a r=>obtain⟨e,es,h,_⟩:=g;cases h
  |_=>cases hL
 |some e =>
  cases x with
  |nil=>cases (show [e]=[] from g)
  |cons a r =>
   obtain⟨e',es,h,ns,ga,lr,gr⟩:=g;cases h;refine λaa s σ H Q I q=>ET ga.pe aa s σ H Q I ?_;obtain⟨zA,ρ,z,rr,rel,st,e,po⟩:=q;have her:∀ c z1,rr=.er c z1->EPost G zA E c z1 H:=λc z1 e=>by subst e;exact po
   have rn:r=.nil:=by
    cases r with
    |nil=>rfl|cons b q=>obtain⟨e,es,h,_⟩:=gr;cases h
    |_=>cases lr
   subst rn;refine de rel st e her λl z1 e1=>?_;obtain⟨s,hs,e2⟩:=M.ag e1;cases e2;obtain⟨o,e',po⟩:=po;refine⟨s,jh hs,λv H1 x1 aY rv=>?_⟩;cases s with
   |d y =>
    cases y with
    |int i =>
     cases e';exact⟨i,Hd.bK (show Hd X.K (hz zA H1) (.int i) v from rv),po H1 x1 aY⟩
    |_=>cases e'
   |_=>cases e'
  |_=>cases hL
theorem O7{a lo hi:Ex}{v:Ù}{l h:Option Ù}{p pos:Pos}(ga:aw X G E a v)(hl:bV lo=true)(hh:bV hi=true)(gl:Good X G E lo l.toList)(gh:Good X G E hi h.toList):aw X G E (.sl a lo hi) (.Subscript v (.Slice l h none p) pos):=by
 refine aF (PE.imp (By OT ga.pe (Hh hl gl) (Hh hh gh)) λσ H Q q=>?_) rfl;obtain⟨zA,ρ,z,rr,rel,st,e,po⟩:=q;refine de rel st e (b9 po) λm z1 e1=>?_;obtain⟨dx,p1,e2⟩:=M.ag e1;obtain⟨s1,rfl,q1⟩:=cA p1;refine⟨s1,rfl,λw H1 x1 aY rv=>?_⟩;rcases M.bind_some e2 with ⟨u,z2,e3,e4⟩ | ⟨c,z2,e3,e4⟩
 ·obtain⟨o,ho,e5⟩:=M.ag e4;refine⟨zA,ρ,z1,_,rel.mono x1,aY,e3,o,ho,λH2 x2 st2=>?_⟩;rcases M.bind_some e5 with ⟨u',z3,e6,e7⟩ | ⟨c,z3,e6,e7⟩
  ·obtain⟨o',ho',e8⟩:=M.ag e7;refine⟨zA,ρ,z2,_,(rel.mono x1).mono x2,st2,e6,o',ho',λH3 x3 st3=>?_⟩;obtain⟨s,hs,e9⟩:=M.ag e8;cases e9;exact⟨zA,z3,dx,s,st3,((rv.pl.mono (x2.trans x3)).d_ q1),hs,cB po ((x1.trans x2).trans x3) st3⟩
  ·exact⟨zA,ρ,z2,_,(rel.mono x1).mono x2,st2,e6,((b9 po) c z3 e7).mono (x1.trans x2)⟩
 ·exact⟨zA,ρ,z1,_,rel.mono x1,aY,e3,((b9 po) c z2 e4).mono x1⟩
theorem JK:∀ {x:Ex}{es:Zm}{z z1:Z}{l:List S},bV x=true->Good X G E x es->ev G.F x ρ z=some (.ok l z1)->l.length=es.length:=by
 intro x
 induction x with
 |nil =>
  intro es z z1 l _ h e;have h:es=[]:=h;subst h;cases e;rfl
 |cons a r _ ih =>
  intro es z z1 l _ h e;obtain⟨e',es',rfl,ns,g,lr,gr⟩:=h;rcases M.bind_some e with ⟨m,z2,e1,e2⟩ | ⟨c,z2,e1,e2⟩
  ·obtain⟨s,hs,e3⟩:=M.ag e2;rcases M.bind_some e3 with ⟨m',z3,e4,e5⟩ | ⟨c,z3,e4,e5⟩
   ·cases e5;rw[Ü,Ü,ih lr gr e4]
   ·cases e5
  ·cases e2
 |_=>intro es z z1 l h;cases h
theorem s_call(x:XI lm X G E N sc){f:Nat}{as:Ex}{n:Str}{ps:Zk}{e:Ù}{l:Zm}{p pos:Pos}(hf:G.fns[f]?=some (n,ps))(hl:ps.length=l.length + 1)(hg:glob sc n=true)(hL:bV as=true)(g:Good X G E as (e::l)) :
 aw X G E (.call f as) (.Call (.Name n p) (e::l) [] pos):=by
 obtain⟨k1,k2,k3⟩:=bS hg;obtain⟨fa,fd,m1,m2,m3,F⟩:=x.gok f n ps hf;obtain⟨ha,hs⟩:=g.args hL;rw[Rh,Á] at hs;refine aF (PE.imp (EN F x.room (x.glb n k1) m1 m2 m3 .nil x.pas ha k2 (bz hs.1 l X.env) (gW X.env pos hs.2)) λσ H Q q=>?_) rfl;obtain⟨zA,ρ,z,rr,rel,st,e,po⟩:=q;have e0:Zd (ev G.F as ρ) (λl=>Zd (G.F false f (l.map gK)) λs=>Ze [s]) z=some rr:=e;rcases M.bind_some e0 with ⟨m,z1,e1,e2⟩ | ⟨c,z1,e1,e2⟩
 ·refine⟨zA,ρ,z,_,rel,st,e1,λvs H1 x1 aY rvs=>?_⟩;have hv:vs.length=ps.length:=by rw[← rvs.length,JK hL g e1,hl];rfl
  show FI X.K G f ps.length (vs++[]) H1 Q E;rw[Ri];refine⟨hv,zA,z1,m.map gK,?_⟩;have ra:pZ X.K zA H1 (m.map gK) vs:=pZ.gK (Rx.zP rvs λ_ _ q=>q.pl);rcases M.bind_some e2 with ⟨s,z2,e3,e4⟩ | ⟨c,z2,e3,e4⟩
  ·cases e4;refine⟨_,ra,aY,e3,λv H2 x2 st2 rv=>?_⟩;obtain⟨s',e',po⟩:=po;cases e';exact po v H2 (x1.trans x2) st2 (rv.from x1)
  ·exact⟨_,ra,aY,e3,((b9 po) c z2 e4).mono x1⟩
 ·exact⟨zA,ρ,z,_,rel,st,e1,(b9 po) c z1 e2⟩
def FU:gN->Nat
 |.nil=>0|.cons _ r=>FU r + 1|_=>0
mutual
noncomputable def gP(K:Â):gN->TG
 |.v i=>qu i|.tup ps=>Ld K (FU ps) (gL K ps)|.nil=>λ_ _ _ _=>False|.cons _ _=>λ_ _ _ _=>False
noncomputable def gL(K:Â):gN->KO
 |.nil=>Lc|.cons p r=>G2 (gP K p) (gL K r)|.v _=>λ_ _ _ _=>False|.tup _=>λ_ _ _ _=>False
end
end
end Q
namespace Q
open PySem L2 PySem.Spec PyProof.Rows
variable [TB:Tb]
theorem C1(h:noStar e=true)(es:Zm)(env:RZ):Sj (e::es) env=(false,U8 e env)::Sj es env:=by
 cases e <;> first | rfl | cases h
structure yR(X:Cx)(N:List Str)(loc:Str->Bool):Prop where
 hN:X.N=N
 nd:N.Nodup
 lc:∀ x,loc x=true->Loc X.env.scope x
 fn:∀ x,loc x=true->(X.fn x=true\/X.env.scope.names.lookup x=some .local)
 calm:X.calm=true
theorem oI:∀ {es:Zm} (env:RZ),es.all noStar=true->(Sj es env).length=es.length/\(Sj es env).findIdx? (·.1)=none
 |[],_,_=>⟨rfl,rfl⟩
 |e::es,env,h=>by
  rw[Rh,Á] at h;obtain⟨h1,h2⟩:=oI env h.2;rw[C1 h.1];refine⟨by rw[Ü,Ü,h1],?_⟩
  rw[List.findIdx?_cons,h2];rfl
theorem vd:∀ {r:gN}{es:Zm},lM N loc r es=true->es.length=FU r/\es.all noStar=true
 |.nil,es,h=>by
  unfold lM at h;have:es=[]:=Ud.mp h;subst this;exact⟨rfl,rfl⟩
 |.cons p r,es,h=>by
  unfold lM at h;cases es with
  |nil=>cases h
  |cons e es =>
   rw[Á,Á] at h;obtain⟨h1,h2⟩:=vd (r:=r) h.2;exact⟨by rw[Ü,h1];rfl,by rw[Rh,h.1.1,h2];rfl⟩
 |.v _,_,h=>by unfold lM at h;cases h
 |.tup _,_,h=>by unfold lM at h;cases h
mutual
theorem vf(L:yR X N loc):∀ {p:gN}{e:Ù},cU N loc p e=true->PG X e (gP X.K p)
 |.v i,e,h=>by
  unfold cU at h;cases e with
  |Name x pos =>
   rw[Á,beq_iff_eq] at h;unfold gP;exact EH (by rw[L.hN];exact L.nd) (by rw[L.hN];exact h.1) (L.lc x h.2) (L.fn x h.2)
  |_=>cases h
 |.tup ps,e,h=>by
  unfold cU at h;cases e with
  |Tuple es k pos =>
   obtain⟨h1,h2⟩:=vd h;obtain⟨h3,h4⟩:=oI X.env h2;unfold gP;exact HW L.calm (C2 L h) (by rw[h3,h1]) h4
  |_=>cases h
 |.nil,e,h=>by unfold cU at h;cases h
 |.cons _ _,e,h=>by unfold cU at h;cases h
theorem C2(L:yR X N loc):∀ {r:gN}{es:Zm},lM N loc r es=true->K9 X es (gL X.K r)
 |.nil,es,h=>by
  unfold lM at h;have:es=[]:=Ud.mp h;subst this;unfold gL;exact EI
 |.cons p r,es,h=>by
  unfold lM at h;cases es with
  |nil=>cases h
  |cons e es =>
   rw[Á,Á] at h;unfold gL;exact Bk (vf L h.1.2) (C2 L h.2) (by rw[C1 h.1.1];rfl)
 |.v _,_,h=>by unfold lM at h;cases h
 |.tup _,_,h=>by unfold lM at h;cases h
end
section
variable {K:Â}{zA:Zl}{H:Hp}
theorem eP.set{ρ:Env}{σ:L2.St}{i:Nat}{s:S}{v:V}(h:eP K zA H ρ σ)(hl:ρ.length=σ.length)(r:wy K zA H s v):eP K zA H (ρ.set i (some s)) (σ.set i (some v)):=by
 intro j t e;by_cases hj:j=i
 ·subst hj;have hlt:j < ρ.length:=by
   have:=(ç.mp e).1;simpa using this
  rw[ô hlt] at e;cases e;exact⟨v,ô (by rw[← hl];exact hlt),r⟩
 ·rw[ñ (QQ hj)] at e;obtain⟨w,h1,h2⟩:=h j t e;exact⟨w,by rw[ñ (QQ hj)];exact h1,h2⟩
theorem lR:∀ {r:gN}{l:List D}{ρ ρ':Env},bindL r l ρ=some ρ'->l.length=FU r
 |.nil,l,ρ,ρ',e=>by
  unfold bindL at e;cases l with
  |nil=>rfl|cons x l=>cases e
 |.cons p r,l,ρ,ρ',e=>by
  unfold bindL at e;cases l with
  |nil=>cases e
  |cons x l =>
   obtain⟨ρ1,e1,e2⟩:=Ï.mp e;rw[Ü,lR e2];rfl
 |.v _,_,_,_,e=>by unfold bindL at e;cases e
 |.tup _,_,_,_,e=>by unfold bindL at e;cases e
mutual
theorem yS:∀ {p:gN}{d:D}{ρ ρ':Env},bR p d ρ=some ρ'->∀ {σ:L2.St}{v:V}{R:L2.St->Hp->Prop},eP K zA H ρ σ->ρ.length=σ.length->Hd K (hz zA H) d v ->
 (∀ σ',eP K zA H ρ' σ'->ρ'.length=σ'.length->R σ' H)->gP K p v σ H R
 |.v i,d,ρ,ρ',e,σ,v,R,rel,hl,hd,k=>by
  unfold bR at e;cases e;unfold gP;exact k _ (rel.set hl (show wy K zA H (.d d) v from hd)) (by rw[QE,QE,hl])
 |.tup ps,d,ρ,ρ',e,σ,v,R,rel,hl,hd,k=>by
  unfold bR at e;cases d with
  |tup l =>
   obtain⟨a,xs,rfl,h1,h2⟩:=hd.fE;unfold gP;exact⟨a,xs,rfl,(ah zA H).jV h1,by rw[h2.length];exact lR e,vg e rel hl h2 k⟩
  |_=>cases e
 |.nil,_,_,_,e,_,_,_,_,_,_,_=>by unfold bR at e;cases e
 |.cons _ _,_,_,_,e,_,_,_,_,_,_,_=>by unfold bR at e;cases e
theorem vg:∀ {r:gN}{l:List D}{ρ ρ':Env},bindL r l ρ=some ρ'->∀ {σ:L2.St}{vs:List V}{R:L2.St->Hp->Prop},eP K zA H ρ σ->ρ.length=σ.length->aK K (hz zA H) l vs ->
 (∀ σ',eP K zA H ρ' σ'->ρ'.length=σ'.length->R σ' H)->gL K r vs σ H R
 |.nil,l,ρ,ρ',e,σ,vs,R,rel,hl,hd,k=>by
  unfold bindL at e;cases l with
  |nil =>
   cases e;unfold gL;exact⟨hd.bN,k σ rel hl⟩
  |cons x l=>cases e
 |.cons p r,l,ρ,ρ',e,σ,vs,R,rel,hl,hd,k=>by
  unfold bindL at e;cases l with
  |nil=>cases e
  |cons x l =>
   obtain⟨ρ1,e1,e2⟩:=Ï.mp e;obtain⟨v,ws,rfl,h1,h2⟩:=hd.aN;unfold gL;exact⟨v,ws,rfl,yS e1 rel hl h1 λσ' r' l'=>vg e2 r' l' h2 k⟩
 |.v _,_,_,_,e,_,_,_,_,_,_,_=>by unfold bindL at e;cases e
 |.tup _,_,_,_,e,_,_,_,_,_,_,_=>by unfold bindL at e;cases e
end
end
end Q
namespace Q
open PySem L2 PySem.Spec PyProof.Rows
variable [TB:Tb]
structure JL(K:PySem.W.Frag)(zA:Option Addr)(J:L2.It)(xs:List D)(H1:Hp):Prop where
 go:∀ i H,Ext zA H1 H->i < xs.length->J.go i H
 yld:∀ i H x H' z d,Ext zA H1 H->aM zA z H->J.yld i H x H'->xs[i]?=some d->af H H'/\Hd K (hz zA H') d x
 stop:∀ H,Ext zA H1 H->J.stop xs.length H
structure FV(K:PySem.W.Frag)(J:L2.It)(xs:List D)(B:Hp):Prop where
 go:∀ i H,af B H->i < xs.length->J.go i H
 yld:∀ i H x H' zA z d,af B (hz zA H)->aM zA z H->J.yld i H x H'->xs[i]?=some d->af H H'/\∀ C,af B C->(∀ a ys,dU K (hz zA H') a ys->dU K C a ys)->Hd K C d x
 stop:∀ H,af B H->J.stop xs.length H
section
variable {K:Â}{B:Hp}
def FV.ok(h:FV K J xs (hz zA H1)):JL K zA J xs H1:=
 ⟨λi H x=>h.go i H (af.trans x (ah zA H)),λi H x H' z d e st y k=>let ⟨s,f⟩:=h.yld i H x H' zA z d e st y k;⟨s,f _ (af.trans e (dG s)) λ_ _ q=>q⟩,λH x=>h.stop H (af.trans x (ah zA H))⟩
theorem vh(h:cY K B a ys)(r:aK K B xs ys):FV K (Le K a) xs B where
 go:=λi H x hi=>⟨ys,ys[i]'(by rw[r.length];exact hi),(h.same x).sq,by simp⟩
 yld:=λi H v H' zA z d x st y e=>by
  obtain⟨rfl,y⟩:=y;have y1:=y ys ((h.same x).same (ah zA _)).sq;obtain⟨w,e1,e2⟩:=r.get e;rw[y1] at e1;cases e1;exact⟨af.refl _,λC c _=>e2.same c⟩
 stop:=λH x=>⟨ys,(h.same x).sq,by rw[r.length];exact Ñ _⟩
theorem yT(h:dU K B a ys)(r:aK K B xs ys):FV K (Nv K a) xs B where
 go:=λi H x hi=>⟨ys,ys[i]'(by rw[r.length];exact hi),af.jV x h,by simp⟩
 yld:=λi H v H' zA z d x st y e=>by
  obtain⟨rfl,y⟩:=y;have y1:=y ys ((ah zA _).jV (af.jV x h));obtain⟨w,e1,e2⟩:=r.get e;rw[y1] at e1;cases e1;exact⟨af.refl _,λC c _=>e2.same c⟩
 stop:=λH x=>⟨ys,af.jV x h,by rw[r.length];exact Ñ _⟩
theorem yU(lo:Int)(n:Nat):FV K (Lf lo n) ((Ö n).map λ(k:Nat)=>D.int (lo + k)) B where
 go:=λi H x hi=>by show i < n;simpa using hi
 yld:=λi H v H' zA z d x st y e=>by
  obtain⟨rfl,rfl⟩:=y;rw[Ø] at e;obtain⟨k,e1,rfl⟩:=Ð.mp e;obtain⟨h1,h2⟩:=ç.mp e1;rw[Ua] at h2;subst h2;exact⟨af.refl _,λ_ _ _=>Hd.int⟩
 stop:=λH x=>by show n<=_;simp
end
section
variable {K:Â}{zA:Zl}{H1:Hp}
theorem zip_get:∀ {a b:List D}{i:Nat}{d:D},(fi a b)[i]?=some d->∃ x y,a[i]?=some x/\b[i]?=some y/\d=.tup [x,y]
 |[],_,_,_,e=>by simp[fi] at e|_::_,[],_,_,e=>by simp[fi] at e|x::r,y::q,0,d,e=>by simp[fi] at e;exact⟨x,y,rfl,rfl,e.symm⟩
 |x::r,y::q,i + 1,d,e=>by
  obtain⟨u,v,h1,h2,h3⟩:=zip_get (a:=r) (b:=q) (i:=i) (by simpa [fi] using e)
  exact⟨u,v,by simpa using h1,by simpa using h2,h3⟩
theorem sI:∀ (a b:List D),(fi a b).length=min a.length b.length
 |[],_=>by simp[fi]|_::_,[]=>by simp[fi]|x::r,y::q=>by simp only[fi,Ü,sI r q];omega
theorem yV(h:∀ H,af B H->ua bb K H a us)(r:aK K B xs us)(h':∀ H,af B H->ua bb K H b ws)(r':aK K B ys ws):FV K (Oh bb K a b) (fi xs ys) B where
 go:=λi H x hi=>by
  rw[sI] at hi;exact⟨us,ws,us[i]'(by rw[r.length];omega),ws[i]'(by rw[r'.length];omega),h H x,h' H x,by simp,by simp⟩
 yld:=λi H v H' zA z d x st y e=>by
  obtain⟨T,rfl,hT,y⟩:=y;obtain⟨d1,d2,e1,e2,rfl⟩:=zip_get e;obtain⟨w1,f1,g1⟩:=r.get e1;obtain⟨w2,f2,g2⟩:=r'.get e2;have y1:=y us ws w1 w2 (h H (af.trans x (ah zA H))) (h' H (af.trans x (ah zA H))) f1 f2;subst y1;have sm:af H (upd H T (.tup [w1,w2])):=af.new _ hT;exact⟨sm,λC c t=>Hd.tup (t _ _ ((st.same sm).xn (dU.of aO))) (.cons (g1.same c) (.cons (g2.same c) .nil))⟩
 stop:=λH x=>⟨us,ws,h H x,h' H x,by rw[sI,r.length,r'.length];omega⟩
end
def PX(P:D->Prop):D->Prop
 |.tup l=>∀ y∈l,P y|.lst l=>∀ y∈l,P y|_=>True
def NL(K:Â)(zA:Zl)(H H':Hp)(l:List S)(J:L2.It)(xs:List D):Prop:=
 ∀ (P:D->Prop) (B:Hp),af B (hz zA H')->(∀ a ys,dU K (hz zA H') a ys->dU K B a ys)->(∀ d v,P d->Hd K (hz zA H') d v->Hd K B d v)->(∀ ds,iZ l=some ds->∀ d∈ds,PX P d) ->
  (∀ a ys,cY K (hz zA H') a ys->((H a=none/\H' a=some (.lst ys))\/lL l=true)->cY K B a ys)->FV K J xs B
theorem aK.move{K:Â}{H B:Hp}{P:D->Prop}(mv:∀ d v,P d->Hd K H d v->Hd K B d v):∀ {ds:List D}{vs:List V},(∀ y∈ds,P y)->aK K H ds vs->aK K B ds vs
 |[],_,_,h=>by rw[h.bN];exact .nil
 |d::ds,_,p,h=>by
  obtain⟨x,r,rfl,h1,h2⟩:=h.aN;exact .cons (mv d x (p d Ë) h1) (aK.move mv (λy hy=>p y (È _ hy)) h2)
theorem NL.ok{K:Â}{zA:Zl}{H H':Hp}{l:List S}{J:L2.It}{xs:List D}(h:NL K zA H H' l J xs):JL K zA J xs H':=by
 refine(h (λ_=>True) (hz zA H') (af.refl _) (λ_ _ q=>q) (λ_ _ _ q=>q) (λds _ d _=>?_) λ_ _ q _=>q).ok;cases d <;> first | trivial | exact λ_ _=>trivial
def Et(K:Â)(G:Gs)(E:XK)(it:It)(src:Ex):TI:=λσ H R=>∃ zA ρ z r,eP K zA H ρ σ/\aM zA z H/\ev G.F src ρ z=some r/\(match r with
 |.ok l z'=>∃ xs,(iZ l).bind (uc it)=some xs/\∀ J H',Ext zA H H'->aM zA z' H'->NL K zA H H' l J xs->R J H'
 |.er c z'=>EPost G zA E c z' H)
section
variable {lm:Bool}{X:Cx}{G:Gs}{E:XK}{N:Zk}{sc:tv}
def JM{zA:Zl}{H:Hp}{it:It}{P:L2.It->Hp->Prop}{r:R (List S)}(po:(match r with | .ok l z'=>∃ xs,(iZ l).bind (uc it)=some xs/\∀ J H',Ext zA H H'->aM zA z' H'->NL X.K zA H H' l J xs->P J H' | .er c z'=>EPost G zA E c z' H)):∀ c z1,r=.er c z1->EPost G zA E c z1 H:=λc z1 e=>by subst e;exact po
theorem yW{s:S}{ds:List D}(h:iZ [s]=some ds):∃ d,ds=[d]/\Cb s=some d:=by
 cases s with
 |d x=>cases h;exact⟨x,rfl,rfl⟩
 |fr xs=>cases h;exact⟨_,rfl,rfl⟩
 |_=>cases h
theorem C3{tg e:Ù}{a:Ex}(g:aw X G E a e):PI X tg e (Et X.K G E .seq (.cons a .nil)):=by
 intro aa s σ H R I q;obtain⟨zA,ρ,z,rr,rel,st,ee,po⟩:=q;have e0:Zd (ev G.F a ρ) (λx=>Zd (Zf (one x)) λs=>Zd (ev G.F .nil ρ) λy=>Ze (s::y)) z=some rr:=ee;rcases M.bind_some e0 with ⟨m,z1,e1,e2⟩ | ⟨c,z1,e1,e2⟩
 ·obtain⟨t,ht,e3⟩:=M.ag e2;cases e3;have hm:=jh ht;subst hm;obtain⟨xs,hx,po⟩:=po;obtain⟨ds,h1,h2⟩:=Ï.mp hx;obtain⟨d,rfl,h3⟩:=yW h1;cases d with
  |tup l =>
   cases h2;refine Bp g.pe aa s σ H R I ⟨zA,ρ,z,_,rel,st,e1,t,rfl,λv H1 x1 aY rv=>?_⟩;obtain⟨b,ys,rfl,k1,k2⟩:=(rv.pl.d_ h3).fE;exact⟨b,rfl,⟨ys,(ah zA H1).jV k1⟩,po _ H1 x1 aY λP B sub tup mv pa sf=>yT (tup _ _ k1) (aK.move mv (show ∀ y∈xs,P y from pa _ h1 _ Ë) k2)⟩
  |lst l =>
   cases h2;refine rM g.pe aa s σ H R I ⟨zA,ρ,z,_,rel,st,e1,t,rfl,λv H1 x1 aY rv=>?_⟩;have fin:∀ {b:Ì}{ys:List V},cY X.K (hz zA H1) b ys->aK X.K (hz zA H1) xs ys->((H b=none/\H1 b=some (.lst ys))\/lL [t]=true)->∃ a,V.ref b=.ref a/\(∃ xs,jP X.K H1 a xs)/\R (Le X.K a) H1:=λ{b ys} k1 k2 k5=>by
    exact⟨b,rfl,⟨ys,(k1.same (ah zA H1)).sq⟩,po _ H1 x1 aY λP B sub tup mv pa sf=>vh (sf _ _ k1 k5) (aK.move mv (show ∀ y∈xs,P y from pa _ h1 _ Ë) k2)⟩
   cases t with
   |d x =>
    cases h3;obtain⟨b,ys,rfl,k1,k2⟩:=Hd.kM (show Hd X.K (hz zA H1) (.lst xs) v from rv);exact fin k1 k2 (.inr rfl)
   |fr x =>
    cases h3;obtain⟨b,ys,rfl,k0,k1,k2,k3⟩:=rv;exact fin (cY.of (bw k2 k1)) (k3.same (cK b _)) (.inl ⟨k0,k2⟩)
   |_=>cases h3
  |_=>cases h2
 ·exact rM g.pe aa s σ H R I ⟨zA,ρ,z,_,rel,st,e1,(JM po) c z1 e2⟩
def ny{l:List S}{it:It}{xs:List D}(h:(iZ l).bind (uc it)=some xs):∃ ds,iZ l=some ds/\uc it ds=some xs:=Ï.mp h
theorem yX(x:XI lm X G E N sc){tg a:Ù}{as:Ex}{n:Str}{p pos:Pos}(hn:n="range")(hg:glob sc n=true)(hL:bV as=true)(g:Good X G E as [a]):PI X tg (.Call (.Name n p) [a] [] pos) (Et X.K G E .rng1 as):=by
 subst hn;obtain⟨k1,k2,k3⟩:=bS hg;obtain⟨ha,hs⟩:=g.args hL;rw[Rh,Á] at hs;intro aa s σ H R I q;refine zS (x.glb _ k1) (x.blt _ 1e1) ha (bz hs.1 [] X.env) aa s σ H R I ?_
 obtain⟨zA,ρ,z,rr,rel,st,ee,po⟩:=q;refine⟨zA,ρ,z,rr,rel,st,ee,?_⟩;cases rr with
 |er c z1=>exact po
 |ok l z1 =>
  obtain⟨xs,hx,po⟩:=po;intro vs H1 x1 aY rvs;obtain⟨ds,h1,h2⟩:=ny hx;have hd:=j7 rvs h1
  match ds,h2 with
  |[.int j],h2 =>
   obtain⟨hj,h2⟩:=cL h2;have hj:=jf.mp hj;cases h2;obtain⟨v,rfl,h3⟩:=hd.one;cases h3.bK;refine⟨j,rfl,∅,∅,po _ H1 x1 aY λP B sub tup mv pa sf=>?_⟩
   have:=yU (K:=X.K) (B:=B) 0 j.toNat;simpa using this
theorem yY(x:XI lm X G E N sc){tg a b:Ù}{as:Ex}{n:Str}{p pos:Pos}(hn:n="range")(hg:glob sc n=true)(hL:bV as=true)(g:Good X G E as [a,b]):PI X tg (.Call (.Name n p) [a,b] [] pos) (Et X.K G E .rng2 as):=by
 subst hn;obtain⟨k1,k2,k3⟩:=bS hg;obtain⟨ha,hs⟩:=g.args hL;rw[Rh,Rh,Á,Á] at hs;intro aa s σ H R I q;refine zT (x.glb _ k1) (x.blt _ 1e1) ha (by rw[bz hs.1,bz hs.2.1];rfl) (bz hs.2.1 [] X.env) aa s σ H R I ?_
 obtain⟨zA,ρ,z,rr,rel,st,ee,po⟩:=q;refine⟨zA,ρ,z,rr,rel,st,ee,?_⟩;cases rr with
 |er c z1=>exact po
 |ok l z1 =>
  obtain⟨xs,hx,po⟩:=po;intro vs H1 x1 aY rvs;obtain⟨ds,h1,h2⟩:=ny hx;have hd:=j7 rvs h1
  match ds,h2 with
  |[.int i,.int j],h2 =>
   obtain⟨hj,h2⟩:=cL h2;have hi:=jf.mp hj.1;have hj:=jf.mp hj.2;cases h2;obtain⟨v,w,rfl,h3,h4⟩:=hd.two;cases h3.bK;cases h4.bK;exact⟨i,j,rfl,∅,po _ H1 x1 aY λP B sub tup mv pa sf=>yU i (j - i).toNat⟩
theorem xy{s:S}{r:List S}{ds:List D}(h:iZ (s::r)=some ds):∃ x q,ds=x::q/\Cb s=some x/\iZ r=some q:=by
 cases s with
 |d y =>
  obtain⟨q,e,rfl⟩:=Ð.mp h;exact⟨y,q,rfl,rfl,e⟩
 |fr y =>
  obtain⟨q,e,rfl⟩:=Ð.mp h;exact⟨_,q,rfl,rfl,e⟩
 |_=>cases h
theorem FW(h:iZ l=some [x,y]):∃ s t,l=[s,t]/\Cb s=some x/\Cb t=some y:=by
 cases l with
 |nil=>cases h
 |cons s r =>
  obtain⟨_,_,e,h1,h2⟩:=xy h;cases e;cases r with
  |nil=>cases h2
  |cons t r =>
   obtain⟨_,_,e,h3,h4⟩:=xy h2;cases e;cases r with
   |nil=>exact⟨s,t,rfl,h1,h3⟩
   |cons u r =>
    obtain⟨_,_,e,_⟩:=xy h4;cases e
theorem C4{s t:S}(h:lL [s]=true):lL [s,t]=true:=by
 match s,h with
 |.d (.lst _),_=>rfl
theorem C5{s t:S}(h:lL [t]=true):lL [s,t]=true:=by
 match s with
 |.d (.lst _)=>rfl|.d .bp | .d (.bl _) | .d (.int _) | .d (.str _) | .d (.tup _) | .d .dct | .fr _ | .z=>exact h
theorem yZ{K:Â}{zA:Zl}{H H1:Hp}{t:S}{v:V}{a:List D}(rv:j6 K zA H H1 t v)(h:Cb t=some (.lst a)):∃ b ys,v=.ref b/\cY K (hz zA H1) b ys/\aK K (hz zA H1) a ys/\((H b=none/\H1 b=some (.lst ys))\/lL [t]=true):=by
 cases t with
 |d x =>
  cases h;obtain⟨b,ys,rfl,k1,k2⟩:=Hd.kM (show Hd K (hz zA H1) (.lst a) _ from rv);exact⟨b,ys,rfl,k1,k2,.inr rfl⟩
 |fr x =>
  cases h;obtain⟨b,ys,rfl,k0,k1,k2,k3⟩:=rv;exact⟨b,ys,rfl,cY.of (bw k2 k1),k3.same (cK b _),.inl ⟨k0,k2⟩⟩
 |_=>cases h
theorem y4(x:XI lm X G E N sc){tg a b:Ù}{as:Ex}{n:Str}{p pos:Pos}(ht:ef tg=true)(hn:n="zip")(hg:glob sc n=true)(hL:bV as=true)(g:Good X G E as [a,b]):PI X tg (.Call (.Name n p) [a,b] [] pos) (Et X.K G E .zip as):=by
 subst hn;obtain⟨k1,k2,k3⟩:=bS hg;obtain⟨ha,hs⟩:=g.args hL;rw[Rh,Rh,Á,Á] at hs;cases tg with
 |Tuple es ek ep =>
  intro aa s σ H R I q;refine Iv (x.glb _ k1) (x.blt _ 1e1) ha (by rw[bz hs.1,bz hs.2.1];rfl) (bz hs.2.1 [] X.env) aa s σ H R I ?_
  obtain⟨zA,ρ,z,rr,rel,st,ee,po⟩:=q;refine⟨zA,ρ,z,rr,rel,st,ee,?_⟩;cases rr with
  |er c z1=>exact po
  |ok l z1 =>
   obtain⟨xs,hx,po⟩:=po;intro vs H1 x1 aY rvs;obtain⟨ds,h1,h2⟩:=ny hx;have hd:=j7 rvs h1
   match ds,h2 with
   |[.tup a,.tup b],h2 =>
    cases h2;obtain⟨v,w,rfl,h3,h4⟩:=hd.two;obtain⟨p1,us,rfl,m1,m2⟩:=h3.fE;obtain⟨p2,ws,rfl,m3,m4⟩:=h4.fE;exact⟨false,p1,p2,rfl,⟨us,(ah zA H1).jV m1⟩,⟨ws,(ah zA H1).jV m3⟩,po _ H1 x1 aY λP B sub tup mv pa sf=>yV (λ_ x=>af.jV x (tup _ _ m1)) (aK.move mv (show ∀ y∈a,P y from pa _ h1 _ Ë) m2) (λ_ x=>af.jV x (tup _ _ m3)) (aK.move mv (show ∀ y∈b,P y from pa _ h1 _ (È _ Ë)) m4)⟩
   |[.lst a,.lst b],h2 =>
    cases h2;obtain⟨t1,t2,rfl,e1,e2⟩:=FW h1;cases rvs with
    |cons rv1 rn =>
     cases rn with
     |cons rv2 rn =>
      cases rn;obtain⟨p1,us,rfl,m1,m2,m3⟩:=yZ rv1 e1;obtain⟨p2,ws,rfl,m4,m5,m6⟩:=yZ rv2 e2;refine⟨true,p1,p2,rfl,⟨us,(m1.same (ah zA H1)).sq⟩,⟨ws,(m4.same (ah zA H1)).sq⟩,po _ H1 x1 aY λP B sub tup mv pa sf=>yV (λ_ x=>((sf _ _ m1 (m3.imp id λq=>?_)).same x).sq) (aK.move mv (show ∀ y∈a,P y from pa _ h1 _ Ë) m2) (λ_ x=>((sf _ _ m4 (m6.imp id λq=>?_)).same x).sq) (aK.move mv (show ∀ y∈b,P y from pa _ h1 _ (È _ Ë)) m5)⟩
      ·exact C4 q
      ·exact C5 q
 |_=>cases ht
theorem vj:∀ {a:List D}{i n:Nat}{d:D},(d7 a n)[i]?=some d->∃ x,a[i]?=some x/\d=.tup [.int ((n + i:Nat):Int),x]
 |[],_,_,_,e=>by simp[d7] at e|x::r,0,n,d,e=>by simp[d7] at e;exact⟨x,rfl,e.symm⟩
 |x::r,i + 1,n,d,e=>by
  obtain⟨u,h1,h2⟩:=vj (a:=r) (i:=i) (n:=n + 1) (by simpa [d7] using e)
  exact⟨u,by simpa using h1,by rw[h2,show n + 1 + i=n + (i + 1) by omega]⟩
theorem oJ:∀ (a:List D) (n:Nat),(d7 a n).length=a.length
 |[],_=>rfl|x::r,n=>by simp only[d7,Ü,oJ r]
theorem vk(h:∀ H,af B H->ua b X.K H a us)(r:aK X.K B xs us):FV X.K (NH b X.K a) (d7 xs 0) B where
 go:=λi H x hi=>by
  rw[oJ] at hi;exact⟨us,us[i]'(by rw[r.length];omega),h H x,by simp⟩
 yld:=λi H v H' zA z d x st y e=>by
  obtain⟨T,rfl,hT,y⟩:=y;obtain⟨d1,e1,rfl⟩:=vj e;obtain⟨w1,f1,g1⟩:=r.get e1;have y1:=y us w1 (h H (af.trans x (ah zA H))) f1;subst y1;have sm:af H (upd H T (.tup [.int i,w1])):=af.new _ hT;exact⟨sm,λC c t=>Hd.tup (t _ _ ((st.same sm).xn (dU.of aO))) (.cons (by rw[Wv];exact Hd.int) (.cons (g1.same c) .nil))⟩
 stop:=λH x=>⟨us,h H x,by rw[oJ,r.length]⟩
theorem FY(h:iZ l=some [d]):∃ s,l=[s]:=by
 cases l with
 |nil=>cases h
 |cons s r =>
  cases r with
  |nil=>exact⟨s,rfl⟩|cons t q=>exfalso;cases s <;> cases t <;> first | (cases h;done) | (simp only[iZ,Yp,UD] at h;obtain⟨_,_,h⟩:=h;cases h)
theorem vm(x:XI lm X G E N sc){tg a:Ù}{as:Ex}{n:Str}{p pos:Pos}(ht:ef tg=true)(hn:n="enumerate")(hg:glob sc n=true)(hL:bV as=true)(g:Good X G E as [a]):PI X tg (.Call (.Name n p) [a] [] pos) (Et X.K G E .enum as):=by
 subst hn;obtain⟨k1,k2,k3⟩:=bS hg;obtain⟨ha,hs⟩:=g.args hL;rw[Rh,Á] at hs;cases tg with
 |Tuple es ek ep =>
  intro aa s σ H R I q;refine Fe (x.glb _ k1) (x.blt _ 1e1) ha (bz hs.1 [] X.env) aa s σ H R I ?_
  obtain⟨zA,ρ,z,rr,rel,st,ee,po⟩:=q;refine⟨zA,ρ,z,rr,rel,st,ee,?_⟩;cases rr with
  |er c z1=>exact po
  |ok l z1 =>
   obtain⟨xs,hx,po⟩:=po;intro vs H1 x1 aY rvs;obtain⟨ds,h1,h2⟩:=ny hx;have hd:=j7 rvs h1
   match ds,h2 with
   |[.tup a],h2 =>
    cases h2;obtain⟨v,rfl,h3⟩:=hd.one;obtain⟨p1,us,rfl,m1,m2⟩:=h3.fE;exact⟨false,p1,rfl,⟨us,(ah zA H1).jV m1⟩,po _ H1 x1 aY λP B sub tup mv pa sf=>vk (λ_ x=>af.jV x (tup _ _ m1)) (aK.move mv (show ∀ y∈a,P y from pa _ h1 _ Ë) m2)⟩
   |[.lst a],h2 =>
    cases h2;have fin:∀ (b:Ì) (ys:List V),cY X.K (hz zA H1) b ys->aK X.K (hz zA H1) a ys->((H b=none/\H1 b=some (.lst ys))\/lL l=true)->∃ bb p,[V.ref b]=[.ref p]/\(∃ xs,ua bb X.K H1 p xs)/\R (NH bb X.K p) H1:=λb ys k1 k2 k5 =>
     ⟨true,b,rfl,⟨ys,(k1.same (ah zA H1)).sq⟩,po _ H1 x1 aY λP B sub tup mv pa sf=>vk (λ_ x=>((sf _ _ k1 k5).same x).sq) (aK.move mv (show ∀ y∈a,P y from pa _ h1 _ Ë) k2)⟩
    obtain⟨t,rfl⟩:=FY h1;cases rvs with
    |cons rv rn =>
     cases rn;cases t with
     |d x =>
      cases h1;obtain⟨b,ys,rfl,k1,k2⟩:=Hd.kM (show Hd X.K (hz zA H1) (.lst a) _ from rv);exact fin _ _ k1 k2 (.inr rfl)
     |fr x =>
      cases h1;obtain⟨b,ys,rfl,k0,k1,k2,k3⟩:=rv;exact fin _ _ (cY.of (bw k2 k1)) (k3.same (cK b _)) (.inl ⟨k0,k2⟩)
     |_=>cases h1
 |_=>cases ht
abbrev EF:XK:=λ_ _ _=>False
def NM(K:Â)(G:Gs):Ex->TT
 |.nil=>yw|.cons c _=>tT K G EF c|_=>λ_ _ _=>False
theorem xA(h:turns f (x::r) z=some (.ok ys z2)):∃ o z1 l,f x z=some (.ok o z1)/\turns f r z1=some (.ok l z2)/\ys=(match o with | some y=>y::l | none=>l):=by
 rcases M.bind_some (show Zd (f x) _ z=_ from h) with ⟨o,z1,e1,e2⟩ | ⟨c,z1,e1,e2⟩
 ·rcases M.bind_some e2 with ⟨l,z3,e3,e4⟩ | ⟨c,z3,e3,e4⟩
  ·cases e4;exact⟨o,z1,l,e1,e3,rfl⟩
  ·cases e4
 ·cases e2
theorem FZ{zA:Zl}{J:L2.It}{xs ys:List D}{H1:Hp}{z1 z2:Z}{p:gN}{cond el:Ex}{ρ0:Env}{σ0:L2.St}{Q:VK}(IT:JL X.K zA J xs H1)(hm:xs.length<=most)(rel0:eP X.K zA H1 ρ0 σ0)(len:ρ0.length=σ0.length)(aY:aM zA z1 H1)
 (hc:cond=.nil\/∃ c,cond=.cons c .nil) (e:turns (eX (ev G.F cond) (ev G.F el) p ρ0) xs z1=some (.ok ys z2))
 (fin:∀ H2 vs l,Ext zA H1 H2->aM zA z2 H2->aK X.K (hz zA H2) ys vs->H2 l=none->Q (.ref l) (upd H2 l (.lst vs))):BE J σ0 H1 (gP X.K p) (NM X.K G cond) (tI X.K G EF el) Q:=by
 refine⟨λi m vs H=>m=xs.length - i/\i<=xs.length/\vs.length<=i/\∃ yd z rest,Ext zA H1 H/\aM zA z H/\aK X.K (hz zA H) yd vs/\turns (eX (ev G.F cond) (ev G.F el) p ρ0) (xs.drop i) z=some (.ok rest z2)/\ys=yd++rest,
  ⟨xs.length,rfl,Se _,Se _,[],z1,ys,Ext.refl,aY,.nil,by simpa using e,rfl⟩,?_⟩
 rintro i m vs H ⟨rfl,hi,hv,yd,z,rest,x,st,hd,et,ey⟩;by_cases hlt:i < xs.length
 ·refine .inr ⟨IT.go i H x hlt,Sy hv (Þ hlt (d9 hm)),
   λws H'=>ws.length<=i + 1/\∃ yd z rest,Ext zA H1 H'/\aM zA z H'/\aK X.K (hz zA H') yd ws/\turns (eX (ev G.F cond) (ev G.F el) p ρ0) (xs.drop (i + 1)) z=some (.ok rest z2)/\ys=yd++rest,
   λws H' q=>⟨xs.length - (i + 1),∅,rfl,hlt,q.1,q.2⟩,λv H' y=>?_⟩
  obtain⟨sm,hx⟩:=IT.yld i H v H' z xs[i] x st y (by simp[hlt])
  rw[RJ hlt] at et;obtain⟨o,z3,l,f1,f2,f3⟩:=xA et;obtain⟨ρ',b1,f4⟩:=M.ag (show Zd (Zf (bR p xs[i] ρ0)) _ z=_ from f1);have x':Ext zA H1 H':=x.trans (Ext.of sm);have st':=st.same sm;refine yS b1 (rel0.mono x') len hx λσ' rel' len'=>?_;have yes:∀ {za:Z}{Ha:Hp},Ext zA H' Ha->aM zA za Ha->Zd (ev G.F el ρ') (λy=>Zd (Zf (pl y)) λy=>Ze (some y)) za=some (.ok o z3)->tI X.K G EF el σ' Ha (λy H4=>(vs++[y]).length<=i + 1/\∃ yd z rest,Ext zA H1 H4/\aM zA z H4/\aK X.K (hz zA H4) yd (vs++[y])/\turns (eX (ev G.F cond) (ev G.F el) p ρ0) (xs.drop (i + 1)) z=some (.ok rest z2)/\ys=yd++rest):=λ{za Ha} xa sta ea=>by
   refine de (rel'.mono xa) sta ea (λc z1 h=>by cases h) λm z4 e4=>?_
   obtain⟨d,p1,e5⟩:=M.ag e4;obtain⟨s1,rfl,q1⟩:=cA p1;cases e5;refine⟨s1,rfl,λw H4 x4 st4 rv=>⟨by rw[Rk];simp;omega,yd++[d],z3,l,(x'.trans xa).trans x4,st4,?_,f2,by rw[ey,f3,SM];rfl⟩⟩
   exact(hd.same (af.trans (dG sm) (af.trans xa.same x4.same))).append (.cons (rv.pl.d_ q1) .nil)
  rcases hc with rfl | ⟨c,rfl⟩
  ·have f5:Zd (ev G.F el ρ') (λy=>Zd (Zf (pl y)) λy=>Ze (some y)) z=some (.ok o z3):=f4;have ty:NM X.K G .nil=yw:=rfl;rw[ty];refine B0 ?_;dsimp only;rw[if_pos rfl];exact yes Ext.refl st' f5
  ·rcases M.bind_some (show Zd (ev G.F (.cons c .nil) ρ') _ z=_ from f4) with ⟨m,za,e1,e2⟩ | ⟨q,za,e1,e2⟩
   ·rcases M.bind_some (show Zd (ev G.F c ρ') _ z=_ from e1) with ⟨m',zb,e3,e4⟩ | ⟨q,zb,e3,e4⟩
    ·obtain⟨s,hs,e5⟩:=M.ag e4;cases e5;have hm':=jh hs;subst hm';show tT X.K G EF c σ' H' _;have tb:∃ b,s=.d (.bl b):=by
      cases s with
      |d y=>cases y with
       |bl b=>exact⟨b,rfl⟩|_=>cases e2
      |_=>cases e2
     obtain⟨b,rfl⟩:=tb;refine⟨zA,ρ',z,_,rel',st',e3,b,rfl,λHa xa sta=>?_⟩;cases b with
     |true =>
      rw[if_pos rfl];exact yes xa sta e2
     |false =>
      rw[if_neg Û];cases e2;exact⟨ê hv (Nat.le_succ _),yd,z3,l,x'.trans xa,sta,hd.same (af.trans (dG sm) xa),f2,by rw[ey,f3]⟩
    ·cases e4
   ·cases e2
 ·have hi':i=xs.length:=∅
  subst hi';rw[UN] at et;cases et;refine .inl ⟨IT.stop H x,λl hl=>fin H vs l x st (by rw[ey,Ri];exact hd) hl⟩
end
section
variable {K:Â}{zA:Zl}{z:Z}{H H2:Hp}{P:Ì}{q:Str}
theorem C6(KB:nh P H H2)(t:Tab H P q)(t2:Tab H2 P q):Ext zA H H2:=by
 refine⟨λb o h=>?_,λb ps h=>?_⟩
 ·obtain⟨h1,h2⟩:=fF h;have nt:=gA h;obtain⟨ps,hp,_⟩:=t;have hb:b≠P:=λz=>by
   subst z;rw[hp] at h1;cases h1;exact nt _ rfl
  exact bw (KB.same b o hb h1) h2 nt
 ·by_cases hb:b=P
  ·subst hb;obtain⟨qs,e,_⟩:=t2;exact⟨qs,e⟩
  ·exact⟨ps,KB.same b _ hb h⟩
theorem F3(KB:nh P H H2)(t:Tab H P q)(t2:Tab H2 P q)(uq:∀ p∈TB.tb,p.1=P->p.2=q)(st:aM zA z H):aM zA z H2:=by
 obtain⟨ps,hp,_⟩:=t;have ne:∀ {b:Ì}{o:HO},H b=some o->(∀ l,o≠.tbl l)->b≠P:=λ{b o} e1 e2 z=>by
  subst z;rw[hp] at e1;cases e1;exact e2 _ rfl
 refine⟨?_,λp hq=>?_⟩
 ·have h:=st.zat;cases zA with
  |none=>cases z with
   |none=>trivial|some _=>exact h.elim
  |some a=>cases z with
   |none=>exact h.elim
   |some pr =>
    have h':H a=some (.lst [.int pr.1,.bl pr.2]):=h;exact KB.same _ _ (ne h' λ_ z=>nomatch z) h'
 ·by_cases hb:p.1=P
  ·rw[uq p hq hb,hb];exact t2
  ·obtain⟨qs,e,tr,k⟩:=st.tab p hq;refine⟨qs,KB.same _ _ hb e,tr,λpos c hc=>?_⟩;obtain⟨c',e1,e2⟩:=k pos c hc;exact⟨c',e1,KB.same _ _ (ne e2 λ_ z=>nomatch z) e2⟩
theorem y6:∀ l:Zh,(aD N l).length<=l.length
 |[]=>Ñ _
 |j::q=>by
  have ih:=y6 (N:=N) q;unfold aD;split
  ·rw[Ü,Ü];omega
  ·rw[Ü];omega
theorem qV(rel:eP K zA H ρ σ):∀ {ak:Zh}{ss:List S},qf ρ ak=some ss->(aD N ak).length=ak.length ->
 ∃ vs,pZ K zA H ss vs/\vs.length=(aD N ak).length/\∀ (i:Nat) (x:Str) (v:V),((aD N ak).map (·.1))[i]?=some x->vs[i]?=some v->∃ j:Nat,N[j]?=some x/\σ[j]?=some (some v)
 |[],ss,h,_=>by
  cases h;exact⟨[],.nil,rfl,λi x v h=>by simp[aD] at h⟩
 |i::ak,ss,h,hl=>by
  have h:(match ρ[i]? with | some (some s)=>(qf ρ ak).map (s::·) | _=>none)=some ss:=h
  have le:=y6 (N:=N) ak;obtain⟨s,r,e2,h3,rfl⟩:∃ s r,ρ[i]?=some (some s)/\qf ρ ak=some r/\ss=s::r:=by
   split at h
   ·rename_i s e;obtain⟨r,h3,h4⟩:=Ð.mp h;exact⟨s,r,e,h3,h4.symm⟩
   ·cases h
  obtain⟨v,k1,k2⟩:=rel i s e2;cases hN:N[i]? with
  |none =>
   unfold aD at hl;rw[hN] at hl;simp only[Ü] at hl;omega
  |some y =>
   unfold aD at hl ⊢;rw[hN] at hl ⊢;simp only[Ü] at hl;obtain⟨vs,a1,a2,a3⟩:=qV rel (N:=N) (ak:=ak) h3 ∅
   refine⟨v::vs,.cons k2 a1,by simp[a2],λj x u b1 b2=>?_⟩
   cases j with
   |zero =>
    simp only[QS,Sz,Sk] at b1 b2;subst b1;subst b2;exact⟨i,hN,k1⟩
   |succ j=>exact a3 j x u (by simpa using b1) (by simpa using b2)
theorem oK:∀ {ss:List S}{vs:List V},pZ K zA H ss vs->eP K zA H (ss.map some) (vs.map some)
 |[],_,h,i,s,e=>by simp at e
 |a::ss,_,h,i,s,e=>by
  cases h with
  |cons h1 h2 =>
   cases i with
   |zero =>
    simp only[QS,Sz,Sk] at e;subst e;exact⟨_,rfl,h1⟩
   |succ i =>
    obtain⟨v,k1,k2⟩:=oK h2 i s (by simpa using e)
    exact⟨v,by simpa using k1,k2⟩
end
section
variable {lm:Bool}{X:Cx}{G:Gs}{E:XK}{N:Zk}{sc:tv}
theorem C7{kr:Nat}{fQ:Ì}{fdQ:Rt}{ps:Zk}{sp:É->Sp}{g:Str}{e:Ù}{es:Zm}{p pos:Pos}{t:TA}{pre:L2.St->Hp->List V->VK->Prop}(F:uH X.prog X.w X.K X.mg X.base (jE X.prog X.w) kr fQ fdQ ps sp)(hr:dW kr X.A)(hg:Gl X g)(hm:X.mg g=some (.ref fQ))(hk:Ur X.K (.ref fQ)=true)(hb:Binds X.K fdQ ps [])
 (ha:PA X (e::es) t) (cv:∀ aa σ H s vs Q,Inv X aa σ H s->pre σ H vs Q->sp s vs H Q λ_ _ _=>False) (hdb:(g == ("__debug__":Str))=false) (he:þ (e::es) X.env=(false,eval e X.env)::þ es X.env) (hpl:(Uq pos (þ es X.env)).any (·.1)=false) :
 PE X (.Call (.Name g p) (e::es) [] pos) (λσ H Q=>t σ H λvs H1=>pre σ H1 vs Q):=by
 intro aa s σ H Q I h;refine SJ (m7 I hg hm ?_ hdb);refine callWith_K (h₀:=X.base) I.ok.mod.kin hk (b7 (ha pos aa s σ H _ I h) λus s1 hq=>?_) he hpl;obtain⟨vs,H1,I1,r,q⟩:=hq;refine⟨I1.t9,?_⟩;have sq:=cv aa σ H1 s1 vs Q I1 q;have hl:us.length=ps.length:=by rw[← r.length];exact F.len _ _ _ _ _ sq
 have hb1:=hb s1 us I1.t9 (by rw[Ri];exact hl)
 rw[Ri] at hb1;refine VJ (RP (F.run X.A X.stack s1 H1 ⟨us,[]⟩ us vs Q _ hr I1.EM hb1 r sq) λr s' hq=>?_);cases r with
 |error e=>obtain⟨_,_,_,_,_,_,_,_,_,_,_,_,_,z⟩:=hq;exact z.elim
 |ok fl =>
  cases fl with
  |ret u=>exact I1.after hq|next=>exact My hq
  |brk=>exact My hq|cont=>exact My hq
theorem Mz(x:XI lm X G E N sc)(hlm:lm=true){ak:Zh}{a:Ex}{body:Ù}{cJ:tv}{p lpos pos:Pos}(hg:glob sc "_law_made"=true)(hc:(aD N ak).length=ak.length)(hs:CI cJ sc (aD N ak)=true)(hL:bV a=false)
 (ih:∀ (k:Nat) {X:Cx}{E:XK},XI false X (lowG G k) E ((aD N ak).map (·.1)) cJ->Good X (lowG G k) E a [body]):aw X G E (.mad ak a) (.Call (.Name "_law_made" p) [.Lambda ⟨[],[],none,[],[],none,[]⟩ body cJ lpos] [] pos):=by
 obtain⟨c,P,q,k,fR,fdR,L⟩:=x.lam hlm;obtain⟨k1,k2,k3⟩:=bS hg;unfold CI at hs;simp only[Á,î,beq_iff_eq,Rp,decide_eq_true_eq] at hs;obtain⟨⟨⟨⟨⟨⟨s1,s2⟩,s3⟩,s4⟩,s5⟩,s6⟩,s7⟩:=hs;have hfree:∀ y∈(aD N ak).map (·.1),cJ.names.lookup y=some .free:=λy hy=>by
  obtain⟨pr,h1,rfl⟩:=Ç.mp hy;exact s6 pr h1
 have fm:LN X cJ ((aD N ak).map (·.1)):=⟨λy hy hf=>by
  have:=s5 y hy;rw[hf] at this;unfold Env.kindOf;rw[L.sco];simpa using this,λy hy=>by simpa using s4 y hy,hfree,s1,s2,s3⟩
 have XL:∀ {t:LT} (A:ö) (outer:List RZ) (s:É) (H3:Hp) (E':XK),t.N=(aD N ak).map (·.1)->t.cJ=cJ->dW k (A.deeper (WK q t.cJ s.heap.objs.size t.f (.ref t.c') t.cl))->XI false (jW X.prog X.w X.K X.mg X.base t.N q t.cJ t.f (.ref t.c') t.cl A outer s H3 E') (lowG G k) E' ((aD N ak).map (·.1)) cJ:=λA outer s H3 E' e1 e2 hr=>by
  rw[e1,e2] at *
  exact { gok:=L.low,num:=x.num,blt:=x.blt,hN:=rfl,nd:=s7,vis:=λy hy=>.inr (.inr (hfree y hy)),glb:=λy h=>h,cel:=λy h=>h,calm:=rfl,room:=hr,pas:=Fh,lam:=λh=>nomatch h }
 refine aF (PE.imp (C7 (pre:=λσ H vs Q=>∃ (t:LT) (ws:List V),vs=[.ref t.f]/\Fi X q H t/\t.cJ=cJ/\t.N=(aD N ak).map (·.1)/\OM X σ t ws /\
  ((∃ (C:Ì) (j:Nat) (RR:Hp->Prop),Raises X q k H t ws (.ref C) RR/\lJ X.K X.mg C j/\∀ H',RR H'->Q .bp H')\/(∃ gv:Hp->VK->Prop,Gives X q k H t ws gv/\gv H Q))) L.fn (L.rm x.room) (x.glb _ k1) L.m L.kp L.bd (hZ (IM (lpos:=lpos) L.code L.hd L.qual rfl L.bm fm.hfr) lE) (λaa σ H s vs Q I pr=>?_) k2 rfl rfl) λσ H Q qq=>?_) rfl
 ·obtain⟨t,ws,e1,lt,el,eN,lv,r⟩:=pr;exact⟨X,t,ws,e1,⟨rfl,rfl,rfl,rfl,rfl⟩,lt.form,⟨lt.fn,lt.rc⟩,lt.frees lv I,r⟩
 ·obtain⟨zA,ρ,z,rr,rel,st,e,po⟩:=qq;have e2:Cf (qf ρ ak) (λρ'=>ev (aI G.F) a ρ') z=some rr:=e;have tab:=st.tab _ L.tb;refine⟨tab,λcl fa c' pm ctv H2 h1 h2 t2 kb nf g1 g2=>?_⟩;have x2:Ext zA H H2:=C6 kb tab t2;have st2:aM zA z H2:=F3 kb tab t2 L.uq st;unfold Cf at e2;cases hcap:qf ρ ak with
  |none=>rw[hcap] at e2;cases e2
  |some ss =>
   rw[hcap] at e2;obtain⟨vs,ra,hvl,hvs⟩:=qV rel hcap hc
   let t:LT:=⟨fa,c',cl,pm,ctv,cJ,body,(aD N ak).map (·.1)⟩
   have lt:Fi X q H2 t:=⟨fm,g1,g2,h1,h2⟩;have lv:OM X σ t vs:=⟨by show vs.length=((aD N ak).map (·.1)).length;rw[Ä];exact hvl,λi y v b1 b2=>by rw[x.hN];exact hvs i y v b1 b2⟩
   have ra2:=pZ.mono ra x2;refine⟨t,vs,rfl,lt,rfl,rfl,lv,?_⟩;dsimp only at e2;split at e2
   ·rename_i cc z2 he;split at e2
    ·rename_i hc12;cases e2;refine .inl ⟨G.cls cc,cc,λH'=>Ext zA H2 H'/\aM zA z2 H',λA outer s H4 hr sm=>?_,L.cls cc hc12,λH1 hRR=>?_⟩
     ·refine⟨_,(az hL (ih k (XL (t:=t) A outer s H4 _ rfl rfl hr))).pe,?_⟩;exact⟨zA,ss.map some,z,_,oK (pZ.mono ra2 (Ext.of sm)),st2.same sm,he,λea H' xx stt hn'=>⟨rfl,(Ext.of sm).trans xx,stt⟩⟩
     ·obtain⟨s',e',po⟩:=po;cases e';exact po _ _ (x2.trans hRR.1) hRR.2 (oo Hd.bp)
    ·cases e2
   ·rename_i l2 z2 he;split at e2
    ·rename_i s2 hs2;cases e2;refine .inr ⟨λH4 Q'=>∀ v H',Ext zA H4 H'->aM zA z2 H'->j6 X.K zA H4 H' s2 v->Q' v H',λA outer s H4 Q' hr sm hq=>?_,λv H5 x5 st5 rv5=>?_⟩
     ·refine⟨_,(az hL (ih k (XL (t:=t) A outer s H4 _ rfl rfl hr))).pe,?_⟩;exact⟨zA,ss.map some,z,_,oK (pZ.mono ra2 (Ext.of sm)),st2.same sm,he,⟨s2,jh hs2,λv H' xx stt rv=>hq v H' xx stt rv⟩⟩
     ·obtain⟨s',e',po⟩:=po;cases e';exact po v H5 (x2.trans x5) st5 (CJ rv5.pl)
    ·cases e2
   ·cases e2
end
theorem eh{env:RZ}{k0:SF}(hk:k0≠.free):∀ {names:List (Str × SF)}{x:Str},names.lookup x=some k0 ->
 (names.map λ(n,k)=>if (k == ù&&env.scope.kind == .function&&env.kindOf n == some .cell) then(n,RD) else(n,k)).lookup x=some k0
 |[],_,h=>by simp at h
 |(n,k)::r,x,h=>by
  have ih:=@eh env k0 hk r x;show SY x ((if (k == ù&&env.scope.kind == .function&&env.kindOf n == some .cell)=true then(n,RD) else(n,k))::_)=_;cases hx:x == n with
  |true =>
   simp only[Qz,hx] at h;cases h;have:(k0 == ù)=false:=by simpa using hk
   rw[this,UI,UI,if_neg Û];simp only[Qz,hx]
  |false =>
   simp only[Qz,hx] at h;by_cases hq:(k == ù&&env.scope.kind == .function&&env.kindOf n == some .cell)=true
   ·rw[if_pos hq];simp only[Qz,hx];exact ih h
   ·rw[if_neg hq];simp only[Qz,hx];exact ih h
section
variable {lm:Bool}{X:Cx}{G:Gs}{E:XK}{N:Zk}{sc dS:tv}{on:Zk}{cs:List (Str × Nat)}
structure C8(dS sc:Scope)(N on:List Str)(cs:List (Str × Nat)):Prop where
 kind:dS.kind=.function
 nocell:∀ y∈dS.names,y.2≠.cell
 locs:∀ y∈dS.names,y.2=.local->dS.names.lookup y.1=some .local
 frees:∀ y∈dS.names,y.2=.free->(sc.names.lookup y.1=some .cell\/sc.names.lookup y.1=some .free)
 captd:∀ p∈cs,N[p.2]?=some p.1/\dS.names.lookup p.1=some .free
 own:∀ x∈on,dS.names.lookup x=some .local
 nd:(on++cs.map (·.1)).Nodup
theorem MA(h:sE dS sc N on cs=true):C8 dS sc N on cs:=by
 unfold sE at h;simp only[Á] at h;obtain⟨⟨⟨⟨⟨⟨h1,h2⟩,h3⟩,h4⟩,h5⟩,h6⟩,h7⟩:=h;rw[Rp] at h2 h3 h4 h5 h6;refine⟨by simpa using h1,λy hy=>by simpa using h2 y hy,λy hy hl=>?_,λy hy hf=>?_,λp hp=>by simpa using h5 p hp,λx hx=>by simpa using h6 x hx,of_decide_eq_true h7⟩
 ·have:=h3 y hy;rw[hl] at this;simpa using this
 ·have:=h4 y hy;rw[hf] at this;simpa using this
def F4(x:XI lm X G E N sc)(c:C8 dS sc N on cs):lF X dS on cs:=⟨c.kind,c.nocell,c.locs,λy hy hf=>x.cel _ (c.frees y hy hf),λp hp=>by rw[x.hN];exact c.captd p hp⟩
theorem y7(x:XI lm X G E N sc)(c:C8 dS sc N on cs)(cl:List (Str × Ì))(C:Ì)(s:É)(H:Hp)(fp:Zr):XI false (aZ X (bj on cs) dS cl C s H fp) G EF (on++cs.map (·.1)) dS where
 gok:=x.gok
 num:=x.num
 blt:=x.blt
 hN:=rfl
 nd:=c.nd
 vis:=λy hy=>by
  rcases ë.mp hy with h | h
  ·exact .inl (eh 1e1 (c.own y h))
  ·obtain⟨p,hp,rfl⟩:=Ç.mp h;rcases ic (env:=X.env) (c.captd p hp).2 with h | h
   ·exact .inr (.inl h)
   ·exact .inr (.inr h)
 glb:=λy hy=>eh 1e1 hy
 cel:=λy hy=>by
  rcases hy with h | h
  ·exact .inl (eh 1e1 h)
  ·exact ic (env:=X.env) h
 calm:=x.calm
 room:=x.room
 pas:=IL
 lam:=λh=>nomatch h
theorem C9(x:XI lm X G E N sc)(c:C8 dS sc N on cs)(cl:List (Str × Ì))(C:Ì)(s:É)(H:Hp)(fp:Zr):yR (aZ X (bj on cs) dS cl C s H fp) (on++cs.map (·.1)) (λy=>on.contains y) where
 hN:=rfl
 nd:=c.nd
 lc:=λy hy=>.inl (eh 1e1 (c.own y (by simpa using hy)))
 fn:=λy hy=>.inr (eh 1e1 (c.own y (by simpa using hy)))
 calm:=x.calm
theorem vn:∀ {ak:Zh},(aD N ak).length=ak.length->(aD N ak).map (·.2)=ak
 |[],_=>rfl
 |i::r,h=>by
  have le:∀ l:Zh,(aD N l).length<=l.length:=by
   intro l
   induction l with
   |nil=>exact Ñ _
   |cons j q ih =>
    unfold aD;split
    ·rw[Ü,Ü];omega
    ·rw[Ü];omega
  unfold aD at h ⊢;split at h
  ·rename_i y hy;rw[Ü,Ü] at h;rw[QS,vn ∅]
  ·have:=le r;rw[Ü] at h;omega
theorem Dc(rel:eP X.K zA H ρ σ)(h:cs.map (·.2)=ak):eP X.K zA H (Sf on.length none++ak.map λi=>(ρ[i]?).getD none) (fw on cs σ) /\
  (Sf on.length (none:Option S)++ak.map λi=>(ρ[i]?).getD none).length=(fw on cs σ).length:=by
 subst h;constructor
 ·intro j s e;unfold fw;by_cases hj:j < on.length
  ·rw[Sb (by simpa using hj)] at e
   simp[Ue,hj] at e
  ·rw[QJ (by simpa using hj),Xc,Ø,Ø] at e
   rw[QJ (by simpa using hj),Ä,Ø]
   cases hp:cs[j - on.length]? with
   |none=>rw[hp] at e;simp at e
   |some p =>
    rw[hp] at e;simp only[map_some,Sk] at e;have e2:ρ[p.2]?=some (some s):=by
     cases hr:ρ[p.2]? with
     |none=>rw[hr] at e;cases e
     |some o=>rw[hr] at e;exact congrArg some e
    obtain⟨v,h1,h2⟩:=rel p.2 s e2;exact⟨v,by simp[h1],h2⟩
 ·unfold fw;simp
theorem y8(h:iT e=true)(env:RZ)(x:Å):SU e env x=pure x:=by
 cases e with
 |Set _ _ _=>cases h
 |_=>rfl
def lT(X:Cx)(G:Gs)(E:XK)(x:Ex)(elt tg iter:Ù)(ifs:Zm)(dS:tv):Prop:=∃ (own:Zk) (ak:List (Str × Nat)) (wi:TI) (g:TG) (tt:TT) (te:TE),lF X dS own ak/\PI X tg iter wi /\
 (∀ cl C s H fp,PG (aZ X (bj own ak) dS cl C s H fp) tg g)/\(∀ cl C s H fp,Iu (aZ X (bj own ak) dS cl C s H fp) ifs tt)/\(∀ cl C s H fp,PE (aZ X (bj own ak) dS cl C s H fp) elt te) /\
 (∀ x,SU iter X.env x=pure x)/\∀ σ H Q,tI X.K G E x σ H Q->BF own ak wi g tt te σ H Q
theorem MB(x:XI lm X G E N sc){p:gN}{it:It}{src cond el:Ex}{ak:Zh}{elt tg iter:Ù}{ifs:Zm}(c:C8 dS sc N on cs)(hcap:cs.map (·.2)=ak)(hp:cU (on++cs.map (·.1)) (λy=>on.contains y) p tg=true)
  (hi:PI X tg iter (Et X.K G E it src)) (hns:iT iter=true) (hc:(cond=.nil/\ifs=[])\/∃ q f,cond=.cons q .nil/\ifs=[f]/\∀ cl C s H fp,PT (aZ X (bj on cs) dS cl C s H fp) f (tT X.K G EF q))
  (he:∀ cl C s H fp,PE (aZ X (bj on cs) dS cl C s H fp) elt (tI X.K G EF el)):lT X G E (.comp on.length ak p it src cond el) elt tg iter ifs dS:=by
 have ht:∀ cl C s H fp,Iu (aZ X (bj on cs) dS cl C s H fp) ifs (NM X.K G cond):=by
  rcases hc with ⟨rfl,rfl⟩ | ⟨q,f,rfl,rfl,h⟩
  ·exact λcl C s H fp=>EY
  ·exact λcl C s H fp=>EZ (h cl C s H fp)
 refine⟨on,cs,Et X.K G E it src,gP X.K p,NM X.K G cond,tI X.K G EF el,F4 x c,hi,λcl C s H fp=>vf (C9 x c cl C s H fp) hp,ht,he,y8 hns X.env,λσ H Q q=>?_⟩;obtain⟨zA,ρ,z,rr,rel,st,e,po⟩:=q;have e0:Zd (ev G.F src ρ) (λl=>Zd (Zf ((iZ l).bind (uc it))) λxs=>if xs.length<=most then Zd (M.calm (turns (eX (ev G.F cond) (ev G.F el) p (Sf on.length none++ak.map λi=>(ρ[i]?).getD none)) xs)) λys=>Ze [.fr ys] else Zg) z=some rr:=e;rcases M.bind_some e0 with ⟨m,z1,e1,e2⟩ | ⟨k,z1,e1,e2⟩
 ·obtain⟨xs,hx,e3⟩:=M.ag e2;refine⟨zA,ρ,z,_,rel,st,e1,xs,hx,λJ H1 x1 aY IT'=>?_⟩;have IT:=IT'.ok;split at e3
  ·rename_i hm;rcases M.bind_some e3 with ⟨ys,z2,e4,e5⟩ | ⟨k,z2,e4,e5⟩
   ·cases e5;have e6:turns (eX (ev G.F cond) (ev G.F el) p (Sf on.length none++ak.map λi=>(ρ[i]?).getD none)) xs z1=some (.ok ys z2):=by
     unfold M.calm at e4;split at e4
     ·rename_i h;cases e4;exact h
     ·cases e4
    obtain⟨r1,r2⟩:=Dc (on:=on) (rel.mono x1) hcap;refine FZ IT hm r1 r2 aY (by rcases hc with ⟨h,_⟩ | ⟨q,_,h,_⟩;exact .inl h;exact .inr ⟨q,h⟩) e6 λH2 vs l x2 st2 hd hl=>?_
    exact cB po (x1.trans x2) st2 _ _ (af.new _ hl) (ir st2 hd hl)
   ·unfold M.calm at e4;split at e4 <;> cases e4
  ·cases e3
 ·exact⟨zA,ρ,z,_,rel,st,e1,(b9 po) k z1 e2⟩
theorem lT.good(hc:X.calm=true)(h:lT X G E x elt tg iter ifs dS):aw X G E x (.ListComp elt [⟨tg,iter,ifs,0⟩] dS pos):=by
 obtain⟨own,ak,wi,g,tt,te,h1,h2,h3,h4,h5,h6,h7⟩:=h;exact aF (PE.imp (E1 hc h1 h2 h3 h4 h5 h6) h7) rfl
theorem aG(h:(!bV x)=true):bV x=false:=by simpa using h
theorem y9(hL:bV x=true)(g:Good X G E x [e]):∃ a,x=.cons a .nil/\aw X G E a e:=by
 cases x with
 |nil=>cases (show [e]=[] from g)
 |cons a r =>
  obtain⟨e',es,h,ns,ga,lr,gr⟩:=g;cases h;cases r with
  |nil=>exact⟨a,rfl,ga⟩|cons b q=>obtain⟨e,es,h,_⟩:=gr;cases h
  |_=>cases lr
 |_=>cases hL
theorem qW{lm:Bool}{G:Gs}{own:Nat}{ak:Zh}{p:gN}{it:It}{src cond el:Ex}(ihs:(∀ {X:Cx}{E:XK}{N:Zk}{sc:tv},XI lm X G E N sc->∀ {es:Zm},mt lm G.fns G.nums src sc N es=true->Good X G E src es))(ihc:(∀ {X:Cx}{E:XK}{N:Zk}{sc:tv},XI false X G E N sc->∀ {es:Zm},mt false G.fns G.nums cond sc N es=true->Good X G E cond es))(ihe:(∀ {X:Cx}{E:XK}{N:Zk}{sc:tv},XI false X G E N sc->∀ {es:Zm},mt false G.fns G.nums el sc N es=true->Good X G E el es))
 {X:Cx}{E:XK}{N:Zk}{sc:tv} (x:XI lm X G E N sc) {elt tg iter:Ù}{ifs:Zm}{dS:tv} (h:(bG tg).length == own&&(aD N ak).length == ak.length&&sE dS sc N (bG tg) (aD N ak)&&cU (bG tg++(aD N ak).map (·.1)) (λx=>(bG tg).contains x) p tg&&bV src&&!bV el&&bV cond&&ifs.length<=1&&noStar elt&&iT iter&&ifs.all (λc=>!FJ c) &&
    (match it with
    |.seq=>mt lm G.fns G.nums src sc N [iter]|.rng1=>opt (AA iter) λr=>r.1.1 == ("range":Str)&&glob sc r.1.1&&mt lm G.fns G.nums src sc N [r.1.2.2.1]|.rng2=>opt (AB iter) λr=>r.1.1 == ("range":Str)&&glob sc r.1.1&&mt lm G.fns G.nums src sc N [r.1.2.2.1,r.1.2.2.2.1]|.zip=>opt (AB iter) λr=>r.1.1 == ("zip":Str)&&glob sc r.1.1&&ef tg&&mt lm G.fns G.nums src sc N [r.1.2.2.1,r.1.2.2.2.1]|.enum=>opt (AA iter) λr=>r.1.1 == ("enumerate":Str)&&glob sc r.1.1&&ef tg&&mt lm G.fns G.nums src sc N [r.1.2.2.1]
    )&&mt false G.fns G.nums cond dS (bG tg++(aD N ak).map (·.1)) ifs&&mt false G.fns G.nums el dS (bG tg++(aD N ak).map (·.1)) [elt]):lT X G E (.comp own ak p it src cond el) elt tg iter ifs dS:=by
 simp only[Á,beq_iff_eq,decide_eq_true_eq] at h;obtain⟨⟨⟨⟨⟨⟨⟨⟨⟨⟨⟨⟨⟨h1,h2⟩,h3⟩,h4⟩,h5⟩,h6⟩,h7⟩,h8⟩,h9⟩,h10⟩,h11⟩,h12⟩,h13⟩,h14⟩:=h;subst h1;have c:=MA h3;have hi:PI X tg iter (Et X.K G E it src):=by
  cases it with
  |seq =>
   obtain⟨a,rfl,ga⟩:=y9 h5 (ihs x h12);exact C3 ga
  |rng1 =>
   obtain⟨⟨⟨n,_,a,_⟩,rfl⟩,-,h12⟩:=ao h12;simp only[Á,beq_iff_eq] at h12;exact yX x h12.1.1 h12.1.2 h5 (ihs x h12.2)
  |rng2 =>
   obtain⟨⟨⟨n,_,a,b,_⟩,rfl⟩,-,h12⟩:=ao h12;simp only[Á,beq_iff_eq] at h12;exact yY x h12.1.1 h12.1.2 h5 (ihs x h12.2)
  |zip =>
   obtain⟨⟨⟨n,_,a,b,_⟩,rfl⟩,-,h12⟩:=ao h12;simp only[Á,beq_iff_eq] at h12;exact y4 x h12.1.2 h12.1.1.1 h12.1.1.2 h5 (ihs x h12.2)
  |enum =>
   obtain⟨⟨⟨n,_,a,_⟩,rfl⟩,-,h12⟩:=ao h12;simp only[Á,beq_iff_eq] at h12;exact vm x h12.1.2 h12.1.1.1 h12.1.1.2 h5 (ihs x h12.2)
 have hc:(cond=.nil/\ifs=[])\/∃ q f,cond=.cons q .nil/\ifs=[f]/\∀ cl C s H fp,PT (aZ X (bj (bG tg) (aD N ak)) dS cl C s H fp) f (tT X.K G EF q):=by
  match ifs,h8,h11,h13 with
  |[],_,_,h13 =>
   cases cond with
   |nil=>exact .inl ⟨rfl,rfl⟩|cons a r=>cases h13
   |_=>cases h7
  |[f],_,h11,h13 =>
   cases cond with
   |nil=>cases h13
   |cons a r =>
    have h13':(noStar f&&!bV a&&bV r&&mt false G.fns G.nums a dS (bG tg++(aD N ak).map (·.1)) [f]&&mt false G.fns G.nums r dS (bG tg++(aD N ak).map (·.1)) [])=true:=h13;simp only[Á] at h13';have rn:r=.nil:=by
     cases r with
     |nil=>rfl|cons b q=>cases h13'.2
     |_=>cases h13'.1.1.2
    subst rn;simp only[Rh,Xk,RL] at h11;refine .inr ⟨a,f,rfl,rfl,λcl C s H fp=>?_⟩;obtain⟨e',es,he,ns,ga,lr,gr⟩:=ihc (y7 x c cl C s H fp) h13;cases he;exact ga.pt (xu h11)
   |_=>cases h7
 refine MB x c (vn h2) h4 hi h10 hc λcl C s H fp=>?_;exact(az (aG h6) (ihe (y7 x c cl C s H fp) h14)).pe
theorem JN:∀ (t:Ex) {lm:Bool}{G:Gs}{X:Cx}{E:XK}{N:Zk}{sc:tv},XI lm X G E N sc->∀ {es:Zm},mt lm G.fns G.nums t sc N es=true->Good X G E t es:=by
 intro t
 induction t with
 |nil =>
  intro lm G X E N sc x es h;exact Ud.mp h
 |cons a r iha ihr =>
  intro lm G X E N sc x es h;cases es with
  |nil=>cases h
  |cons e es =>
   have h:(noStar e&&!bV a&&bV r&&mt lm G.fns G.nums a sc N [e]&&mt lm G.fns G.nums r sc N es)=true:=h;simp only[Á] at h;obtain⟨⟨⟨⟨h1,h2⟩,h3⟩,h4⟩,h5⟩:=h;exact⟨e,es,rfl,h1,az (aG h2) (iha x h4),h3,ihr x h5⟩
 |var i =>
  intro lm G X E N sc x es h;obtain⟨⟨q,rfl⟩,-,h⟩:=ao h;simp only[Á,beq_iff_eq] at h;exact aR rfl (Mg x h.1 h.2)
 |con d =>
  intro lm G X E N sc x es h;rcases (QL _ _).mp h with h | h
  ·obtain⟨⟨q,rfl⟩,-,h⟩:=ao h;exact aR rfl (Mh h)
  ·obtain⟨⟨p,rfl⟩,-,h⟩:=ao h;cases d with
   |dct=>exact aR rfl Mi|_=>cases h
 |gint g i =>
  intro lm G X E N sc x es h;obtain⟨⟨⟨n,p⟩,rfl⟩,-,h⟩:=ao h;simp only[Á,beq_iff_eq,Qu] at h;obtain⟨⟨rfl,h2⟩,h3⟩:=h;exact aR rfl (Jr x h2 h3)
 |tup as ih =>
  intro lm G X E N sc x es h;obtain⟨⟨q,rfl⟩,-,h⟩:=ao h;simp only[Á] at h;exact aR rfl (Mj h.1 (ih x h.2))
 |lst as ih =>
  intro lm G X E N sc x es h;obtain⟨⟨q,rfl⟩,-,h⟩:=ao h;simp only[Á] at h;exact aR rfl (Mk h.1 (ih x h.2))
 |bin o a b iha ihb =>
  intro lm G X E N sc x es h;obtain⟨⟨⟨l,op,r,p⟩,rfl⟩,-,h⟩:=ao h;simp only[Á,beq_iff_eq] at h;obtain⟨⟨⟨⟨rfl,h2⟩,h3⟩,h4⟩,h5⟩:=h;exact aR rfl (Ml (az (aG h2) (iha x h4)) (az (aG h3) (ihb x h5)))
 |cmp o a b iha ihb =>
  intro lm G X E N sc x es h;obtain⟨⟨⟨l,op,r,p⟩,rfl⟩,-,h⟩:=ao h;simp only[Á,beq_iff_eq] at h;obtain⟨⟨⟨⟨⟨rfl,h1⟩,h2⟩,h3⟩,h4⟩,h5⟩:=h;exact aR rfl (Mm x h1 (az (aG h2) (iha x h4)) (az (aG h3) (ihb x h5)))
 |neg a ih =>
  intro lm G X E N sc x es h;obtain⟨⟨q,rfl⟩,-,h⟩:=ao h;simp only[Á] at h;exact aR rfl (Mn (az (aG h.1) (ih x h.2)))
 |not a ih =>
  intro lm G X E N sc x es h;obtain⟨⟨q,rfl⟩,-,h⟩:=ao h;simp only[Á] at h;obtain⟨⟨h1,h2⟩,h3⟩:=h;exact aR rfl (Mo (az (aG h1) (ih x h3)) (xu h2))
 |and a b iha ihb =>
  intro lm G X E N sc x es h;obtain⟨⟨⟨l,r,vs,p⟩,rfl⟩,-,h⟩:=ao h;simp only[Á] at h;obtain⟨⟨⟨⟨h1,h2⟩,h3⟩,h4⟩,h5⟩:=h;refine aR rfl (Mp (az (aG h1) (iha x h4)) (xu h3) ?_);cases vs with
  |nil =>
   rw[if_pos (show([]:Zm).isEmpty=true from rfl),Á] at h5;exact He (az (aG h2) (ihb x h5.2)) (xu h5.1)
  |cons v vs =>
   rw[if_neg (by exact Û)] at h5
   exact az (aG h2) (ihb x h5)
 |or a b iha ihb =>
  intro lm G X E N sc x es h;obtain⟨⟨⟨l,r,vs,p⟩,rfl⟩,-,h⟩:=ao h;simp only[Á] at h;obtain⟨⟨⟨⟨h1,h2⟩,h3⟩,h4⟩,h5⟩:=h;refine aR rfl (O2 (az (aG h1) (iha x h4)) (xu h3) ?_);cases vs with
  |nil =>
   rw[if_pos (show([]:Zm).isEmpty=true from rfl),Á] at h5;exact He (az (aG h2) (ihb x h5.2)) (xu h5.1)
  |cons v vs =>
   rw[if_neg (by exact Û)] at h5
   exact az (aG h2) (ihb x h5)
 |orT a b iha ihb =>
  intro lm G X E N sc x es h;obtain⟨⟨⟨l,r,vs,p⟩,rfl⟩,-,h⟩:=ao h;simp only[Á] at h;obtain⟨⟨⟨⟨h1,h2⟩,h3⟩,h4⟩,h5⟩:=h;cases vs with
  |nil=>exact aR rfl (Mq (az (aG h1) (iha x h4)) (az (aG h2) (ihb x h5)))|cons v vs=>cases h3
 |ite c a b ihc iha ihb =>
  intro lm G X E N sc x es h;obtain⟨⟨q,rfl⟩,-,h⟩:=ao h;simp only[Á] at h;obtain⟨⟨⟨⟨⟨⟨h1,h2⟩,h3⟩,h4⟩,h5⟩,h6⟩,h7⟩:=h;exact aR rfl (Mr (az (aG h1) (ihc x h5)) (xu h4) (az (aG h2) (iha x h6)) (az (aG h3) (ihb x h7)))
 |ch o o' a b c iha ihb ihc =>
  intro lm G X E N sc x es h;obtain⟨⟨⟨l,op,op',r,s,p⟩,rfl⟩,-,h⟩:=ao h;simp only[Á,beq_iff_eq] at h;obtain⟨⟨⟨⟨⟨⟨⟨⟨rfl,rfl⟩,h1⟩,h2⟩,h3⟩,h4⟩,h5⟩,h6⟩,h7⟩:=h;exact aR rfl (O3 x h1 (az (aG h2) (iha x h5)) (az (aG h3) (ihb x h6)) (az (aG h4) (ihc x h7)))
 |bf f as ih =>
  intro lm G X E N sc x es h;rcases (QL _ _).mp h with h | h
  rotate_left
  ·rw[Á] at h;obtain⟨hf,h⟩:=h;obtain⟨⟨⟨n,p1,m,p2,e,p3,p4⟩,rfl⟩,-,h⟩:=ao h;simp only[Á,beq_iff_eq] at h;obtain⟨⟨⟨⟨⟨h1,h2⟩,h3⟩,h4⟩,h5⟩,h6⟩:=h;have h1:n="sorted":=h1;have h2:m="set":=h2;subst h1;subst h2;cases f with
   |sset=>exact aR rfl (FP x h3 h4 h5 (ih x h6))|_=>cases hf
  obtain⟨⟨q,rfl⟩,-,h⟩:=ao h;simp only[Á,beq_iff_eq] at h;obtain⟨⟨⟨⟨h1,h2⟩,h3⟩,h4⟩,h5⟩:=h;exact aR rfl (O4 x h1 h2 h3 h4 (ih x h5))
 |isi t a ih =>
  intro lm G X E N sc x es h;obtain⟨⟨⟨n,q,e,ty,p⟩,rfl⟩,-,h⟩:=ao h;simp only[Á,beq_iff_eq] at h;obtain⟨⟨⟨⟨⟨h1,h2⟩,h3⟩,h4⟩,h5⟩,h6⟩:=h;have g:=az (aG h4) (ih x h5);refine aR rfl ?_;have one:∀ t:Ty,t≠.seq->(opt (PZ ty) λq=>q.1.1 == QH (Ax t)&&glob sc (QH (Ax t)))=true->aw X G E (.isi t a) (.Call (.Name n q) [e,ty] [] p):=λt hs h6=>by
   obtain⟨⟨⟨a,_⟩,rfl⟩,-,h6⟩:=ao h6;simp only[Á,beq_iff_eq] at h6;obtain⟨rfl,k1⟩:=h6;exact JA x hs k1 h1 h2 h3 g
  cases t with
  |seq =>
   cases h6
  |_=>exact one _ (λh=>by cases h) h6
 |idx a i iha ihi =>
  intro lm G X E N sc x es h;obtain⟨⟨q,rfl⟩,-,h⟩:=ao h;simp only[Á] at h;obtain⟨⟨⟨⟨h1,h2⟩,h3⟩,h4⟩,h5⟩:=h;exact aR rfl (Mt h1 (az (aG h2) (iha x h4)) (az (aG h3) (ihi x h5)))
 |sl a lo hi iha ihl ihh =>
  intro lm G X E N sc x es h;obtain⟨⟨q,rfl⟩,-,h⟩:=ao h;simp only[Á] at h;obtain⟨⟨⟨⟨⟨h1,h2⟩,h3⟩,h4⟩,h5⟩,h6⟩:=h;exact aR rfl (O7 (az (aG h1) (iha x h4)) h2 h3 (ihl x h5) (ihh x h6))
 |call f as ih =>
  intro lm G X E N sc x es h;obtain⟨⟨⟨n,q,e,l,p⟩,rfl⟩,-,h⟩:=ao h;simp only[Á] at h;obtain⟨⟨⟨h1,h2⟩,h3⟩,h4⟩:=h;obtain⟨pr,hf,h1'⟩:=ao h1;simp only[Á,beq_iff_eq] at h1';obtain⟨rfl,h7⟩:=h1';exact aR rfl (s_call x hf h7 h2 h3 (ih x h4))
 |comp own ak p it src cond el ihs ihc ihe =>
  intro lm G X E N sc x es h;obtain⟨⟨q,rfl⟩,-,h⟩:=ao h;exact aR rfl ((qW ihs ihc ihe x h).good x.calm)
 |lrng b as ih =>
  intro lm G X E N sc x es h;obtain⟨⟨⟨n,p,m,q,a,r,t⟩,rfl⟩,-,h⟩:=ao h;simp only[Á,beq_iff_eq] at h;obtain⟨⟨⟨⟨⟨⟨h1,h2⟩,h3⟩,h4⟩,h5⟩,h7⟩,h6⟩:=h;subst h1;subst h2;cases a with
  |nil=>simp at h7|cons a l=>exact aR rfl (JD x h3 h4 h5 (ih x h6))
 |zget i k =>
  intro lm G X E N sc x es h;obtain⟨⟨⟨n,p,j,c,q,r⟩,rfl⟩,-,h⟩:=ao h;simp only[Á,beq_iff_eq] at h;obtain⟨⟨h1,h2⟩,h3⟩:=h;have h3:j=(k:Int):=h3;subst h3;exact aR rfl (JB x h1 h2)
 |mad ak a ih =>
  intro lm G X E N sc x es h;obtain⟨⟨⟨n,p,body,cJ,lpos,pos⟩,rfl⟩,-,h⟩:=ao h;simp only[Á,beq_iff_eq] at h;obtain⟨⟨⟨⟨⟨⟨h1,h2⟩,h3⟩,h4⟩,h5⟩,h6⟩,h7⟩:=h;have h2:n="_law_made":=h2;subst h2;exact aR rfl (Mz x h1 h3 h4 h5 (aG h6) λk X E xl=>ih xl h7)
def sound(G:Gs)(t:Ex)(x:XI lm X G E N sc)(h:mt lm G.fns G.nums t sc N es=true):Good X G E t es:=JN t x h
end
open Classical in
def hw(ow:Nat->Zl)(H:Hp):Hp:=λb=>if ∃ i,ow i=some b then none else H b
section
variable {K:Â}{ow:Nat->Zl}{H H':Hp}
theorem eL:af (hw ow H) H:=λb o e=>by
 unfold hw at e;split at e
 ·cases e
 ·exact e
theorem dz(h:H b=some o)(n:∀ i,ow i≠some b):hw ow H b=some o:=by
 unfold hw;rw[if_neg (λ⟨i,e⟩=>n i e)];exact h
theorem jj(h:hw ow H b=some o):H b=some o/\∀ i,ow i≠some b:=by
 refine⟨eL b o h,λi e=>?_⟩;unfold hw at h;rw[if_pos ⟨i,e⟩] at h;cases h
def bA(e:af H H'):af (hw ow H) (hw ow H'):=λb o h=>by
 obtain⟨h1,h2⟩:=jj h;exact dz (e b o h1) h2
theorem jH:hw (λ_=>none) H=H:=by
 funext b
 unfold hw;rw[if_neg (λ⟨i,e⟩=>by cases e)]
theorem xB(h:dU K H a xs)(hl:∀ i b,ow i=some b->∃ ys,H b=some (.lst ys)):dU K (hw ow H) a xs:=by
 rcases h with (h | ⟨o,h⟩) | h
 ·refine .inl (.inl (dz h λi e=>?_));obtain⟨ys,q⟩:=hl i a e;rw[h] at q;cases q
 ·refine .inl (.inr ⟨o,dz h λi e=>?_⟩);obtain⟨ys,q⟩:=hl i a e;rw[h] at q;cases q
 ·exact .inr h
mutual
theorem kR(hl:∀ i b,ow i=some b->∃ ys,H b=some (.lst ys)):∀ {d:D}{v:V},bare d=true->Hd K H d v->Hd K (hw ow H) d v
 |.bp,_,_,h=>by rw[h.Fq];exact Hd.bp|.bl _,_,_,h=>by rw[h.yG];exact Hd.bl|.int _,_,_,h=>by rw[h.bK];exact Hd.int|.str _,_,_,h=>by rw[h.IS];exact Hd.str
 |.tup l,_,b,h=>by
  obtain⟨a,xs,rfl,h1,h2⟩:=h.fE;exact Hd.tup (xB h1 hl) (kS hl (by simpa [bare] using b) h2)
 |.lst _,_,b,_=>by cases b
 |.dct,_,b,_=>by cases b
theorem kS(hl:∀ i b,ow i=some b->∃ ys,H b=some (.lst ys)):∀ {ds:List D}{vs:List V},bo ds=true->aK K H ds vs->aK K (hw ow H) ds vs
 |[],_,_,h=>by rw[h.bN];exact .nil
 |d::ds,_,b,h=>by
  obtain⟨x,r,rfl,h1,h2⟩:=h.aN;simp only[bo,Á] at b;exact .cons (kR hl b.1 h1) (kS hl b.2 h2)
end
end
def Eu(K:Â)(zA:Zl)(ow:Nat->Zl)(H:Hp)(i:Nat):S->V->Prop
 |.d x,v=>ow i=none/\Hd K (hw ow (hz zA H)) x v|.fr xs,v=>∃ a ys,ow i=some a/\v=.ref a/\H a=some (.lst ys)/\aK K (hw ow (hz zA H)) xs ys|.z,v=>ow i=none/\∃ a,zA=some a/\v=.ref a
structure RW(K:PySem.W.Frag)(H0:Hp)(zE zA:Option Addr)(ow:Nat->Option Addr)(H:Hp)(ρ:Env)(σ:L2.St):Prop where
 len:ρ.length=σ.length
 inj:∀ i j a,ow i=some a->ow j=some a->i=j
 zne:∀ i a,ow i=some a->zA≠some a
 own:∀ i a,ow i=some a->∃ xs,ρ[i]?=some (some (.fr xs))
 wor:∀ i s,ρ[i]?=some (some s)->∃ v,σ[i]?=some (some v)/\Eu K zA ow H i s v
 ext:Ext zE H0 H
 zok:zA=zE\/(zE=none/\∀ a,zA=some a->H0 a=none)
 new:∀ i a,ow i=some a->H0 a=none
section
variable {K:Â}{H0 H H':Hp}{zE zA:Zl}{ow:Nat->Zl}{ρ:Env}{σ:L2.St}
def RW.lst(r:RW K H0 zE zA ow H ρ σ):∀ i a,ow i=some a->∃ ys,H a=some (.lst ys):=λi a e=>by
 obtain⟨xs,h⟩:=r.own i a e;obtain⟨v,h1,a',ys,h2,h3,h4,h5⟩:=r.wor i _ h;rw[e] at h2;cases h2;exact⟨ys,h4⟩
def RW.vo(r:RW K H0 zE zA ow H ρ σ):∀ i a,ow i=some a->∃ ys,hz zA H a=some (.lst ys):=λi a e=>by
 obtain⟨ys,h⟩:=r.lst i a e;exact⟨ys,bw h (r.zne i a e)⟩
theorem Eu.pl{i:Nat}{s:S}{v:V}(h:Eu K zA ow H i s v)(hz':∀ a,ow i=some a->zA≠some a):wy K zA H s v:=by
 cases s with
 |d x=>exact h.2.same eL|z=>exact h.2
 |fr xs =>
  obtain⟨a,ys,h1,rfl,h3,h4⟩:=h;exact Hd.lst (bw h3 (hz' a h1)) (h4.same eL)
def RW.iz(r:RW K H0 zE zA ow H ρ σ):eP K zA H ρ σ:=λi s e=>by
 obtain⟨v,h1,h2⟩:=r.wor i s e;exact⟨v,h1,h2.pl λa q=>r.zne i a q⟩
theorem Eu.mono{i:Nat}{s:S}{v:V}(h:Eu K zA ow H i s v)(hz':∀ a,ow i=some a->zA≠some a)(x:Ext zA H H'):Eu K zA ow H' i s v:=by
 cases s with
 |d y=>exact⟨h.1,h.2.same (bA x)⟩|z=>exact h
 |fr xs =>
  obtain⟨a,ys,h1,rfl,h3,h4⟩:=h;exact⟨a,ys,h1,rfl,x.at h3 (hz' a h1),h4.same (bA x)⟩
def De(zA:Zl)(H:Hp):af (hz zA H) (hz none H):=λ_ _ h=>bw (fF h).1 (λq=>nomatch q) (gA h)
theorem xC(e:Ext zE H0 H)(zok:zA=zE\/(zE=none/\∀ a,zA=some a->H0 a=none))(x:Ext zA H H'):Ext zE H0 H':=by
 rcases zok with rfl | ⟨rfl,hn⟩
 ·exact e.trans x
 ·refine⟨λb o h=>?_,λb ps h=>let ⟨qs,q⟩:=e.tbl b ps h;x.tbl b qs q⟩;have h1:=e.same b o h;refine bw (x.at (fF h1).1 (λq=>?_) (gA h1)) (λq=>nomatch q) (gA h1);have h0:=(fF h).1;rw[hn b q] at h0;cases h0
def RW.mono(r:RW K H0 zE zA ow H ρ σ)(x:Ext zA H H'):RW K H0 zE zA ow H' ρ σ:=
 ⟨r.len,r.inj,r.zne,r.own,λi s e=>let ⟨v,h1,h2⟩:=r.wor i s e;⟨v,h1,h2.mono (λa q=>r.zne i a q) x⟩,xC r.ext r.zok x,r.zok,r.new⟩
theorem RW.young(r:RW K H0 zE zA ow H ρ σ)(h:H a=none)(n:zA≠some a):H0 a=none/\zE≠some a:=by
 have hE:zE≠some a:=λq=>by
  rcases r.zok with rfl | ⟨rfl,_⟩
  ·exact n q
  ·cases q
 exact⟨r.ext.free h hE,hE⟩
theorem RW.out(r:RW K H0 zE zA ow H ρ σ){s:S}{v:V}(hs:s≠.z)(x:Ext zA H H')(h:j6 K zA H H' s v):j6 K zE H0 H' s v:=by
 have sm:af (hz zA H') (hz zE H'):=by
  rcases r.zok with rfl | ⟨rfl,_⟩
  ·exact af.refl _
  ·exact De _ _
 cases s with
 |d y=>exact Hd.same sm h|z=>exact absurd rfl hs
 |fr xs =>
  obtain⟨a,ys,rfl,h1,h2,h3,h4⟩:=h;obtain⟨k1,k2⟩:=r.young h1 h2;exact⟨a,ys,rfl,k1,k2,h3,h4.same (lI λb o _ q=>sm b o q)⟩
theorem RW.O8(r:RW K H0 zE zA ow H ρ σ){i:Nat}{s:S}(hs:s≠.z)(e:ρ[i]?=some (some s)):∃ v,σ[i]?=some (some v)/\j6 K zE H0 H s v:=by
 obtain⟨v,h1,h2⟩:=r.wor i s e;have sm:af (hz zA H) (hz zE H):=by
  rcases r.zok with rfl | ⟨rfl,_⟩
  ·exact af.refl _
  ·exact De _ _
 refine⟨v,h1,?_⟩;cases s with
 |d y=>exact Hd.same (af.trans eL sm) h2.2|z=>exact absurd rfl hs
 |fr xs =>
  obtain⟨a,ys,k1,rfl,k3,k4⟩:=h2;have n:=r.zne i a k1;have hE:zE≠some a:=λq=>by
   rcases r.zok with rfl | ⟨rfl,_⟩
   ·exact n q
   ·cases q
  refine⟨a,ys,rfl,r.new i a k1,hE,k3,k4.same λb o q=>?_⟩;obtain⟨q1,q2⟩:=jj q;exact n5 (sm b o q1) λz=>q2 i (by rw[z];exact k1)
theorem RW.kj(r:RW K H0 zE zA ow H ρ σ):RW K H0 zE zA (λ_=>none) H (kj ρ) σ:=by
 refine⟨by unfold Q.kj;rw[Ä];exact r.len,λi j a h=>(by cases h),λi a h=>(by cases h),λi a h=>(by cases h),λi s e=>?_,r.ext,r.zok,λi a h=>(by cases h)⟩
 unfold Q.kj at e;rw[Ø] at e;obtain⟨o,e1,e2⟩:=Ð.mp e;cases o with
 |none=>cases e2
 |some s0 =>
  cases e2;obtain⟨v,h1,h2⟩:=r.iz i s0 e1;refine⟨v,h1,?_⟩;cases s0 with
  |d y=>exact⟨rfl,by rw[jH];exact h2⟩|fr xs=>exact⟨rfl,by rw[jH];exact h2⟩|z=>exact⟨rfl,h2⟩
def nA(ow:Nat->Zl)(i:Nat):Nat->Option Addr:=λj=>if j=i then none else ow j
def Dg(ow:Nat->Zl)(i:Nat)(a:Ì):Nat->Option Addr:=λj=>if j=i then some a else ow j
theorem Eu.move{ow':Nat->Zl}{j:Nat}{s:S}{v:V}(h:Eu K zA ow H j s v)(e:ow' j=ow j)(sm:af (hw ow (hz zA H)) (hw ow' (hz zA H')))(hk:∀ a,ow j=some a->H' a=H a):Eu K zA ow' H' j s v:=by
 cases s with
 |d y=>exact⟨by rw[e];exact h.1,h.2.same sm⟩|z=>exact⟨by rw[e];exact h.1,h.2⟩
 |fr xs =>
  obtain⟨a,ys,h1,rfl,h3,h4⟩:=h;exact⟨a,ys,by rw[e];exact h1,rfl,by rw[hk a h1];exact h3,h4.same sm⟩
theorem getElem?_set'{α:Type}{l:List α}{i j:Nat}{x y:α}(h:(l.set i x)[j]?=some y):(j=i/\y=x/\i < l.length)\/(j≠i/\l[j]?=some y):=by
 by_cases hj:j=i
 ·subst hj;have hlt:j < l.length:=by
   have:=(ç.mp h).1;simpa using this
  rw[ô hlt] at h;cases h;exact .inl ⟨rfl,rfl,hlt⟩
 ·rw[ñ (QQ hj)] at h;exact .inr ⟨hj,h⟩
theorem RW.O9(r:RW K H0 zE zA ow H ρ σ){i:Nat}(h:Hd K (hw ow (hz zA H)) x v):RW K H0 zE zA (nA ow i) H (ρ.set i (some (.d x))) (σ.set i (some v)):=by
 have sub:∀ j a,nA ow i j=some a->j≠i/\ow j=some a:=λj a e=>by
  unfold nA at e;split at e
  ·cases e
  ·rename_i n;exact⟨n,e⟩
 have sm:af (hw ow (hz zA H)) (hw (nA ow i) (hz zA H)):=λb o e=>by
  obtain⟨e1,e2⟩:=jj e;exact dz e1 λj q=>e2 j (sub j b q).2
 refine⟨by rw[QE,QE];exact r.len,λj k a h1 h2=>r.inj j k a (sub j a h1).2 (sub k a h2).2,λj a h1=>r.zne j a (sub j a h1).2,λj a h1=>?_,λj s e=>?_,r.ext,r.zok,λj a h1=>r.new j a (sub j a h1).2⟩
 ·obtain⟨n,h2⟩:=sub j a h1;obtain⟨xs,h3⟩:=r.own j a h2;exact⟨xs,by rw[ñ (QQ n)];exact h3⟩
 ·rcases getElem?_set' e with ⟨rfl,e1,hlt⟩ | ⟨n,e1⟩
  ·cases e1;exact⟨v,ô (by rw[← r.len];exact hlt),by unfold nA;exact if_pos rfl,h.same sm⟩
  ·obtain⟨w,h1,h2⟩:=r.wor j s e1;exact⟨w,by rw[ñ (QQ n)];exact h1,h2.move (by unfold nA;exact if_neg n) sm λ_ _=>rfl⟩
theorem RW.Pa(r:RW K H0 zE zA ow H ρ σ){i:Nat}{t:S}{v:V}(h:Eu K zA (nA ow i) H i t v):RW K H0 zE zA (nA ow i) H (ρ.set i (some t)) (σ.set i (some v)):=by
 have sub:∀ j a,nA ow i j=some a->j≠i/\ow j=some a:=λj a e=>by
  unfold nA at e;split at e
  ·cases e
  ·rename_i n;exact⟨n,e⟩
 have sm:af (hw ow (hz zA H)) (hw (nA ow i) (hz zA H)):=λb o e=>by
  obtain⟨e1,e2⟩:=jj e;exact dz e1 λj q=>e2 j (sub j b q).2
 refine⟨by rw[QE,QE];exact r.len,λj k a h1 h2=>r.inj j k a (sub j a h1).2 (sub k a h2).2,λj a h1=>r.zne j a (sub j a h1).2,λj a h1=>?_,λj s e=>?_,r.ext,r.zok,λj a h1=>r.new j a (sub j a h1).2⟩
 ·obtain⟨n,h2⟩:=sub j a h1;obtain⟨xs,h3⟩:=r.own j a h2;exact⟨xs,by rw[ñ (QQ n)];exact h3⟩
 ·rcases getElem?_set' e with ⟨rfl,e1,hlt⟩ | ⟨n,e1⟩
  ·cases e1;exact⟨v,ô (by rw[← r.len];exact hlt),h⟩
  ·obtain⟨w,h1,h2⟩:=r.wor j s e1;exact⟨w,by rw[ñ (QQ n)];exact h1,h2.move (by unfold nA;exact if_neg n) sm λ_ _=>rfl⟩
theorem RW.Pb(r:RW K H0 zE zA ow H ρ σ){i:Nat}(x:Ext zA H H')(hn:H a=none)(za:zA≠some a)(hl:H' a=some (.lst ys))(h:aK K (hw (Dg ow i a) (hz zA H')) xs ys)(hi:i < ρ.length) :
 RW K H0 zE zA (Dg ow i a) H' (ρ.set i (some (.fr xs))) (σ.set i (some (.ref a))):=by
 have r':=r.mono x;have old:∀ j b,ow j=some b->b≠a:=λj b e q=>by
  obtain⟨zs,h1⟩:=r.lst j b e;rw[q,hn] at h1;cases h1
 have sub:∀ j b,Dg ow i a j=some b->(j=i/\b=a)\/(j≠i/\ow j=some b):=λj b e=>by
  unfold Dg at e;split at e
  ·rename_i n;cases e;exact .inl ⟨n,rfl⟩
  ·rename_i n;exact .inr ⟨n,e⟩
 have sm:af (hw ow (hz zA H)) (hw (Dg ow i a) (hz zA H')):=λb o e=>by
  obtain⟨e1,e2⟩:=jj e;have e3:=(fF e1).1;have hb:b≠a:=λq=>by rw[q,hn] at e3;cases e3
  refine dz (x b o e1) λj q=>?_;rcases sub j b q with ⟨_,q⟩ | ⟨_,q⟩
  ·exact hb q
  ·exact e2 j q
 refine⟨by rw[QE,QE];exact r.len,λj k b h1 h2=>?_,λj b h1=>?_,λj b h1=>?_,λj s e=>?_,r'.ext,r.zok,λj b h1=>?_⟩
 ·rcases sub j b h1 with ⟨q1,q2⟩ | ⟨q1,q2⟩
  ·rcases sub k b h2 with ⟨p1,p2⟩ | ⟨p1,p2⟩
   ·rw[q1,p1]
   ·exact absurd q2 (old k b p2)
  ·rcases sub k b h2 with ⟨p1,p2⟩ | ⟨p1,p2⟩
   ·exact absurd p2 (old j b q2)
   ·exact r.inj j k b q2 p2
 ·rcases sub j b h1 with ⟨_,q2⟩ | ⟨_,q2⟩
  ·rw[q2];exact za
  ·exact r.zne j b q2
 ·rcases sub j b h1 with ⟨q1,q2⟩ | ⟨q1,q2⟩
  ·rw[q1];exact⟨xs,ô hi⟩
  ·obtain⟨zs,h3⟩:=r.own j b q2;exact⟨zs,by rw[ñ (QQ q1)];exact h3⟩
 ·rcases getElem?_set' e with ⟨rfl,e1,hlt⟩ | ⟨n,e1⟩
  ·cases e1;exact⟨.ref a,ô (by rw[← r.len];exact hlt),a,ys,by unfold Dg;exact if_pos rfl,rfl,hl,h⟩
  ·obtain⟨w,h1,h2⟩:=r.wor j s e1;refine⟨w,by rw[ñ (QQ n)];exact h1,h2.move (by unfold Dg;exact if_neg n) sm λb q=>?_⟩
   obtain⟨zs,k⟩:=r.lst j b q;rw[k];exact x.at k (r.zne j b q)
 ·rcases sub j b h1 with ⟨_,q2⟩ | ⟨_,q2⟩
  ·rw[q2];exact(r.young hn za).1
  ·exact r.new j b q2
theorem RW.upd(r:RW K H0 zE zA ow H ρ σ){i:Nat}(e:ow i=some a)(h:aK K (hw ow (hz zA H)) xs ys):RW K H0 zE zA ow (upd H a (.lst ys)) (ρ.set i (some (.fr xs))) σ:=by
 have za:=r.zne i a e;have sm:af (hw ow (hz zA H)) (hw ow (hz zA (L2.upd H a (.lst ys)))):=λb o q=>by
  obtain⟨e1,e2⟩:=jj q;obtain⟨e3,e4⟩:=fF e1;have hb:b≠a:=λz=>e2 i (by rw[z];exact e)
  exact dz (bw (by rw[ai hb];exact e3) e4 (gA e1)) e2
 obtain⟨xs0,h0⟩:=r.own i a e;have hi:i < ρ.length:=(ç.mp h0).1;obtain⟨v0,s0,a0,ys0,q1,q2,q3,q4⟩:=r.wor i _ h0;rw[e] at q1;cases q1;refine⟨by rw[QE];exact r.len,r.inj,r.zne,λj b h1=>?_,λj s q=>?_,⟨λb o q=>?_,λb ps q=>?_⟩,r.zok,r.new⟩
 ·by_cases hj:j=i
  ·subst hj;exact⟨xs,ô hi⟩
  ·obtain⟨zs,h3⟩:=r.own j b h1;exact⟨zs,by rw[ñ (QQ hj)];exact h3⟩
 ·rcases getElem?_set' q with ⟨rfl,e1,hlt⟩ | ⟨n,e1⟩
  ·cases e1;exact⟨v0,s0,a,ys,e,q2,aO,h.same sm⟩
  ·obtain⟨w,h1,h2⟩:=r.wor j s e1;refine⟨w,h1,h2.move rfl sm λb q=>?_⟩;have hb:b≠a:=λz=>n (r.inj j i b q (by rw[z];exact e))
   exact ai hb
 ·obtain⟨e1,e2⟩:=fF (r.ext b o q);have hb:b≠a:=λz=>by
   have:=(fF q).1;rw[z,r.new i a e] at this;cases this
  exact bw (by rw[ai hb];exact e1) e2 (gA q)
 ·obtain⟨qs,e1⟩:=r.ext.tbl b ps q;have hb:b≠a:=λz=>by rw[z,q3] at e1;cases e1
  exact⟨qs,by rw[ai hb];exact e1⟩
end
end Q
namespace Q
open PySem L2 PySem.Spec PyProof.Rows
variable [TB:Tb]
def F5:Zl->Z->Z
 |none,_=>none|some _,z=>z
def eY(K:Â)(G:Gs)(E:XK)(H0:Hp)(zE:Zl)(B:Hp)(D:Ends):R O->Prop
 |.ok (.nx ρ) z=>∀ zA ow σ H,RW K H0 zE zA ow H ρ σ->aM zA z H->af B (hw ow (hz zA H))->D.nx σ H|.ok (.rt s) z=>∀ v H,s≠.z->Ext zE H0 H->aM zE (F5 zE z) H->j6 K zE H0 H s v->D.rt v H|.er c z=>∀ e H,Ext zE H0 H->aM zE (F5 zE z) H->H e=none->E (.ref (G.cls c)) (some e) H
def tX(K:Â)(G:Gs)(E:XK)(H0:Hp)(zE:Zl)(x:Sm):TS:=λD σ H=>∃ zA ow ρ z r,RW K H0 zE zA ow H ρ σ/\aM zA z H/\ex G.F zE.isNone x ρ z=some r/\eY K G E H0 zE (hw ow (hz zA H)) D r
section
variable {K:Â}{G:Gs}{E:XK}{H0 H H':Hp}{zE zA:Zl}{ow:Nat->Zl}{ρ:Env}{σ:L2.St}{Dn:Ends}{z:Z}
theorem AG(zok:zA=zE\/(zE=none/\∀ a,zA=some a->H0 a=none))(st:aM zA z H):aM zE (F5 zE z) H:=by
 cases zE with
 |none=>exact⟨trivial,st.tab⟩
 |some a =>
  rcases zok with rfl | ⟨h,_⟩
  ·exact st
  ·cases h
def eY.MC(po:eY K G E H0 zE B Dn (.er c z))(r:RW K H0 zE zA ow H ρ σ):EPost G zA E c z H:=λe H' x st n=>po e H' (xC r.ext r.zok x) (AG r.zok st) n
def eY.Dh(po:eY K G E H0 zE B Dn rr)(r:RW K H0 zE zA ow H ρ σ):∀ c z1,rr=.er c z1->EPost G zA E c z1 H:=λc z1 e=>by subst e;exact po.MC r
theorem eY.mono(po:eY K G E H0 zE B Dn rr)(h:af B B'):eY K G E H0 zE B' Dn rr:=by
 match rr,po with
 |.ok (.nx _) _,po=>exact λzA ow σ H r st sm=>po zA ow σ H r st (af.trans h sm)|.ok (.rt _) _,po=>exact po|.er _ _,po=>exact po
theorem kT(ow:Nat->Zl)(i:Nat):af (hw ow H) (hw (nA ow i) H):=λb o e=>by
 obtain⟨e1,e2⟩:=jj e;refine dz e1 λj q=>?_;unfold nA at q;split at q
 ·cases q
 ·exact e2 j q
def lU(ow:Nat->Zl):af (hw ow H) (hw (λ_=>none) H):=λb o e=>dz (jj e).1 λj q=>nomatch q
theorem Di(x:Ext zA H H')(hn:H a=none)(i:Nat):af (hw ow (hz zA H)) (hw (Dg ow i a) (hz zA H')):=λb o e=>by
 obtain⟨e1,e2⟩:=jj e;have e3:=(fF e1).1;have hb:b≠a:=λq=>by rw[q,hn] at e3;cases e3
 refine dz (x b o e1) λj q=>?_;unfold Dg at q;split at q
 ·cases q;exact hb rfl
 ·exact e2 j q
theorem nB(e:ow i=some a):af (hw ow (hz zA H)) (hw ow (hz zA (upd H a o))):=λb u q=>by
 obtain⟨e1,e2⟩:=jj q;obtain⟨e3,e4⟩:=fF e1;have hb:b≠a:=λw=>e2 i (by rw[w];exact e)
 exact dz (bw (by rw[ai hb];exact e3) e4 (gA e1)) e2
mutual
theorem zc:∀ {p:gN}{d:D}{ρ ρ':Env},bR p d ρ=some ρ'->∀ {ow:Nat->Zl}{σ:L2.St}{v:V}{R:L2.St->Hp->Prop},RW K H0 zE zA ow H ρ σ->Hd K (hw ow (hz zA H)) d v ->
 (∀ ow' σ',RW K H0 zE zA ow' H ρ' σ'->af (hw ow (hz zA H)) (hw ow' (hz zA H))->R σ' H)->gP K p v σ H R
 |.v i,d,ρ,ρ',e,ow,σ,v,R,r,hd,k=>by
  unfold bR at e;cases e;unfold gP;exact k _ _ (r.O9 hd) (kT ow i)
 |.tup ps,d,ρ,ρ',e,ow,σ,v,R,r,hd,k=>by
  unfold bR at e;cases d with
  |tup l =>
   obtain⟨a,xs,rfl,h1,h2⟩:=hd.fE;unfold gP;exact⟨a,xs,rfl,(ah zA H).jV (af.jV eL h1),by rw[h2.length];exact lR e,xD e r h2 k⟩
  |_=>cases e
 |.nil,_,_,_,e,_,_,_,_,_,_,_=>by unfold bR at e;cases e
 |.cons _ _,_,_,_,e,_,_,_,_,_,_,_=>by unfold bR at e;cases e
theorem xD:∀ {r:gN}{l:List D}{ρ ρ':Env},bindL r l ρ=some ρ'->∀ {ow:Nat->Zl}{σ:L2.St}{vs:List V}{R:L2.St->Hp->Prop},RW K H0 zE zA ow H ρ σ->aK K (hw ow (hz zA H)) l vs ->
 (∀ ow' σ',RW K H0 zE zA ow' H ρ' σ'->af (hw ow (hz zA H)) (hw ow' (hz zA H))->R σ' H)->gL K r vs σ H R
 |.nil,l,ρ,ρ',e,ow,σ,vs,R,r,hd,k=>by
  unfold bindL at e;cases l with
  |nil =>
   cases e;unfold gL;exact⟨hd.bN,k ow σ r (af.refl _)⟩
  |cons x l=>cases e
 |.cons p q,l,ρ,ρ',e,ow,σ,vs,R,r,hd,k=>by
  unfold bindL at e;cases l with
  |nil=>cases e
  |cons x l =>
   obtain⟨ρ1,e1,e2⟩:=Ï.mp e;obtain⟨v,ws,rfl,h1,h2⟩:=hd.aN;unfold gL;exact⟨v,ws,rfl,zc e1 r h1 λow' σ' r' sm=>xD e2 r' (h2.same sm) λow2 σ2 r2 sm2=>k ow2 σ2 r2 (af.trans sm sm2)⟩
 |.v _,_,_,_,e,_,_,_,_,_,_,_=>by unfold bindL at e;cases e
 |.tup _,_,_,_,e,_,_,_,_,_,_,_=>by unfold bindL at e;cases e
end
theorem zd(r:RW K H0 zE zA ow H ρ σ)(s:S):∃ ow',RW K H0 zE zA ow' H (cV s ρ) σ/\af (hw ow (hz zA H)) (hw ow' (hz zA H))/\(bM s=true\/∀ i,ow' i=none):=by
 unfold cV;rw[oh];cases hb:bM s with
 |true=>exact⟨ow,r,af.refl _,.inl rfl⟩|false=>exact⟨_,r.kj,lU ow,.inr λ_=>rfl⟩
theorem vt{p:gN}{s:S}{v:V}{ρ':Env}{R:L2.St->Hp->Prop}(r:RW K H0 zE zA ow H ρ σ)(x:Ext zA H H')(rv:j6 K zA H H' s v)(e:iS p s (cV s ρ)=some ρ')
 (k:∀ ow' σ',RW K H0 zE zA ow' H' ρ' σ'->af (hw ow (hz zA H)) (hw ow' (hz zA H'))->R σ' H'):gP K p v σ H' R:=by
 obtain⟨owk,r1,s1,b1⟩:=zd r s;have r2:=r1.mono x;have s2:af (hw ow (hz zA H)) (hw owk (hz zA H')):=af.trans s1 (bA x);cases s with
 |d y =>
  have e':bR p y (cV (.d y) ρ)=some ρ':=by cases p <;> exact e
  refine zc e' r2 ?_ λow' σ' r3 s3=>k ow' σ' r3 (af.trans s2 s3);rcases b1 with b1 | b1
  ·exact kR r2.vo b1 rv
  ·have:owk=λ_=>none:=funext b1;subst this;rw[jH];exact rv
 |z =>
  cases p with
  |v i =>
   simp only[iS] at e;split at e
   ·cases e;unfold gP;exact k _ _ (r2.Pa (t:=.z) ⟨if_pos rfl,rv⟩) (af.trans s2 (kT owk i))
   ·cases e
  |_=>cases e
 |fr xs =>
  cases p with
  |v i =>
   simp only[iS] at e;split at e
   ·rename_i hi;cases e;unfold gP;obtain⟨a,ys,rfl,h1,h2,h3,h4⟩:=rv;refine k _ _ (r1.Pb x h1 h2 h3 ?_ hi) (af.trans s1 (Di x h1 i));rcases b1 with b1 | b1
    ·refine kS (λj b q=>?_) b1 (h4.same (cK a _));unfold Dg at q;split at q
     ·cases q;exact⟨ys,bw h3 h2⟩
     ·exact r2.vo j b q
    ·refine h4.same λb o q=>?_;have hb:b≠a:=λw=>by subst w;unfold hide at q;rw[if_pos rfl] at q;cases q
     refine dz (cK a _ b o q) λj w=>?_;unfold Dg at w;split at w
     ·cases w;exact hb rfl
     ·rw[b1 j] at w;cases w
   ·cases e
  |_=>cases e
end
end Q
namespace Q
open PySem L2 PySem.Spec PyProof.Rows
variable [TB:Tb]
theorem F6(h:ef v=false):Rq [tg] v env=pure none:=by
 cases tg <;> first | rfl | (cases v <;> first | (cases h;done) | rfl)
theorem F7(h:vs.all (VG 8)=true):Rq [.Tuple ts k p] (.Tuple vs k' p') env=pure none:=by
 unfold Rq;simp only[h,if_true];split
 ·rfl
 ·split
  ·rfl
  ·split
   ·rfl
   ·rfl
def xE(look:Str->Option SF):Ù->Bool
 |.Name id _=>look id != some .local|_=>true
theorem F8(h:ts.any (xE env.kindOf)=true):Rq [.Tuple ts k p] (.Tuple vs k' p') env=pure none:=by
 have hl:∀ (l:Nat) (ts:Zm),ts.any (xE env.kindOf)=true->(ts.filterMap fun
   |.Name id pos=>if env.kindOf id == some .local&&pos.line == l then some id else none
   |_=>none).length < ts.length:=by
  intro l ts
  induction ts with
  |nil=>intro h;cases h
  |cons e r ih =>
   intro h;have le:=List.length_filterMap_le (fun
    |.Name id pos=>if env.kindOf id == some .local&&pos.line == l then some id else none
    |_=>none:Ù->Option Str) r
   rw[List.any_cons,QL] at h;rw[QC];split
   ·rw[Ü];omega
   ·rename_i b hb;rcases h with h | h
    ·exfalso;cases e with
     |Name id pos =>
      have h':(env.kindOf id != some .local)=true:=h;simp only[bne_iff_ne,ne_eq] at h';simp[h'] at hb
     |_=>cases hb
    ·have:=ih h;rw[Ü,Ü];omega
 unfold Rq;dsimp only;split
 ·rfl
 ·split
  ·rfl
  ·have:=hl ((ts.head?.map (·.pos.line)).getD 0) ts h;rw[if_pos];simp only[QL,bne_iff_ne,ne_eq];exact .inl (Ý this)
theorem JO{x y:Str}{a b:Ù}{px py pt pt2:Pos}{k k2:Nat}{env:RZ}(hb:env.blockKind=.function)(hx:env.kindOf x=some .local)(hy:env.kindOf y=some .local)(hxy:(x == y)=false)(hl:(py.line == px.line)=true)
  (ha:noStar a=true) (hb':noStar b=true) (hf:[a,b].all (VG 8)=false) (hc:[a,b].all (constantsAlone 8)=false) :
  Rq [.Tuple [.Name x px,.Name y py] k pt] (.Tuple [a,b] k2 pt2) env=pure (some [x,y]):=by
 have hbk:(env.blockKind != .function)=false:=by rw[hb];rfl
 have e1:(x == x)=true:=beq_self_eq_true x;have hyx:(y == x)=false:=by
  cases h:y == x with
  |false=>rfl|true=>rw[beq_iff_eq] at h;subst h;rw[e1] at hxy;cases hxy
 have hl2:(Ù.Name x px).pos.line=px.line:=rfl;have hl3:(Ù.Name y py).pos.line=py.line:=rfl;have hl':py.line=px.line:=by simpa using hl
 unfold Rq;simp only[List.filterMap,List.head?,S9,Option.getD,hx,hy,hf,hc,hbk,hl2,hl'];simp[List.eraseDups,List.eraseDupsBy,YZ,hyx,hxy];intro h;rcases h with h | h
 ·cases a <;> first | (cases h;done) | (cases ha;done)
 ·cases b <;> first | (cases h;done) | (cases hb';done)
def oM:Ù->Bool
 |.ListComp ..=>false|.SetComp ..=>false|.DictComp ..=>false|_=>true
theorem jk(h:oM v=true)(t:Option Ù):TK v t n env=pure false:=by
 cases v <;> first | rfl | (cases h;done)
theorem lV(h:(match tg with | .Name ..=>true | _=>false)=false):TK v (some tg) n env=pure false:=by
 cases v <;> first | rfl | (cases tg <;> first | rfl | (cases h;done))
def Dj{el:Ù}{gs:List Comprehension}{sc:tv}{p px:Pos}{t:Str}{n:Nat}{env:RZ}:∃ b,TK (.ListComp el gs sc p) (some (.Name t px)) n env=pure b:=⟨_,rfl⟩
structure XS(lm:Bool)(X:Cx)(G:Gs)(E:XK)(N:List Str)(sc:Scope)(cn:List Str):Prop extends XI lm X G E N sc where
 sco:X.env.scope=sc
 fnk:sc.kind=.function
 own:PassesOwn (model X.prog X.w) X.A X.env X.xe
 can:n6 X E
 fnx:∀ x,X.fn x=true
 cls:∀ c x,cn[c]?=some x->X.mg x=some (.ref (G.cls c))/\PySem.W.excIn X.K (G.cls c) [.type "ValueError",.type "Exception",.type "BaseException",.type "object"] "ValueError.__new__"=true
def gB(sc:tv)(x:Str):Bool:=sc.names.lookup x == some .local || sc.names.lookup x == some .cell
section
variable {lm:Bool}{X:Cx}{G:Gs}{E:XK}{N:Zk}{sc:tv}{cn:Zk}{H0:Hp}{zE:Zl}
theorem XS.loc(x:XS lm X G E N sc cn):yR X N (gB sc):=by
 refine⟨x.hN,x.nd,λy h=>?_,λy _=>.inl (x.fnx y),x.calm⟩;unfold gB at h;rw[QL,beq_iff_eq,beq_iff_eq] at h;rw[x.sco];exact h
theorem XS.bk(x:XS lm X G E N sc cn):X.env.blockKind=.function:=by
 unfold Env.blockKind;rw[x.sco,x.fnk];rfl
def PS.imp{st:RM}{t t':TS}(h:PS X st t)(i:∀ D σ H,t' D σ H->t D σ H):PS X st t':=λaa s σ H D I q=>h aa s σ H D I (i _ _ _ q)
def mr.imp{st:List RM}{t t':TS}(h:mr X st t)(i:∀ D σ H,t' D σ H->t D σ H):mr X st t':=λaa s σ H D I q=>h aa s σ H D I (i _ _ _ q)
def MD:mr X [] (tX X.K G E H0 zE .nil):=mr.imp ED λD σ H q=>by
 obtain⟨zA,ow,ρ,z,r,rw,st,e,po⟩:=q;cases e;exact po zA ow σ H rw st (af.refl _)
theorem ME{s r:Sm}{st:RM}{rest:List RM}(h1:PS X st (tX X.K G E H0 zE s))(h2:mr X rest (tX X.K G E H0 zE r)):mr X (st::rest) (tX X.K G E H0 zE (.seq s r)):=mr.imp (Bh h1 h2) λD σ H q=>by
 obtain⟨zA,ow,ρ,z,rr,rw,st,e,po⟩:=q;have e0:Zd (ex G.F zE.isNone s ρ) (λo=>match o with | .nx ρ=>ex G.F zE.isNone r ρ | .rt s=>Ze (.rt s)) z=some rr:=e
 rcases M.bind_some e0 with ⟨o,z1,e1,e2⟩ | ⟨c,z1,e1,e2⟩
 ·refine⟨zA,ow,ρ,z,_,rw,st,e1,?_⟩;cases o with
  |nx ρ1=>exact λzA' ow' σ' H' rw' st' sm=>⟨zA',ow',ρ1,z1,rr,rw',st',e2,po.mono sm⟩|rt s=>cases e2;exact po
 ·subst e2;exact⟨zA,ow,ρ,z,_,rw,st,e1,po⟩
theorem Dk{p:gN}{e:Ex}{D:Ends}{σ:L2.St}{H:Hp}(q:tX X.K G E H0 zE (.set p e) D σ H):Bm (tI X.K G E e) (gP X.K p) D σ H:=by
 obtain⟨zA,ow,ρ,z,rr,rw,st,ee,po⟩:=q;refine de rw.iz st ee (po.Dh rw) λl z1 e1=>?_;obtain⟨s,hs,e2⟩:=M.ag e1;refine⟨s,jh hs,λv H1 x1 aY rv=>?_⟩;obtain⟨ρ',hb,e3⟩:=M.ag e2;cases e3;exact vt rw x1 rv hb λow' σ' r' sm=>po zA ow' σ' H1 r' aY sm
theorem MF{K:Â}{i:Nat}:gP K (.v i)=qu i:=by unfold gP;rfl
theorem MG(x:XS lm X G E N sc cn){i:Nat}{e:Ex}{y:Str}{v:Ù}{px pos:Pos}(hi:N[i]?=some y)(hl:gB sc y=true)(g:aw X G E e v)
 (hc:∀ elt gs dS q,v=.ListComp elt gs dS q->∃ tg iter ifs,gs=[⟨tg,iter,ifs,0⟩]/\lT X G E e elt tg iter ifs dS) (hno:∀ a b c d,v≠.SetComp a b c d)
 (hnd:∀ a b c d f,v≠.DictComp a b c d f) :
 PS X (.Assign [.Name y px] v pos) (tX X.K G E H0 zE (.set (.v i) e)):=by
 have L:=x.loc;refine PS.imp (t:=Bm (tI X.K G E e) (qu i)) ?_ λD σ H q=>by rw[← MF (K:=X.K)];exact Dk q
 have h1:X.N.Nodup:=by rw[x.hN];exact x.nd
 have h2:X.N[i]?=some y:=by rw[x.hN];exact hi
 by_cases hv:∃ elt gs dS q,v=.ListComp elt gs dS q
 ·obtain⟨elt,gs,dS,q,rfl⟩:=hv;obtain⟨b,hb⟩:=Dj (el:=elt) (gs:=gs) (sc:=dS) (p:=q) (px:=px) (t:=y) (n:=pos.line) (env:=X.env);cases b with
  |false=>exact wD h1 h2 (L.lc y hl) g.pe hb (L.fn y hl)
  |true =>
   obtain⟨tg,iter,ifs,rfl,own,ak,wi,gg,tt,te,k1,k2,k3,k4,k5,k6,k7⟩:=hc elt gs dS q rfl;refine PS.imp (E2 h1 h2 (L.lc y hl) hb x.calm k1 k2 k3 k4 k5 k6 (L.fn y hl)) λD σ H q=>k7 _ _ _ q
 ·exact wD h1 h2 (L.lc y hl) g.pe (jk (by cases v <;> first | rfl | exact absurd rfl (hno _ _ _ _) | exact absurd rfl (hnd _ _ _ _ _) | exact absurd ⟨_,_,_,_,rfl⟩ hv) _) (L.fn y hl)
theorem xF(x:XS lm X G E N sc cn)(hp:cU N (gB sc) p tg=true)(g:aw X G E e v)(ht:ef tg=true)(hv:Rq [tg] v X.env=pure none) :
 PS X (.Assign [tg] v pos) (tX X.K G E H0 zE (.set p e)):=by
 refine PS.imp (wC g.pe (vf x.loc hp) ?_ hv ?_) λD σ H q=>Dk q
 ·exact lV (by cases tg <;> first | rfl | (cases ht;done))
 ·cases tg <;> first | rfl | (cases ht;done)
theorem MH(x:XS lm X G E N sc cn){i j:Nat}{ea eb:Ex}{a b:Ù}{y w:Str}{px py pt pt2 pos:Pos}{k k2:Nat}(hi:N[i]?=some y)(hj:N[j]?=some w)(hyw:(y == w)=false)(hy:sc.names.lookup y=some .local)(hw':sc.names.lookup w=some .local)
  (g:Good X G E (.cons ea (.cons eb .nil)) [a,b]) (hs:Rq [.Tuple [.Name y px,.Name w py] k pt] (.Tuple [a,b] k2 pt2) X.env=pure (some [y,w])) :
  PS X (.Assign [.Tuple [.Name y px,.Name w py] k pt] (.Tuple [a,b] k2 pt2) pos) (tX X.K G E H0 zE (.set (.tup (.cons (.v i) (.cons (.v j) .nil))) (.tup (.cons ea (.cons eb .nil))))):=by
 have hij:i≠j:=λh=>by
  subst h;rw[hi] at hj;cases hj;rw[beq_self_eq_true] at hyw;cases hyw
 refine PS.imp (HX x.calm (by rw[x.hN];exact x.nd) (by rw[x.hN];exact hi) (by rw[x.hN];exact hj) hij (by rw[x.sco];exact hy) (by rw[x.sco];exact hw') (g.args rfl).1 hs rfl) λD σ H q=>?_
 obtain⟨zA,ow,ρ,z,rr,rw,st,ee,po⟩:=q;have e0:Zd (Zd (ev G.F (.cons ea (.cons eb .nil)) ρ) λl=>Zd (Zf (iZ l)) λds=>if ds.length<=most then Ze [S.d (.tup ds)] else Zg) (λl=>Zd (Zf (one l)) λs=>Zd (Zf (iS (.tup (.cons (.v i) (.cons (.v j) .nil))) s (cV s ρ))) λρ=>Ze (O.nx ρ)) z=some rr:=ee;rcases M.bind_some e0 with ⟨l0,z0,e1,e2⟩ | ⟨c,z1,e1,e2⟩
 ·rcases M.bind_some e1 with ⟨l,z1,e3,e4⟩ | ⟨c,z1,e3,e4⟩
  ·obtain⟨ds,hds,e5⟩:=M.ag e4;split at e5
   ·cases e5;obtain⟨s,hs',e6⟩:=M.ag e2;cases hs';obtain⟨ρ',hb,e7⟩:=M.ag e6;cases e7;refine⟨zA,ρ,z,_,rw.iz,st,e3,λvs H1 x1 aY rvs=>?_⟩;have hd:=j7 rvs hds;obtain⟨owk,r1,s1,b1⟩:=zd rw (.d (.tup ds));have hb':bindL (.cons (.v i) (.cons (.v j) .nil)) ds (cV (.d (.tup ds)) ρ)=some ρ':=by
     have:bR (.tup (.cons (.v i) (.cons (.v j) .nil))) (.tup ds) (cV (.d (.tup ds)) ρ)=some ρ':=hb;unfold bR at this;exact this
    have r2:=r1.mono x1;have hd2:aK X.K (hw owk (hz zA H1)) ds vs:=by
     rcases b1 with b1 | b1
     ·exact kS r2.vo (by simpa [bM,bare] using b1) hd
     ·have:owk=λ_=>none:=funext b1;subst this;rw[jH];exact hd
    have:=xD hb' (R:=D.nx) r2 hd2 λow' σ' r' sm=>po zA ow' σ' H1 r' aY (af.trans s1 (af.trans (bA x1) sm));unfold gL at this;obtain⟨v,vr,rfl,this⟩:=this;unfold gP gL at this;obtain⟨u,ur,rfl,this⟩:=this;unfold gP gL at this;obtain⟨rfl,this⟩:=this;exact⟨v,u,rfl,this⟩
   ·cases e5
  ·cases e4
 ·subst e2;rcases M.bind_some e1 with ⟨l,z2,e3,e4⟩ | ⟨c,z2,e3,e4⟩
  ·obtain⟨ds,hds,e5⟩:=M.ag e4;split at e5 <;> cases e5
  ·cases e4;exact⟨zA,ρ,z,_,rw.iz,st,e3,po.MC rw⟩
theorem Dl{s t:S}(h:Fp s=some t):s=t/\t≠.z:=by
 cases s with
 |z=>cases h
 |d _=>cases h;exact⟨rfl,λh=>nomatch h⟩
 |fr _=>cases h;exact⟨rfl,λh=>nomatch h⟩
theorem JP(x:XS lm X G E N sc cn){i:Nat}{n:Str}{p pos:Pos}(h1:N[i]?=some n)(h2:a8 n=true):PS X (.Return (some (.Name n p)) pos) (tX X.K G E H0 zE (.ret (.var i))):=by
 unfold a8 at h2;simp only[Á,î] at h2;refine PS.imp (Bj (hX (i:=i) (by rw[x.hN];exact h1) (x.vis n (ð h1)) h2.1 h2.2)) λD σ H q=>?_
 obtain⟨zA,ow,ρ,z,rr,rw,st,ee,po⟩:=q;have e0:(match ρ[i]? with | some (some s)=>Zd (Zf (Fp s)) λs=>Ze (O.rt s) | _=>Zg) z=some rr:=ee
 cases hs:ρ[i]? with
 |none=>rw[hs] at e0;cases e0
 |some o =>
  cases o with
  |none=>rw[hs] at e0;cases e0
  |some s =>
   rw[hs] at e0;obtain⟨t,ht,e1⟩:=M.ag e0;cases e1;obtain⟨rfl,nz⟩:=Dl ht;obtain⟨v,k1,k2⟩:=rw.O8 nz hs;exact⟨v,k1,po v H nz rw.ext (AG rw.zok st) k2⟩
theorem MI(hv:∀ i,e≠.var i)(g:aw X G E e v):PS X (.Return (some v) pos) (tX X.K G E H0 zE (.ret e)):=by
 refine PS.imp (Bj g.pe) λD σ H q=>?_;obtain⟨zA,ow,ρ,z,rr,rw,st,ee,po⟩:=q;have e0:Zd (ev G.F e ρ) (λl=>Zd (Zf ((one l).bind Fp)) λs=>Ze (O.rt s)) z=some rr:=by
  cases e <;> first | exact ee | exact absurd rfl (hv _)
 refine de rw.iz st e0 (po.Dh rw) λl z1 e1=>?_;obtain⟨t,ht,e2⟩:=M.ag e1;cases e2;obtain⟨s,hs,hn⟩:=Ï.mp ht;obtain⟨rfl,nz⟩:=Dl hn;exact⟨s,jh hs,λv H1 x1 aY rv=>po v H1 nz (xC rw.ext rw.zok x1) (AG rw.zok aY) (rw.out nz x1 rv)⟩
theorem Pc(g:aw X G E c ce)(hn:∀ t a b p,ce≠.IfExp t a b p)(ha:mr X a (tX X.K G E H0 zE t))(hb:mr X b (tX X.K G E H0 zE u)) :
 PS X (.If ce a b pos) (tX X.K G E H0 zE (.iff c t u)):=by
 refine PS.imp (K8 (g.pt hn) ha hb) λD σ H q=>?_;obtain⟨zA,ow,ρ,z,rr,rw,st,ee,po⟩:=q;refine mE rw.iz st ee (po.Dh rw) λb z1 e1 H1 x1 aY=>?_;have r1:=rw.mono x1;have sm:af (hw ow (hz zA H)) (hw ow (hz zA H1)):=bA x1;cases b with
 |true=>exact⟨zA,ow,ρ,z1,rr,r1,aY,e1,po.mono sm⟩|false=>exact⟨zA,ow,ρ,z1,rr,r1,aY,e1,po.mono sm⟩
theorem MJ(g:aw X G E e v)(h:oM v=true):PS X (.Expr v pos) (tX X.K G E H0 zE (.exp e)):=by
 refine PS.imp (rK g.pe (jk h none)) λD σ H q=>?_;obtain⟨zA,ow,ρ,z,rr,rw,st,ee,po⟩:=q;have e0:Zd (ev G.F e ρ) (λl=>Zd (Zf (one l)) λ_=>Ze (O.nx ρ)) z=some rr:=ee;refine de rw.iz st e0 (po.Dh rw) λl z1 e1=>?_;obtain⟨s,hs,e2⟩:=M.ag e1;cases e2;exact⟨s,jh hs,λv H1 x1 aY rv=>po zA ow σ H1 (rw.mono x1) aY (bA x1)⟩
def F9:Bi->T6->Bool
 |.mul,.Mult=>true|.add,.Add=>true|_,_=>false
theorem JQ(h:F9 o op=true):PK X op λx y H Q=>∃ i j k,x=.int i/\y=.int j/\dZ o (.int i) (.int j)=some (.d (.int k))/\Q (.int k) H:=by
 intro aa s σ H x y v u Q I r1 r2 q;obtain⟨i,j,k,rfl,rfl,e,q⟩:=q;obtain⟨t,rfl⟩:=r1;obtain⟨t',rfl⟩:=r2;cases o <;> cases op <;> first | (cases h;done) | skip
 ·cases e;exact iadd_int ⟨.int _,H,I.tok _,⟨_,rfl⟩,q⟩
 ·obtain⟨hl,e⟩:=cL e;cases e;exact imul_int ⟨.int _,H,I.tok _,⟨_,rfl⟩,q⟩ (Ck hl.1 hl.2)
theorem Ga{o:Bi}{op:T6}(h:F9 o op=true){i j:Int}{s:S}(e:dZ o (.int i) (.int j)=some s):∃ k,s=.d (.int k):=by
 cases o <;> cases op <;> first | (cases h;done) | skip
 ·cases e;exact⟨_,rfl⟩
 ·obtain⟨_,e⟩:=cL e;cases e;exact⟨_,rfl⟩
theorem Hi(h:yF d=some i):d=.int i:=by cases d <;> first | (cases h;rfl) | (cases h;done)
theorem MK(x:XS lm X G E N sc cn){i:Nat}{o:Bi}{e:Ex}{y:Str}{v:Ù}{op:T6}{px pos:Pos}(hi:N[i]?=some y)(hl:gB sc y=true)(ho:F9 o op=true)(g:aw X G E e v):PS X (.AugAssign (.Name y px) op v pos) (tX X.K G E H0 zE (.aug o i e)):=by
 have L:=x.loc;refine PS.imp (HY (i:=i) (by rw[x.hN];exact x.nd) (by rw[x.hN];exact hi) (L.lc y hl) g.pe (JQ ho) (L.fn y hl)) λD σ H q=>?_
 obtain⟨zA,ow,ρ,z,rr,rw,st,ee,po⟩:=q;obtain⟨yd,hy,e1⟩:=M.ag ee;obtain⟨s0,hs0,hy⟩:=Ï.mp hy;have hr:ρ[i]?=some (some s0):=by
  cases h:ρ[i]? with
  |none=>rw[h] at hs0;cases hs0
  |some w=>rw[h] at hs0;cases hs0;rfl
 obtain⟨w,k1,k2⟩:=rw.wor i s0 hr;refine⟨w,k1,?_⟩;refine de rw.iz st e1 (po.Dh rw) λl z1 e2=>?_;obtain⟨xi,hx,e3⟩:=M.ag e2;obtain⟨dx,hx1,hx2⟩:=Ï.mp hx;obtain⟨s1,rfl,hs1⟩:=cA hx1;cases Hi hx2;refine⟨s1,rfl,λu H1 x1 aY rv=>?_⟩;obtain⟨s2,hb,e4⟩:=M.ag e3;obtain⟨yi,hyi,hb⟩:=Ï.mp hb;cases Hi hyi;obtain⟨k,rfl⟩:=Ga ho hb;have hw:w=.int yi:=by
  cases s0 with
  |d x=>cases hy;exact(show Hd X.K (hw ow (hz zA H)) (.int yi) w from k2.2).bK
  |_=>cases hy
 refine⟨yi,xi,k,hw,(show Hd X.K (hz zA H1) (.int xi) u from rv.pl.d_ hs1).bK,hb,?_⟩;obtain⟨ρ',hp,e5⟩:=M.ag e4;cases e5;have:=vt (R:=λσ' H'=>D.nx σ' H') rw x1 cZ hp λow' σ' r' sm=>po zA ow' σ' H1 r' aY sm;rw[MF] at this;exact this
theorem x_raise(x:XS lm X G E N sc cn){c:Nat}{n:Str}{y:Str}{k:Nat}{p1 p2 p3 p4:Pos}(hc:cn[c]?=some n)(hg:glob sc n=true):PS X (.Raise (some (.Call (.Name n p1) [.Constant (.str y) k p2] [] p3)) none p4) (tX X.K G E H0 zE (.rais c)):=by
 obtain⟨k1,k2,_⟩:=bS hg;obtain⟨m1,m2⟩:=x.cls c n hc;refine PS.imp (B2 x.can x.calm (x.glb n k1) m1 m2 (hZ Bc lE) k2 rfl rfl) λD σ H q=>?_;obtain⟨zA,ow,ρ,z,rr,rw,st,ee,po⟩:=q;cases ee;exact⟨by show 1<=sizeLine;decide,λe hn=>po e H rw.ext (AG rw.zok st) hn⟩
end
section
variable {K:Â}{H0 H H':Hp}{zE zA:Zl}{ow:Nat->Zl}{ρ:Env}{σ:L2.St}
theorem di(e:nA ow i j=some a):j≠i/\ow j=some a:=by
 unfold nA at e;split at e
 ·cases e
 ·rename_i n;exact⟨n,e⟩
def kU:nA ow i i=none:=if_pos rfl
def xG(h:j≠i):nA ow i j=ow j:=if_neg h
theorem Dm{ρ:Env}{j:Nat}{s:S}(h:(mB ρ)[j]?=some (some s)):ρ[j]?=some (some s)/\s≠.z:=by
 unfold mB at h;rw[Ø] at h;obtain⟨o,e1,e2⟩:=Ð.mp h;cases o with
 |none=>cases e2
 |some t =>
  cases t with
  |z=>cases e2
  |d x=>cases e2;exact⟨e1,λh=>nomatch h⟩
  |fr x=>cases e2;exact⟨e1,λh=>nomatch h⟩
theorem Gb{j:Nat}(h:ρ[j]?=some (some (.fr xs))):(mB ρ)[j]?=some (some (.fr xs)):=by
 unfold mB;rw[Ø,h];rfl
theorem RW.Pd(r:RW K H0 none zA ow H ρ σ){i:Nat}(x:Ext zA H H')(hn:H a=none)(za:zA≠some a)(hl:H' a=some (.lst ys)) :
 RW K H0 none (some a) (nA ow i) H' ((mB ρ).set i (some .z)) (σ.set i (some (.ref a)))/\af (hw ow (hz zA H)) (hw (nA ow i) (hz (some a) H')):=by
 have r':=r.mono x;have old:∀ j b,ow j=some b->b≠a:=λj b e q=>by
  obtain⟨zs,h1⟩:=r.lst j b e;rw[q,hn] at h1;cases h1
 have sm:af (hw ow (hz zA H)) (hw (nA ow i) (hz (some a) H')):=λb o e=>by
  obtain⟨e1,e2⟩:=jj e;have hb:b≠a:=λq=>by
   have e3:H b=some o:=(fF e1).1;rw[q,hn] at e3;cases e3
  exact dz (bw (fF (x b o e1)).1 (λq=>by cases q;exact hb rfl) (gA e1)) λj q=>e2 j (di q).2
 have dl:(mB ρ).length=ρ.length:=by unfold mB;rw[Ä]
 refine⟨⟨by rw[QE,QE,dl];exact r.len,λj k b h1 h2=>r.inj j k b (di h1).2 (di h2).2,λj b h1 q=>?_,λj b h1=>?_,λj s e=>?_,r'.ext,.inr ⟨rfl,λb q=>?_⟩,λj b h1=>r.new j b (di h1).2⟩,sm⟩
 ·cases q;exact old j _ (di h1).2 rfl
 ·obtain⟨n,h2⟩:=di h1;obtain⟨xs,h3⟩:=r.own j b h2;exact⟨xs,by rw[ñ (QQ n)];exact Gb h3⟩
 ·rcases getElem?_set' e with ⟨rfl,e1,hlt⟩ | ⟨n,e1⟩
  ·cases e1;exact⟨.ref a,ô (by rw[← r.len,← dl];exact hlt),kU,a,rfl,rfl⟩
  ·obtain⟨e1,nz⟩:=Dm e1;obtain⟨w,h1,h2⟩:=r.wor j s e1;refine⟨w,by rw[ñ (QQ n)];exact h1,?_⟩
   cases s with
   |d y=>exact⟨by rw[xG n];exact h2.1,h2.2.same sm⟩|z=>exact absurd rfl nz
   |fr xs =>
    obtain⟨b,zs,k1,rfl,k3,k4⟩:=h2;exact⟨b,zs,by rw[xG n];exact k1,rfl,x.at k3 (r.zne j b k1),k4.same sm⟩
 ·cases q;exact(r.young hn za).1
theorem RW.plain(r:RW K H0 zE zA ow H ρ σ)(i:Nat):RW K H0 zE zA (nA ow i) H (ρ.set i ((ρ[i]?.getD none).map gK)) σ:=by
 have sm:=kT (H:=hz zA H) ow i;refine⟨by rw[QE];exact r.len,λj k b h1 h2=>r.inj j k b (di h1).2 (di h2).2,λj b h1=>r.zne j b (di h1).2,λj b h1=>?_,λj s e=>?_,r.ext,r.zok,λj b h1=>r.new j b (di h1).2⟩
 ·obtain⟨n,h2⟩:=di h1;obtain⟨xs,h3⟩:=r.own j b h2;exact⟨xs,by rw[ñ (QQ n)];exact h3⟩
 ·rcases getElem?_set' e with ⟨rfl,e1,hlt⟩ | ⟨n,e1⟩
  ·cases hs:ρ[j]? with
   |none=>rw[hs] at e1;cases e1
   |some o =>
    rw[hs] at e1;cases o with
    |none=>cases e1
    |some s0 =>
     cases e1;obtain⟨w,h1,h2⟩:=r.wor j s0 hs;refine⟨w,h1,?_⟩;cases s0 with
     |d y=>exact⟨kU,h2.2.same sm⟩|z=>exact⟨kU,h2.2⟩
     |fr xs =>
      obtain⟨b,zs,k1,rfl,k3,k4⟩:=h2;refine⟨kU,Hd.lst (dz (bw k3 (r.zne j b k1)) λk q=>?_) (k4.same sm)⟩;obtain⟨q1,q2⟩:=di q;exact q1 (r.inj k j b q2 k1)
  ·obtain⟨w,h1,h2⟩:=r.wor j s e1;exact⟨w,h1,h2.move (xG n) sm λ_ _=>rfl⟩
end
theorem aK.eraseIdx{K:Â}{H:Hp}:∀ {ds:List D}{vs:List V} (n:Nat),aK K H ds vs->aK K H (ds.eraseIdx n) (vs.eraseIdx n)
 |[],_,n,h=>by rw[h.bN];exact .nil
 |d::ds,_,0,h=>by
  obtain⟨x,r,rfl,h1,h2⟩:=h.aN;exact h2
 |d::ds,_,n + 1,h=>by
  obtain⟨x,r,rfl,h1,h2⟩:=h.aN;exact .cons h1 (aK.eraseIdx n h2)
section
variable {lm:Bool}{X:Cx}{G:Gs}{E:XK}{N:Zk}{sc:tv}{cn:Zk}{H0:Hp}{zE:Zl}
theorem ze{α β:Type}{R:α->β->Prop}{a:α}{vs:List β}(h:Rx R [a] vs):∃ v,vs=[v]/\R a v:=by
 cases h with
 |cons h1 h2=>cases h2;exact⟨_,rfl,h1⟩
theorem aM.ai(st:aM zA z H)(n:zA≠some a)(h:H a=some (.lst xs)):aM zA z (upd H a o):=by
 refine⟨?_,λp hp=>Tab.upd (st.tab p hp) h⟩;have st:=st.zat;cases zA with
 |none=>cases z <;> exact st
 |some b =>
  cases z with
  |none=>exact st
  |some p =>
   have hb:b≠a:=λq=>n (by rw[q])
   exact(L2.ai hb).trans st
theorem sJ(h:ownAt ρ i=some xs):ρ[i]?=some (some (.fr xs)):=by
 unfold ownAt at h;split at h
 ·rename_i h1;cases h;exact h1
 ·cases h
def vv{K:Â}{zA:Zl}{H0 H:Hp}{s:S}{v:V}{x:D}(h:j6 K zA H0 H s v)(e:Cb s=some x):Hd K (hz zA H) x v:=h.pl.d_ e
theorem ML(x:XS lm X G E N sc cn){i:Nat}{n:Str}{e:Ex}{v:Ù}{p apos cpos pos:Pos}(h1:N[i]?=some n)(h2:a8 n=true)(ns:noStar v=true)(g:aw X G E e v)(hl:(apos.endLine == cpos.line)=true) :
  PS X (.Expr (.Call (.Attribute (.Name n p) "append" apos) [v] [] cpos) pos) (tX X.K G E H0 zE (.app i e)):=by
 unfold a8 at h2;simp only[Á,î] at h2;have ga:Good X G E (.cons e .nil) [v]:=⟨v,[],rfl,ns,g,rfl,rfl⟩;have hs:=bz ns [] X.env;refine PS.imp (rK (BB TH V4 V3 qF (hX (i:=i) (by rw[x.hN];exact h1) (x.vis n (ð h1)) h2.1 h2.2) (ga.args rfl).1 rfl (by rw[hs];rfl) hl hs rfl) (jk rfl none)) λD σ H q=>?_
 obtain⟨zA,ow,ρ,z,rr,rw,st,ee,po⟩:=q;obtain⟨xs,hx,e1⟩:=M.ag ee;have ho:=sJ hx;obtain⟨w,k1,a,ys,k2,rfl,k3,k4⟩:=rw.wor i _ ho;refine⟨_,k1,.inl ⟨rfl,ys,jP.of k3⟩,?_⟩;have e2:Zd (ev G.F (.cons e .nil) ρ) (λm=>Zd (Zf (pl m)) λx=>if bare x=true/\xs.length < most then Ze (O.nx (ρ.set i (some (.fr (xs++[x]))))) else Zg) z=some rr\/∃ c z1,ev G.F e ρ z=some (.er c z1)/\rr=.er c z1:=by
  rcases M.bind_some e1 with ⟨l,z1,e3,e4⟩ | ⟨c,z1,e3,e4⟩
  ·obtain⟨y,hy,e5⟩:=M.ag e4;obtain⟨s,rfl,hs⟩:=cA hy;refine .inl ?_;show Zd (Zd (ev G.F e ρ) λx=>Zd (Zf (one x)) λs=>Zd (ev G.F .nil ρ) λy=>Ze (s::y)) _ z=some rr;have b:∀ {α β:Type}{m:M α}{f:α->M β}{z:Z}{a:α}{z1:Z},m z=some (.ok a z1)->Zd m f z=f a z1:=λh=>by unfold Zd;rw[h]
   rw[b (a:=[s]) (z1:=z1) (by rw[b e3];rfl)]
   show Zd (Zf (pl _)) _ _=_;rw[hy];exact e5
  ·exact .inr ⟨c,z1,e3,e4⟩
 rcases e2 with e2 | ⟨c,z1,e3,rfl⟩
 ·refine oB rw.iz st e2 (po.Dh rw) λl z1 e3 vs H1 x1 aY rvs=>?_;obtain⟨y,hy,e5⟩:=M.ag e3;obtain⟨s,rfl,hs⟩:=cA hy;split at e5
  ·rename_i hb;cases e5;obtain⟨u,rfl,ru⟩:=ze rvs;have r1:=rw.mono x1;have k3':=x1.at k3 (rw.zne i a k2);have k4':aK X.K (hw ow (hz zA H1)) xs ys:=k4.same (bA x1);have hd:=kR r1.vo hb.1 (vv ru hs);refine⟨a,ys,u,rfl,rfl,k3',Þ (by rw[k4.length];exact hb.2) (d9 (Ñ _)),?_⟩
   refine po zA ow σ _ (r1.upd k2 (k4'.append (.cons hd .nil))) ?_ (af.trans (bA x1) (nB k2));exact aY.ai (rw.zne i a k2) k3'
  ·cases e5
 ·refine⟨zA,ρ,z,.er c z1,rw.iz,st,?_,po.MC rw⟩;show Zd (ev G.F e ρ) _ z=_;simp only[Zd,e3]
theorem MM(x:XS lm X G E N sc cn){i:Nat}{n:Str}{e ix:Ex}{v w:Ù}{p tp pos:Pos}(h1:N[i]?=some n)(h2:a8 n=true)(g:aw X G E e v)(gi:aw X G E ix w)(hw':kQ w=true) :
 PS X (.Assign [.Subscript (.Name n p) w tp] v pos) (tX X.K G E H0 zE (.sti i ix e)):=by
 unfold a8 at h2;simp only[Á,î] at h2;refine PS.imp (wC g.pe (Bl (hX (i:=i) (by rw[x.hN];exact h1) (x.vis n (ð h1)) h2.1 h2.2) gi.pe set_list (by intro u;cases w <;> first | rfl | (cases hw';done))) (show TK v (some (.Subscript (.Name n p) w tp)) pos.line X.env=pure false from lV rfl) (by cases v <;> rfl)) λD σ H q=>?_
 obtain⟨zA,ow,ρ,z,rr,rw,st,ee,po⟩:=q;refine de rw.iz st ee (po.Dh rw) λl z1 e1=>?_;obtain⟨y,hy,e2⟩:=M.ag e1;obtain⟨s,rfl,hs⟩:=cA hy;refine⟨s,rfl,λu H1 x1 aY rv=>?_⟩;obtain⟨xs,hx,e3⟩:=M.ag e2;have ho:=sJ hx;have r1:=rw.mono x1;obtain⟨w',k1,a,ys,k2,rfl,k3,k4⟩:=r1.wor i _ ho;refine⟨_,k1,?_⟩;refine de r1.iz aY e3 (po.Dh r1) λl2 z2 e4=>?_;obtain⟨j,hj,e5⟩:=M.ag e4;obtain⟨dj,hj1,hj2⟩:=Ï.mp hj;obtain⟨s2,rfl,hs2⟩:=cA hj1;refine⟨s2,rfl,λu2 H2 x2 st2 rv2=>?_⟩;obtain⟨xs2,hx2,e6⟩:=M.ag e5;split at e6
 ·rename_i hb;cases e6;have hdj:u2=.int j:=by
   have:=vv rv2 hs2;cases dj <;> first | (cases hj2;exact this.bK) | (cases hj2;done)
  unfold oi at hx2;obtain⟨m,hm1,rfl⟩:=Ð.mp hx2;have r2:=r1.mono x2;have k4':aK X.K (hw ow (hz zA H2)) xs ys:=k4.same (bA x2);have hd:=kR r2.vo hb ((vv rv hs).same x2);refine⟨a,ys,j,m,rfl,hdj,x2.at k3 (rw.zne i a k2),by rw[k4.length];exact hm1,?_⟩
  refine po zA ow σ _ (r2.upd k2 (k4'.set m hd)) (st2.ai (rw.zne i a k2) (x2.at k3 (rw.zne i a k2))) (af.trans (bA (x1.trans x2)) (nB k2))
 ·cases e6
theorem JR(x:XS lm X G E N sc cn){i f:Nat}{as:Ex}{y:Str}{v:Ù}{px pos:Pos}(hi:N[i]?=some y)(hl:gB sc y=true)(g:aw X G E (.call f as) v)(hv:oM v=true) :
 PS X (.Assign [.Name y px] v pos) (tX X.K G E H0 zE (.newz i f as)):=by
 have L:=x.loc;refine PS.imp (wD (i:=i) (by rw[x.hN];exact x.nd) (by rw[x.hN];exact hi) (L.lc y hl) g.pe (jk hv _) (L.fn y hl)) λD σ H q=>?_
 obtain⟨zA,ow,ρ,z,rr,rw,st,ee,po⟩:=q;refine de rw.iz st ee (po.Dh rw) λl z1 e1=>?_;have e2:uT zE.isNone ρ i l=some rr:=e1;unfold uT at e2;split at e2
 ·split at e2
  ·rename_i m b hz';cases e2;have zn:zE=none:=by
    cases zE with
    |none=>rfl|some _=>cases hz'
   subst zn;refine⟨_,rfl,λu H1 x1 aY rv=>?_⟩;obtain⟨a,ys,rfl,k1,k2,k3,k4⟩:=rv;obtain⟨v1,v2,rfl,h3,h4⟩:=k4.two;cases h3.bK;cases h4.yG;obtain⟨r1,sm⟩:=rw.Pd (i:=i) x1 k1 k2 k3;exact po (some a) _ _ H1 r1 ⟨k3,aY.tab⟩ sm
  ·cases e2
 ·cases e2
theorem JS(x:XS lm X G E N sc cn){i:Nat}{n:Str}{e:Ex}{v:Ù}{c:Nat}{p q tp pos:Pos}(h1:N[i]?=some n)(h2:a8 n=true)(g:aw X G E e v) :
 PS X (.Assign [.Subscript (.Name n p) (.Constant (.int 0) c q) tp] v pos) (tX X.K G E H0 zE (.zset i e)):=by
 unfold a8 at h2;simp only[Á,î] at h2;refine PS.imp (wC g.pe (Bl (hX (i:=i) (by rw[x.hN];exact h1) (x.vis n (ð h1)) h2.1 h2.2) wA set_list (by intro u;rfl)) (show TK v (some (.Subscript (.Name n p) (.Constant (.int 0) c q) tp)) pos.line X.env=pure false from lV rfl) (by cases v <;> rfl)) λD σ H q=>?_
 obtain⟨zA,ow,ρ,z,rr,rw,st,ee,po⟩:=q;refine de rw.iz st ee (po.Dh rw) λl z1 e1=>?_;obtain⟨y,hy,e2⟩:=M.ag e1;obtain⟨dy,hy1,hy2⟩:=Ï.mp hy;obtain⟨s,rfl,hs⟩:=cA hy1;refine⟨s,rfl,λu H1 x1 aY rv=>?_⟩;have e3:uU ρ y ρ[i]? z1=some rr:=e2;unfold uU at e3;split at e3
 ·rename_i p' hsl;cases e3;have r1:=rw.mono x1;obtain⟨w,k1,k2,a,rfl,rfl⟩:=r1.wor i .z hsl;have hu:u=.int y:=by
   have:=vv rv hs;cases dy <;> first | (cases hy2;exact this.bK) | (cases hy2;done)
  subst hu;have st':H1 a=some (.lst [.int p'.1,.bl p'.2]):=aY.zat;refine⟨_,k1,a,[.int p'.1,.bl p'.2],0,0,rfl,rfl,st',rfl,?_⟩;have x2:Ext (some a) H1 (upd H1 a (.lst [.int y,.bl p'.2])):=by
   refine⟨λb o h=>?_,λb ps h=>⟨ps,by rw[ai (λz=>by rw[z,st'] at h;cases h)];exact h⟩⟩
   obtain⟨h3,h4⟩:=fF h;exact bw (by rw[ai (λz=>h4 (by rw[z]))];exact h3) h4 (gA h)
  exact po (some a) ow σ _ (r1.mono x2) ⟨aO,λp hp=>Tab.upd (aY.tab p hp) st'⟩ (af.trans (bA x1.same) (bA x2.same))
 ·cases e3
theorem MN(x:XS lm X G E N sc cn)(g:aw X G E c ce)(hn:∀ t a b p,ce≠.IfExp t a b p)(hb:mr X body (tX X.K G E H0 zE b)):PS X (.While ce body [] pos) (tX X.K G E H0 zE (.whl c b)):=by
 refine PS.imp (Bn x.own (g.pt hn) hb) λD σ H q=>?_;obtain⟨zA,ow,ρ,z,rr,rw,st,ee,po⟩:=q;refine⟨λm σ H=>∃ zA ow ρ z r,RW X.K H0 zE zA ow H ρ σ/\aM zA z H/\uQ (ev G.F c) (ex G.F zE.isNone b) m ρ z=some r/\eY X.K G E H0 zE (hw ow (hz zA H)) D r,⟨Ar,zA,ow,ρ,z,rr,rw,st,ee,po⟩,?_⟩;rintro m σ H ⟨zA,ow,ρ,z,rr,rw,st,ee,po⟩;cases m with
 |zero=>cases ee
 |succ m =>
  refine mE rw.iz st ee (po.Dh rw) λk z1 e1 H1 x1 aY=>?_;have r1:=rw.mono x1;have sm:af (hw ow (hz zA H)) (hw ow (hz zA H1)):=bA x1;cases k with
  |false =>
   cases e1;exact po zA ow σ H1 r1 aY sm
  |true =>
   rw[if_pos rfl];have e2:Zd (ex G.F zE.isNone b ρ) (λo=>match o with | .nx ρ=>uQ (ev G.F c) (ex G.F zE.isNone b) m ρ | .rt s=>Ze (.rt s)) z1=some rr:=e1
   refine⟨λσ' H'=>∃ zA ow ρ z r,RW X.K H0 zE zA ow H' ρ σ'/\aM zA z H'/\uQ (ev G.F c) (ex G.F zE.isNone b) m ρ z=some r/\eY X.K G E H0 zE (hw ow (hz zA H')) D r,λσ' H' h=>⟨m,Sg m,h⟩,?_⟩;rcases M.bind_some e2 with ⟨o,z2,e3,e4⟩ | ⟨k,z2,e3,e4⟩
   ·refine⟨zA,ow,ρ,z1,_,r1,aY,e3,?_⟩;cases o with
    |nx ρ1=>exact λzA' ow' σ' H' rw' st' sm'=>⟨zA',ow',ρ1,z2,rr,rw',st',e4,po.mono (af.trans sm sm')⟩|rt s=>cases e4;exact po
   ·subst e4;exact⟨zA,ow,ρ,z1,_,r1,aY,e3,po⟩
theorem Gd{i j:Nat}{e:Ex}{D:Ends}{σ:L2.St}{H:Hp}{zA:Zl}{ow:Nat->Zl}{ρ:Env}{z:Z}{rr:R O}(rw:RW X.K H0 zE zA ow H ρ σ)(st:aM zA z H)(ee:Hb G.F i j e ρ z=some rr)(po:eY X.K G E H0 zE (hw ow (hz zA H)) D rr) :
 G1 (Of X.K "list" yp (Ez i) (G4 (Of X.K "list" BC (Ez j) (tA X.K G E (.cons e .nil))) Lq)) D σ H:=by
 obtain⟨xs,hx,e1⟩:=M.ag ee;obtain⟨ys,hy,e1⟩:=M.ag e1;have ho:=sJ hx;have hp:=sJ hy;obtain⟨w,k1,a,us,k2,rfl,k3,k4⟩:=rw.wor i _ ho;obtain⟨w',m1,b,ws,m2,rfl,m3,m4⟩:=rw.wor j _ hp;refine⟨_,k1,.inl ⟨rfl,us,jP.of k3⟩,⟨_,m1,.inl ⟨rfl,ws,jP.of m3⟩,?_⟩⟩;rcases M.bind_some e1 with ⟨l,z1,e3,e4⟩ | ⟨c,z1,e3,e4⟩
 ·obtain⟨k,hk,e5⟩:=M.ag e4;obtain⟨dk,hk1,hk2⟩:=Ï.mp hk;obtain⟨s,rfl,hs⟩:=cA hk1;obtain⟨o,hv,e6⟩:=M.ag e5;cases e6;refine⟨zA,ρ,z,.ok [s] z1,rw.iz,st,?_,λvs H1 x1 aY rvs=>?_⟩
  ·show Zd (ev G.F e ρ) _ z=_;unfold Zd;rw[e3];rfl
  obtain⟨u,rfl,ru⟩:=ze rvs;have hu:u=.int k:=by
   have:=vv ru hs;cases dk <;> first | (cases hk2;exact this.bK) | (cases hk2;done)
  subst hu;unfold uS at hv;split at hv
  ·rename_i hb;have hkk:=jf.mp hb.2.2.1;obtain⟨y,hy1,hv⟩:=Ï.mp hv;split at hv
   ·rename_i hby;cases hv;have r1:=rw.mono x1;have m4':aK X.K (hw ow (hz zA H1)) ys ws:=m4.same (bA x1);have k4':aK X.K (hw ow (hz zA H1)) xs us:=k4.same (bA x1);obtain⟨yv,g1,g2⟩:=m4'.get hy1;have hlt:k.toNat < ws.length:=(ç.mp g1).1;have hab:a≠b:=λq=>hb.1 (rw.inj i j a k2 (by rw[q];exact m2))
    refine⟨b,ws,k,k.toNat,yv,rfl,rfl,x1.at m3 (rw.zne j b m2),∅,∅,?_,g1,?_⟩
    ·have h0:(0:Int)<=k:=hb.2.1;exact Wy h0 ∅
    ·have r2:=r1.upd m2 (m4'.eraseIdx k.toNat);have sm2:=nB (H:=H1) (zA:=zA) (o:=.lst (ws.eraseIdx k.toNat)) m2;refine⟨a,us,yv,rfl,rfl,?_,?_,?_⟩
     ·rw[ai hab];exact x1.at k3 (rw.zne i a k2)
     ·exact Þ (by rw[k4.length];exact hb.2.2.2) (d9 (Ñ _))
     ·exact po zA ow σ _ (r2.upd k2 ((k4'.same sm2).append (.cons (g2.same sm2) .nil))) ((aY.ai (rw.zne j b m2) (x1.at m3 (rw.zne j b m2))).ai (rw.zne i a k2) (by rw[ai hab];exact x1.at k3 (rw.zne i a k2))) (af.trans (bA x1) (af.trans sm2 (nB k2)))
   ·cases hv
  ·cases hv
 ·subst e4;refine⟨zA,ρ,z,.er c z1,rw.iz,st,?_,po.MC rw⟩;show Zd (ev G.F e ρ) _ z=_;simp only[Zd,e3]
theorem JT(x:XS lm X G E N sc cn){i j:Nat}{n m:Str}{e:Ex}{v:Ù}{p p' apos cpos apos' cpos' pos:Pos}(h1:N[i]?=some n)(h2:a8 n=true)(h3:N[j]?=some m)(h4:a8 m=true)(ns:noStar v=true)(g:aw X G E e v)(hl:(apos.endLine == cpos.line)=true)(hl':(apos'.endLine == cpos'.line)=true) :
  PS X (.Expr (.Call (.Attribute (.Name n p) "append" apos) [.Call (.Attribute (.Name m p') "pop" apos') [v] [] cpos'] [] cpos) pos) (tX X.K G E H0 zE (.apop i j e)):=by
 unfold a8 at h2 h4;simp only[Á,î] at h2 h4;have ga:Good X G E (.cons e .nil) [v]:=⟨v,[],rfl,ns,g,rfl,rfl⟩;have hs:=bz ns [] X.env;refine PS.imp (rK (BB TH V4 V3 qF (hX (i:=i) (by rw[x.hN];exact h1) (x.vis n (ð h1)) h2.1 h2.2)
  (hZ (BB TH PySem.F.slot_list_pop PySem.F.type_list_pop BD (hX (i:=j) (by rw[x.hN];exact h3) (x.vis m (ð h3)) h4.1 h4.2) (ga.args rfl).1 rfl (by rw[hs];rfl) hl' hs rfl) lE) rfl rfl hl rfl rfl) (jk rfl none)) λD σ H q=>?_
 obtain⟨zA,ow,ρ,z,rr,rw,st,ee,po⟩:=q;exact Gd rw st ee po
def MO(K:Â)(i:Nat):TI:=λσ H R=>∃ a,σ[i]?=some (some (.ref a))/\((∃ ys,dU K H a ys)/\R (Nv K a) H\/(∃ ys,jP K H a ys)/\R (Le K a) H)
theorem JU(x:XI lm X G E N sc){tg:Ù}{i:Nat}{n:Str}{pos:Pos}(h1:N[i]?=some n)(h2:a8 n=true):PI X tg (.Name n pos) (MO X.K i):=by
 unfold a8 at h2;simp only[Á,î] at h2;have hv:PE X (.Name n pos) (Ez i):=hX (i:=i) (by rw[x.hN];exact h1) (x.vis n (ð h1)) h2.1 h2.2
 intro aa s σ H R I q;obtain⟨a,k,q | q⟩:=q
 ·exact Bp hv aa s σ H R I ⟨_,k,a,rfl,q.1,q.2⟩
 ·exact rM hv aa s σ H R I ⟨_,k,a,rfl,q.1,q.2⟩
def fBody(F:FT)(tp:Bool)(p:gN)(b:Sm):D->Env->M O:=λx ρ=>Zd (Zf (bR p x ρ)) λρ=>ex F tp b ρ
theorem lW:∀ {l:List D}{d:D},bo l=true->d∈l->bare d=true
 |x::r,d,h,hd=>by
  simp only[bo,Á] at h;rcases ß.mp hd with rfl | hd
  ·exact h.1
  ·exact lW h.2 hd
theorem sL{p:gN}{b:Sm}{J:L2.It}{xs:List D}{B:Hp}{D:Ends}{σ:L2.St}{H:Hp}{zA:Zl}{ow:Nat->Zl}{ρ:Env}{z:Z}{rr:R O}(IT:FV X.K J xs B)
 (rw:RW X.K H0 zE zA ow H ρ σ) (st:aM zA z H) (sm:af B (hw ow (hz zA H))) (ee:jT (fBody G.F zE.isNone p b) xs ρ z=some rr) (po:eY X.K G E H0 zE (hw ow (hz zA H)) D rr) :
 ∃ W:Nat->Nat->L2.St->Hp->Prop,(∃ m,W 0 m σ H)/\∀ i m σ H,W i m σ H ->
   (J.stop i H/\D.nx σ H)\/(J.go i H/\∃ Nn:L2.St->Hp->Prop,(∀ σ' H',Nn σ' H'->∃ m',m' < m/\W (i + 1) m' σ' H')/\∀ x H',J.yld i H x H'->gP X.K p x σ H' λσ2 H2=>tX X.K G E H0 zE b { D with nx:=Nn,ct:=Nn,bk:=D.nx } σ2 H2):=by
 refine⟨λi m σ H=>m=xs.length - i/\i<=xs.length/\∃ zA ow ρ z r,RW X.K H0 zE zA ow H ρ σ/\aM zA z H/\af B (hw ow (hz zA H))/\jT (fBody G.F zE.isNone p b) (xs.drop i) ρ z=some r/\eY X.K G E H0 zE (hw ow (hz zA H)) D r,
  ⟨xs.length,by simp,Se _,zA,ow,ρ,z,rr,rw,st,sm,by simpa using ee,po⟩,?_⟩
 rintro i m σ H ⟨rfl,hi,zA,ow,ρ,z,rr,rw,st,sm,ee,po⟩;have sH:af B H:=af.trans sm (af.trans eL (ah zA H));by_cases hlt:i < xs.length
 ·refine .inr ⟨IT.go i H sH hlt,λσ' H'=>∃ zA ow ρ z r,RW X.K H0 zE zA ow H' ρ σ'/\aM zA z H'/\af B (hw ow (hz zA H'))/\jT (fBody G.F zE.isNone p b) (xs.drop (i + 1)) ρ z=some r/\eY X.K G E H0 zE (hw ow (hz zA H')) D r,
   λσ' H' h=>⟨xs.length - (i + 1),∅,rfl,hlt,h⟩,λx H' y=>?_⟩
  have hd0:xs[i]?=some xs[i]:=Í hlt;obtain⟨s1,hd⟩:=IT.yld i H x H' zA z _ (af.trans sm eL) st y hd0;rw[RJ hlt] at ee;have e0:Zd (fBody G.F zE.isNone p b xs[i] ρ) (λo=>match o with | .nx ρ=>jT (fBody G.F zE.isNone p b) (xs.drop (i + 1)) ρ | .rt s=>Ze (.rt s)) z=some rr:=ee
  have r1:=rw.mono (Ext.of s1);have aY:=st.same s1;have sm1:af (hw ow (hz zA H)) (hw ow (hz zA H')):=bA (dG s1);have hd1:=hd (hw ow (hz zA H')) (af.trans sm sm1) λ_ _ q=>xB q r1.vo;have fin:∀ {ρ1:Env}{o:O}{z1:Z},bR p xs[i] ρ=some ρ1->ex G.F zE.isNone b ρ1 z=some (.ok o z1)->(match o with | .nx ρ=>jT (fBody G.F zE.isNone p b) (xs.drop (i + 1)) ρ | .rt s=>Ze (.rt s)) z1=some rr->gP X.K p x σ H' λσ2 H2=>tX X.K G E H0 zE b { D with nx:=λσ' H'=>∃ zA ow ρ z r,RW X.K H0 zE zA ow H' ρ σ'/\aM zA z H'/\af B (hw ow (hz zA H'))/\jT (fBody G.F zE.isNone p b) (xs.drop (i + 1)) ρ z=some r/\eY X.K G E H0 zE (hw ow (hz zA H')) D r,ct:=λσ' H'=>∃ zA ow ρ z r,RW X.K H0 zE zA ow H' ρ σ'/\aM zA z H'/\af B (hw ow (hz zA H'))/\jT (fBody G.F zE.isNone p b) (xs.drop (i + 1)) ρ z=some r/\eY X.K G E H0 zE (hw ow (hz zA H')) D r,bk:=D.nx } σ2 H2:=λ{ρ1 o z1} hbp e1 e2=>by
   refine zc hbp r1 hd1 λow' σ' r2 sm2=>⟨zA,ow',ρ1,z,_,r2,aY,e1,?_⟩;cases o with
   |nx ρ2=>exact λzA3 ow3 σ3 H3 r3 st3 sm3=>⟨zA3,ow3,ρ2,z1,rr,r3,st3,af.trans sm (af.trans sm1 (af.trans sm2 sm3)),e2,po.mono (af.trans sm1 (af.trans sm2 sm3))⟩|rt s=>cases e2;exact po
  rcases M.bind_some e0 with ⟨o,z1,e1,e2⟩ | ⟨c,z1,e1,e2⟩
  ·obtain⟨ρ1,hbp,e3⟩:=M.ag e1;exact fin hbp e3 e2
  ·subst e2;obtain⟨ρ1,hbp,e3⟩:=M.ag e1;exact zc hbp r1 hd1 λow' σ' r2 sm2=>⟨zA,ow',ρ1,z,_,r2,aY,e3,po⟩
 ·have e:i=xs.length:=∅
  subst e;rw[UN] at ee;cases ee;exact .inl ⟨IT.stop H sH,po zA ow σ H rw st (af.refl _)⟩
theorem JV(x:XS lm X G E N sc cn){p:gN}{i:Nat}{n:Str}{b:Sm}{tg:Ù}{body:List RM}{np pos:Pos}(hp:cU N (gB sc) p tg=true)(h1:N[i]?=some n)(h2:a8 n=true)(hb:mr X body (tX X.K G E H0 zE b)) :
 PS X (.For tg (.Name n np) body [] pos) (tX X.K G E H0 zE (.fr p .seq (.cons (.var i) .nil) b)):=by
 refine PS.imp (Bq x.own x.calm (JU x.toXI h1 h2) (vf x.loc hp) hb (λ_=>rfl)) λD σ H q=>?_;obtain⟨zA,ow,ρ,z,rr,rw,st,ee,po⟩:=q;have e0:Zd (Zd (match ρ[i]? with | some (some s)=>Ze [gK s] | _=>Zg) λx=>Zd (Zf (one x)) λs=>Zd (ev G.F .nil ρ) λy=>Ze (s::y)) (λl=>Zd (Zf ((iZ l).bind (uc .seq))) λxs=>jT (fBody G.F zE.isNone p b) xs (uR .seq (.cons (.var i) .nil) l ρ)) z=some rr:=ee
 cases hs:ρ[i]? with
 |none=>rw[hs] at e0;cases e0
 |some o =>
  cases o with
  |none=>rw[hs] at e0;cases e0
  |some s =>
   rw[hs] at e0;have e1:Zd (Zf ((iZ [gK s]).bind (uc .seq))) (λxs=>jT (fBody G.F zE.isNone p b) xs ((ρ.set i ((ρ[i]?.getD none).map gK)).map (jZ (mC [gK s])))) z=some rr:=e0;obtain⟨xs,hx,e2⟩:=M.ag e1;have r1:=rw.plain i;have sm:=kT (H:=hz zA H) ow i;have hi:i < ρ.length:=(ç.mp hs).1;have hsl:(ρ.set i ((ρ[i]?.getD none).map gK))[i]?=some (some (gK s)):=by rw[ô hi,hs];rfl
   obtain⟨w,k1,k2⟩:=r1.wor i _ hsl;obtain⟨ds,h3,h4⟩:=Ï.mp hx;obtain⟨d,rfl,h5⟩:=yW h3;have hd:Hd X.K (hw (nA ow i) (hz zA H)) d w:=by
    cases s with
    |d y=>cases h5;exact k2.2
    |fr ys=>cases h5;exact k2.2
    |_=>cases h5
   obtain⟨ow',r2,sm2⟩:∃ ow',RW X.K H0 zE zA ow' H ((ρ.set i ((ρ[i]?.getD none).map gK)).map (jZ (mC [gK s]))) σ/\af (hw (nA ow i) (hz zA H)) (hw ow' (hz zA H)):=by
    rw[oh];cases mC [gK s] with
    |true=>exact⟨_,r1,af.refl _⟩|false=>exact⟨_,r1.kj,lU _⟩
   cases d with
   |tup l =>
    cases h4;obtain⟨a,ys,rfl,m1,m2⟩:=hd.fE;exact⟨a,k1,.inl ⟨⟨ys,(ah zA H).jV (af.jV eL m1)⟩,sL (yT m1 m2) r2 st sm2 e2 (po.mono (af.trans sm sm2))⟩⟩
   |lst l =>
    cases h4;obtain⟨a,ys,rfl,m1,m2⟩:=hd.kM;exact⟨a,k1,.inr ⟨⟨ys,((m1.same eL).same (ah zA H)).sq⟩,sL (vh m1 m2) r2 st sm2 e2 (po.mono (af.trans sm sm2))⟩⟩
   |_=>cases h4
theorem MP(x:XS lm X G E N sc cn){p:gN}{it:It}{src:Ex}{b:Sm}{tg iter:Ù}{body:List RM}{pos:Pos}(hp:cU N (gB sc) p tg=true)(hi:PI X tg iter (Et X.K G E it src))(hns:iT iter=true)(hv:Ci it src=none)(hb:mr X body (tX X.K G E H0 zE b)) :
 PS X (.For tg iter body [] pos) (tX X.K G E H0 zE (.fr p it src b)):=by
 refine PS.imp (Bq x.own x.calm hi (vf x.loc hp) hb (y8 hns X.env)) λD σ H q=>?_;obtain⟨zA,ow,ρ,z,rr,rw,st,ee,po⟩:=q;have e0:Zd (ev G.F src ρ) (λl=>Zd (Zf ((iZ l).bind (uc it))) λxs=>jT (fBody G.F zE.isNone p b) xs ((oj it src l ρ).map (jZ (mC l)))) z=some rr:=ee;rcases M.bind_some e0 with ⟨l,z1,e1,e2⟩ | ⟨c,z1,e1,e2⟩
 ·obtain⟨xs,hx,e3⟩:=M.ag e2;refine⟨zA,ρ,z,_,rw.iz,st,e1,xs,hx,λJ H1 x1 aY IT=>?_⟩;have r1:=rw.mono x1;have frz:jT (fBody G.F zE.isNone p b) xs (kj ρ) z1=some rr->_:=λe3=>sL (G:=G) (E:=E) (D:=D) (IT (λ_=>True) (hz zA H1) (af.refl _) (λ_ _ q=>q) (λ_ _ _ q=>q) (λds hds d hd=>by cases d <;> first | trivial | exact λ_ _=>trivial) λ_ _ q _=>q) r1.kj aY (by rw[jH];exact af.refl _) e3 (po.mono (af.trans (bA x1) (lU ow)))
  rw[oh] at e3;have he:oj it src l ρ=match lL l with | true=>kj ρ | false=>ρ:=by
   unfold oj;rw[hv] <;> cases lL l <;> rfl
  have tt:kj (kj ρ)=kj ρ:=by
   unfold kj;rw[Ó];refine QB λo _=>?_
   match o with
   |none=>rfl|some (.d _)=>rfl|some (.fr _)=>rfl|some .z=>rfl
  cases hl:lL l with
  |true =>
   rw[hl] at he;rw[he] at e3;dsimp only at e3;rw[tt,ite_self] at e3;exact frz e3
  |false =>
   rw[hl] at he;rw[he] at e3;dsimp only at e3;split at e3
   ·rename_i hbb;refine sL (IT (λy=>bare y=true) (hw ow (hz zA H1)) eL (λa ys q=>xB q r1.vo) (λd v hd q=>kR r1.vo hd q) (λds hds d hd=>?_) λa ys q hor=>?_) r1 aY (af.refl _) e3 (po.mono (bA x1))
    ·have h:=hbb;unfold mC at h;rw[hds] at h;have:=Õ.mp h d hd;cases d with
     |tup m=>exact λy hy=>lW this hy|lst m=>exact λy hy=>lW this hy|_=>trivial
    ·rcases hor with ⟨hn,hm1⟩ | hm
     ·refine cY.of (dz (bw hm1 (st.xo hn)) λj w=>?_);obtain⟨zs,k⟩:=rw.lst j a w;rw[hn] at k;cases k
     ·rw[hl] at hm;cases hm
   ·exact frz e3
 ·subst e2;exact⟨zA,ρ,z,_,rw.iz,st,e1,po.MC rw⟩
end
def isQ:Sm->Bool
 |.nil=>true|.seq _ _=>true|_=>false
def Dp:Ù->Bool
 |.IfExp ..=>false|_=>true
def Pe:Ù->Bool
 |.SetComp ..=>false|.DictComp ..=>false|_=>true
def Pf(lm:Bool)(fns:List (Str × Zk))(nums:List (Str × Int))(it:It)(src:Ex)(sc:tv)(N:Zk)(tg iter:Ù):Bool:=match it with
 |.seq=>mt lm fns nums src sc N [iter]|.rng1=>opt (AA iter) λr=>r.1.1 == ("range":Str)&&glob sc r.1.1&&mt lm fns nums src sc N [r.1.2.2.1]|.rng2=>opt (AB iter) λr=>r.1.1 == ("range":Str)&&glob sc r.1.1&&mt lm fns nums src sc N [r.1.2.2.1,r.1.2.2.2.1]|.zip=>opt (AB iter) λr=>r.1.1 == ("zip":Str)&&glob sc r.1.1&&ef tg&&mt lm fns nums src sc N [r.1.2.2.1,r.1.2.2.2.1]|.enum=>opt (AA iter) λr=>r.1.1 == ("enumerate":Str)&&glob sc r.1.1&&ef tg&&mt lm fns nums src sc N [r.1.2.2.1]
def Pg:(p:gN)->Option {q:Nat × Nat // p=.tup (.cons (.v q.1) (.cons (.v q.2) .nil))}
 |.tup (.cons (.v i) (.cons (.v j) .nil))=>some ⟨(i,j),rfl⟩|_=>none
def Ph:(e:Ex)->Option {q:Ex × Ex // e=.tup (.cons q.1 (.cons q.2 .nil))}
 |.tup (.cons a (.cons b .nil))=>some ⟨(a,b),rfl⟩|_=>none
def Pj:(e:Ù)->Option {q:Ù × Ù × Nat × Pos // e=.Tuple [q.1,q.2.1] q.2.2.1 q.2.2.2}
 |.Tuple [a,b] k p=>some ⟨(a,b,k,p),rfl⟩|_=>none
def Pk(sc:tv)(p:gN)(e:Ex)(tg v:Ù):Bool:=opt (Pg p) λ_=>opt (Ph e) λ_=>opt (OZ tg) λt=>opt (Pj v) λu =>
  !(t.1.1 == t.1.2.2.1)&&sc.names.lookup t.1.1 == some .local&&sc.names.lookup t.1.2.2.1 == some .local&&t.1.2.2.2.1.line == t.1.2.1.line&&noStar u.1.1&&noStar u.1.2.1&&!([u.1.1,u.1.2.1].all (VG 8))&&!([u.1.1,u.1.2.1].all (constantsAlone 8))
def isNm:Ù->Bool
 |.Name ..=>true|_=>false
def Qj(_:tv)(_ _:Ù):Bool:=false
def setB(sc:tv)(p:gN)(e:Ex)(tg v:Ù):Bool:=
 if isNm tg then(Pe v || Qj sc tg v) else if ef tg then(if ef v then(match v with | .Tuple vs _ _=>vs.all (VG 8) | _=>false) || (match tg with | .Tuple ts _ _=>ts.any (xE λy=>sc.names.lookup y) | _=>false) || Pk sc p e tg v else true) else false
def zf:(e:List RM)->Option {q:Ù × Ù × Pos // e=[.Assign [q.1] q.2.1 q.2.2]}
 |[.Assign [tg] v p]=>some ⟨(tg,v,p),rfl⟩|_=>none
def MQ:(e:List RM)->Option {q:Option Ù × Pos // e=[.Return q.1 q.2]}
 |[.Return v p]=>some ⟨(v,p),rfl⟩|_=>none
def Pl:(e:List RM)->Option {q:Ù × List RM × List RM × Pos // e=[.If q.1 q.2.1 q.2.2.1 q.2.2.2]}
 |[.If c a b p]=>some ⟨(c,a,b,p),rfl⟩|_=>none
def MR:(e:List RM)->Option {q:Ù × Ù × List RM × Pos // e=[.For q.1 q.2.1 q.2.2.1 [] q.2.2.2]}
 |[.For tg iter body [] p]=>some ⟨(tg,iter,body,p),rfl⟩|_=>none
def MS:(e:List RM)->Option {q:Ù × List RM × Pos // e=[.While q.1 q.2.1 [] q.2.2]}
 |[.While c body [] p]=>some ⟨(c,body,p),rfl⟩|_=>none
def JW:(e:List RM)->Option {q:Ù × Pos // e=[.Raise (some q.1) none q.2]}
 |[.Raise (some x) none p]=>some ⟨(x,p),rfl⟩|_=>none
def Dq:(e:List RM)->Option {q:Ù × Pos // e=[.Expr q.1 q.2]}
 |[.Expr v p]=>some ⟨(v,p),rfl⟩|_=>none
def MT:(e:Ù)->Option {q:Str × Pos × Str × Nat × Pos × Pos // e=.Call (.Name q.1 q.2.1) [.Constant (.str q.2.2.1) q.2.2.2.1 q.2.2.2.2.1] [] q.2.2.2.2.2}
 |.Call (.Name n p1) [.Constant (.str y) k p2] [] p3=>some ⟨(n,p1,y,k,p2,p3),rfl⟩|_=>none
def Dr:(e:Ù)->Option {q:Str × Pos × Str × Pos × Ù × Pos // e=.Call (.Attribute (.Name q.1 q.2.1) q.2.2.1 q.2.2.2.1) [q.2.2.2.2.1] [] q.2.2.2.2.2}
 |.Call (.Attribute (.Name n p) a ap) [v] [] cp=>some ⟨(n,p,a,ap,v,cp),rfl⟩|_=>none
def Pm:(e:Ù)->Option {q:Str × Pos × Nat × Pos × Pos // e=.Subscript (.Name q.1 q.2.1) (.Constant (.int 0) q.2.2.1 q.2.2.2.1) q.2.2.2.2}
 |.Subscript (.Name n p) (.Constant (.int 0) c q1) tp=>some ⟨(n,p,c,q1,tp),rfl⟩|_=>none
def MU:(e:Ù)->Option {q:Str × Pos × Ù × Pos // e=.Subscript (.Name q.1 q.2.1) q.2.2.1 q.2.2.2}
 |.Subscript (.Name n p) w tp=>some ⟨(n,p,w,tp),rfl⟩|_=>none
def Pn:(e:Ù)->Option {q:Str × Pos // e=.Name q.1 q.2}
 |.Name n p=>some ⟨(n,p),rfl⟩|_=>none
def MV:(e:List RM)->Option {q:Str × Pos × T6 × Ù × Pos // e=[.AugAssign (.Name q.1 q.2.1) q.2.2.1 q.2.2.2.1 q.2.2.2.2]}
 |[.AugAssign (.Name n p) op v pos]=>some ⟨(n,p,op,v,pos),rfl⟩|_=>none
def zg:Ex->Bool
 |.con .bp=>true|_=>false
def Ew(lm:Bool)(fns:List (Str × Zk))(nums:List (Str × Int))(cn:Zk)(sc:tv)(N:Zk):Sm->List RM->Bool
 |.nil,ss=>ss.isEmpty|.seq s r,ss=>opt ss.head? λst=>!isQ s&&isQ r&&Ew lm fns nums cn sc N s [st]&&Ew lm fns nums cn sc N r ss.tail|.set p e,ss=>opt (zf ss) λq=>!bV e&&cU N (gB sc) p q.1.1&&mt lm fns nums e sc N [q.1.2.1]&&setB sc p e q.1.1 q.1.2.1
 |.ret e,ss=>opt (MQ ss) λq=>match q.1.1 with
  |some v=>!bV e&&mt lm fns nums e sc N [v]|none=>zg e
 |.iff c t u,ss=>opt (Pl ss) λq=>!bV c&&Dp q.1.1&&isQ t&&isQ u&&mt lm fns nums c sc N [q.1.1]&&Ew lm fns nums cn sc N t q.1.2.1&&Ew lm fns nums cn sc N u q.1.2.2.1|.fr p it src b,ss=>opt (MR ss) λq=>cU N (gB sc) p q.1.1&&bV src&&iT q.1.2.1&&isQ b&&Pf lm fns nums it src sc N q.1.1 q.1.2.1&&Ew lm fns nums cn sc N b q.1.2.2.1|.whl c b,ss=>opt (MS ss) λq=>!bV c&&Dp q.1.1&&isQ b&&mt lm fns nums c sc N [q.1.1]&&Ew lm fns nums cn sc N b q.1.2.1|.rais c,ss=>opt (JW ss) λq=>opt (MT q.1.1) λr=>cn[c]? == some r.1.1&&glob sc r.1.1|.exp e,ss=>opt (Dq ss) λq=>oM q.1.1&&!bV e&&mt lm fns nums e sc N [q.1.1]|.app i e,ss=>opt (Dq ss) λq=>opt (Dr q.1.1) λr=>r.1.2.2.1 == ("append":Str)&&N[i]? == some r.1.1&&a8 r.1.1&&noStar r.1.2.2.2.2.1&&!bV e&&r.1.2.2.2.1.endLine == r.1.2.2.2.2.2.line&&mt lm fns nums e sc N [r.1.2.2.2.2.1]|.sti i ix e,ss=>opt (zf ss) λq=>opt (MU q.1.1) λr=>N[i]? == some r.1.1&&a8 r.1.1&&kQ r.1.2.2.1&&!bV e&&!bV ix&&mt lm fns nums e sc N [q.1.2.1]&&mt lm fns nums ix sc N [r.1.2.2.1]|.newz i f as,ss=>opt (zf ss) λq=>opt (Pn q.1.1) λr=>N[i]? == some r.1.1&&gB sc r.1.1&&oM q.1.2.1&&mt lm fns nums (.call f as) sc N [q.1.2.1]|.zset i e,ss=>opt (zf ss) λq=>opt (Pm q.1.1) λr=>N[i]? == some r.1.1&&a8 r.1.1&&!bV e&&mt lm fns nums e sc N [q.1.2.1]|.apop i j e,ss=>opt (Dq ss) λq=>opt (Dr q.1.1) λr=>opt (Dr r.1.2.2.2.2.1) λt=>r.1.2.2.1 == ("append":Str)&&t.1.2.2.1 == ("pop":Str)&&N[i]? == some r.1.1&&a8 r.1.1&&N[j]? == some t.1.1&&a8 t.1.1&&noStar t.1.2.2.2.2.1&&!bV e&&r.1.2.2.2.1.endLine == r.1.2.2.2.2.2.line&&t.1.2.2.2.1.endLine == t.1.2.2.2.2.2.line&&mt lm fns nums e sc N [t.1.2.2.2.2.1]|.aug o i e,ss=>opt (MV ss) λq=>N[i]? == some q.1.1&&gB sc q.1.1&&F9 o q.1.2.2.1&&!bV e&&mt lm fns nums e sc N [q.1.2.2.2.1]
section
variable {lm:Bool}{X:Cx}{G:Gs}{E:XK}{N:Zk}{sc:tv}{cn:Zk}{H0:Hp}{zE:Zl}
theorem MW(x:XI lm X G E N sc){it:It}{src:Ex}{tg iter:Ù}(hL:bV src=true)(h:Pf lm G.fns G.nums it src sc N tg iter=true):PI X tg iter (Et X.K G E it src):=by
 cases it with
 |seq =>
  obtain⟨a,rfl,ga⟩:=y9 hL (sound G src x h);exact C3 ga
 |rng1 =>
  obtain⟨⟨⟨n,_,a,_⟩,rfl⟩,-,h⟩:=ao h;simp only[Á,beq_iff_eq] at h;exact yX x h.1.1 h.1.2 hL (sound G src x h.2)
 |rng2 =>
  obtain⟨⟨⟨n,_,a,b,_⟩,rfl⟩,-,h⟩:=ao h;simp only[Á,beq_iff_eq] at h;exact yY x h.1.1 h.1.2 hL (sound G src x h.2)
 |zip =>
  obtain⟨⟨⟨n,_,a,b,_⟩,rfl⟩,-,h⟩:=ao h;simp only[Á,beq_iff_eq] at h;exact y4 x h.1.2 h.1.1.1 h.1.1.2 hL (sound G src x h.2)
 |enum =>
  obtain⟨⟨⟨n,_,a,_⟩,rfl⟩,-,h⟩:=ao h;simp only[Á,beq_iff_eq] at h;exact vm x h.1.2 h.1.1.1 h.1.1.2 hL (sound G src x h.2)
theorem vw(h:Dp e=true):∀ t a b p,e≠.IfExp t a b p:=by
 intro t a b p he;subst he;cases h
def GS(X:Cx)(G:Gs)(E:XK)(H0:Hp)(zE:Zl)(s:Sm)(ss:List RM):Prop:=(isQ s=true->mr X ss (tX X.K G E H0 zE s))/\(isQ s=false->∃ st,ss=[st]/\PS X st (tX X.K G E H0 zE s))
def ez{s:Sm}{st:RM}(hq:isQ s=false)(h:PS X st (tX X.K G E H0 zE s)):GS X G E H0 zE s [st]:=⟨λk=>(by rw[hq] at k;cases k),λ_=>⟨st,rfl,h⟩⟩
theorem Ge{x:XI lm X G E N sc}{e:Ex}{elt:Ù}{gs:List Comprehension}{dS:tv}{q:Pos}(h:mt lm G.fns G.nums e sc N [.ListComp elt gs dS q]=true)(hL:bV e=false):∃ tg iter ifs,gs=[⟨tg,iter,ifs,0⟩]/\lT X G E e elt tg iter ifs dS:=by
 cases e with
 |comp own ak p it src cond el =>
  match gs,h with
  |[⟨tg,iter,ifs,0⟩],h=>exact⟨tg,iter,ifs,rfl,qW (λx _=>sound G src x) (λx _=>sound G cond x) (λx _=>sound G el x) x h⟩
 |nil=>cases hL
 |cons _ _=>cases hL
 |bf f as=>cases f <;> cases h
 |_=>cases h
theorem Gf(h:isNm e=true):∃ y p,e=.Name y p:=by
 cases e <;> first | exact⟨_,_,rfl⟩ | cases h
theorem jI(h:ef e=true):∃ ts k p,e=.Tuple ts k p:=by
 cases e <;> first | exact⟨_,_,_,rfl⟩ | cases h
theorem MX(x:XS lm X G E N sc cn){p:gN}{e:Ex}{tg v:Ù}{pos:Pos}(h1:(!bV e)=true)(h2:cU N (gB sc) p tg=true)(h3:mt lm G.fns G.nums e sc N [v]=true)(h4:setB sc p e tg v=true):PS X (.Assign [tg] v pos) (tX X.K G E H0 zE (.set p e)):=by
 have g:=az (aG h1) (sound G e x.toXI h3);unfold setB at h4;split at h4
 ·rename_i hn;obtain⟨y,px,rfl⟩:=Gf hn;cases p with
  |v i =>
   unfold cU at h2;rw[Á,beq_iff_eq] at h2;refine MG x h2.1 h2.2 g (λelt gs dS q hv=>?_) (λa b c d hv=>?_) (λa b c d f hv=>?_)
   ·subst hv;exact Ge (x:=x.toXI) h3 (aG h1)
   ·subst hv;cases h4
   ·subst hv;cases h4
  |tup _=>unfold cU at h2;cases h2
  |nil=>unfold cU at h2;cases h2
  |cons _ _=>unfold cU at h2;cases h2
 ·split at h4
  ·rename_i ht;split at h4
   ·rename_i hv;rw[QL,QL] at h4;rcases h4 with (h4 | h4) | h4
    ·obtain⟨ts,k,tp,rfl⟩:=jI ht;obtain⟨vs,k',vp,rfl⟩:=jI hv;exact xF x h2 g rfl (F7 h4)
    ·obtain⟨ts,k,tp,rfl⟩:=jI ht;obtain⟨vs,k',vp,rfl⟩:=jI hv;refine xF x h2 g rfl (F8 ?_);have e:X.env.kindOf=λy=>sc.names.lookup y:=by funext y;unfold Env.kindOf;rw[x.sco]
     rw[e];exact h4
    ·clear g h1 ht hv;obtain⟨⟨⟨i,j⟩,rfl⟩,-,h4⟩:=ao h4;obtain⟨⟨⟨ea,eb⟩,rfl⟩,-,h4⟩:=ao h4;obtain⟨⟨⟨y,px,w,py,kt,tp⟩,rfl⟩,-,h4⟩:=ao h4;obtain⟨⟨⟨a,b,kv,vp⟩,rfl⟩,-,h4⟩:=ao h4;simp only[Á,î,beq_iff_eq] at h4;obtain⟨⟨⟨⟨⟨⟨⟨k1,k2⟩,k3⟩,k4⟩,k5⟩,k6⟩,k7⟩,k8⟩:=h4;unfold cU at h2;simp only[lM,cU,Á,beq_iff_eq] at h2;obtain⟨⟨_,h21,_⟩,⟨_,h22,_⟩,_⟩:=h2;have h3':(bV (.cons ea (.cons eb .nil))&&mt lm G.fns G.nums (.cons ea (.cons eb .nil)) sc N [a,b])=true:=h3;rw[Á] at h3';have ga:Good X G E (.cons ea (.cons eb .nil)) [a,b]:=sound G (.cons ea (.cons eb .nil)) x.toXI h3'.2;refine MH x h21 h22 (by simpa using k1) k2 k3 ga (JO x.bk ?_ ?_ (by simpa using k1) (by rw[k4];exact beq_self_eq_true _) k5 k6 k7 k8)
     ·unfold Env.kindOf;rw[x.sco];exact k2
     ·unfold Env.kindOf;rw[x.sco];exact k3
   ·rename_i hv;exact xF x h2 g ht (F6 (by simpa using hv))
  ·cases h4
theorem AH(h:zg e=true):e=.con .bp:=by
 unfold zg at h;split at h
 ·rfl
 ·cases h
theorem MY(x:XS lm X G E N sc cn)(h:(match o with | some v=>!bV e&&mt lm G.fns G.nums e sc N [v] | none=>zg e)=true):PS X (.Return o pos) (tX X.K G E H0 zE (.ret e)):=by
 cases o with
 |some v =>
  have h:(!bV e&&mt lm G.fns G.nums e sc N [v])=true:=h;rw[Á] at h;by_cases hv:∃ i,e=.var i
  ·obtain⟨i,rfl⟩:=hv;have h2:=h.2;cases v with
   |Name n p =>
    have h2:(N[i]? == some n&&a8 n)=true:=h2;rw[Á,beq_iff_eq] at h2;exact JP x h2.1 h2.2
   |_=>cases h2
  ·exact MI (λi hi=>hv ⟨i,hi⟩) (az (aG h.1) (sound G e x.toXI h.2))
 |none =>
  have he:=AH h;subst he;refine PS.imp EG λD σ H q=>?_;obtain⟨zA,ow,ρ,z,rr,rw,st,ee,po⟩:=q;cases ee;exact po .bp H (λk=>nomatch k) rw.ext (AG rw.zok st) (show Hd X.K (hz zE H) .bp .bp from Hd.bp)
theorem Po(x:XS lm X G E N sc cn){p:gN}{it:It}{src:Ex}{b:Sm}{tg iter:Ù}{body:List RM}{pos:Pos}(h1:cU N (gB sc) p tg=true)(h2:bV src=true)(h3:iT iter=true)(h5:Pf lm G.fns G.nums it src sc N tg iter=true)(hb:mr X body (tX X.K G E H0 zE b)) :
 PS X (.For tg iter body [] pos) (tX X.K G E H0 zE (.fr p it src b)):=by
 cases hv:Ci it src with
 |some q =>
  obtain⟨i,rfl,rfl⟩:=q;have h5':(noStar iter&&!bV (.var i)&&bV .nil&&mt lm G.fns G.nums (.var i) sc N [iter]&&mt lm G.fns G.nums .nil sc N [])=true:=h5;simp only[Á] at h5';have h7:=h5'.1.2;cases iter with
  |Name n np =>
   have h7:(N[i]? == some n&&a8 n)=true:=h7;rw[Á,beq_iff_eq] at h7;exact JV x h1 h7.1 h7.2 hb
  |_=>cases h7
 |none=>exact MP x h1 (MW x.toXI h2 h5) h3 hv hb
theorem JX(x:XS lm X G E N sc cn):∀ (s:Sm) {ss:List RM},Ew lm G.fns G.nums cn sc N s ss=true->GS X G E H0 zE s ss:=by
 intro s
 induction s with
 |nil =>
  intro ss h;have:ss=[]:=Ud.mp h;subst this;exact⟨λ_=>MD,λk=>by cases k⟩
 |seq s r ihs ihr =>
  intro ss h;obtain⟨st,h0,h⟩:=ao h;cases ss with
  |nil=>cases h0
  |cons st' rest =>
   cases h0;simp only[Á,î,List.tail_cons] at h;obtain⟨⟨⟨h1,h2⟩,h3⟩,h4⟩:=h;obtain⟨st',he,hs⟩:=(ihs h3).2 h1;cases he;exact⟨λ_=>ME hs ((ihr h4).1 h2),λk=>by cases k⟩
 |set p e =>
  intro ss h;obtain⟨⟨q,rfl⟩,-,h⟩:=ao h;simp only[Á] at h;exact ez rfl (MX x h.1.1.1 h.1.1.2 h.1.2 h.2)
 |ret e =>
  intro ss h;obtain⟨⟨q,rfl⟩,-,h⟩:=ao h;exact ez rfl (MY x h)
 |iff c t u iht ihu =>
  intro ss h;obtain⟨⟨q,rfl⟩,-,h⟩:=ao h;simp only[Á] at h;obtain⟨⟨⟨⟨⟨⟨h1,h2⟩,h3⟩,h4⟩,h5⟩,h6⟩,h7⟩:=h;exact ez rfl (Pc (az (aG h1) (sound G c x.toXI h5)) (vw h2) ((iht h6).1 h3) ((ihu h7).1 h4))
 |fr p it src b ih =>
  intro ss h;obtain⟨⟨q,rfl⟩,-,h⟩:=ao h;simp only[Á] at h;obtain⟨⟨⟨⟨⟨h1,h2⟩,h3⟩,h4⟩,h5⟩,h6⟩:=h;exact ez rfl (Po x h1 h2 h3 h5 ((ih h6).1 h4))
 |whl c b ih =>
  intro ss h;obtain⟨⟨q,rfl⟩,-,h⟩:=ao h;simp only[Á] at h;obtain⟨⟨⟨⟨h1,h2⟩,h3⟩,h4⟩,h5⟩:=h;exact ez rfl (MN x (az (aG h1) (sound G c x.toXI h4)) (vw h2) ((ih h5).1 h3))
 |rais c =>
  intro ss h;obtain⟨⟨⟨e,pos⟩,rfl⟩,-,h⟩:=ao h;dsimp only at h;obtain⟨⟨⟨n,p1,y,k,p2,p3⟩,rfl⟩,-,h⟩:=ao h;simp only[Á,beq_iff_eq] at h;exact ez rfl (x_raise x h.1 h.2)
 |exp e =>
  intro ss h;obtain⟨⟨q,rfl⟩,-,h⟩:=ao h;simp only[Á] at h;exact ez rfl (MJ (az (aG h.1.2) (sound G e x.toXI h.2)) h.1.1)
 |app i e =>
  intro ss h;obtain⟨⟨⟨v0,pos⟩,rfl⟩,-,h⟩:=ao h;dsimp only at h;obtain⟨⟨⟨n,p1,a,apos,v,cpos⟩,rfl⟩,-,h⟩:=ao h;simp only[Á,beq_iff_eq] at h;obtain⟨⟨⟨⟨⟨⟨h7,h8⟩,h2⟩,h3⟩,h4⟩,h5⟩,h6⟩:=h;subst h7;exact ez rfl (ML x h8 h2 h3 (az (aG h4) (sound G e x.toXI h6)) (by rw[h5];exact beq_self_eq_true _))
 |sti i ix e =>
  intro ss h;obtain⟨⟨⟨tg,v,pos⟩,rfl⟩,-,h⟩:=ao h;dsimp only at h;obtain⟨⟨⟨n,p1,w,tp⟩,rfl⟩,-,h⟩:=ao h;simp only[Á,beq_iff_eq] at h;obtain⟨⟨⟨⟨⟨⟨h1,h2⟩,h3⟩,h4⟩,h5⟩,h6⟩,h7⟩:=h;exact ez rfl (MM x h1 h2 (az (aG h4) (sound G e x.toXI h6)) (az (aG h5) (sound G ix x.toXI h7)) h3)
 |newz i f as =>
  intro ss h;obtain⟨⟨⟨tg,v,pos⟩,rfl⟩,-,h⟩:=ao h;dsimp only at h;obtain⟨⟨⟨y,p1⟩,rfl⟩,-,h⟩:=ao h;simp only[Á,beq_iff_eq] at h;obtain⟨⟨⟨h1,h2⟩,h3⟩,h4⟩:=h;exact ez rfl (JR x h1 h2 (az rfl (sound G (.call f as) x.toXI h4)) h3)
 |zset i e =>
  intro ss h;obtain⟨⟨⟨tg,v,pos⟩,rfl⟩,-,h⟩:=ao h;dsimp only at h;obtain⟨⟨⟨n,p1,c,p2,p3⟩,rfl⟩,-,h⟩:=ao h;simp only[Á,beq_iff_eq] at h;exact ez rfl (JS x h.1.1.1 h.1.1.2 (az (aG h.1.2) (sound G e x.toXI h.2)))
 |apop i j e =>
  intro ss h;obtain⟨⟨⟨v0,pos⟩,rfl⟩,-,h⟩:=ao h;dsimp only at h;obtain⟨⟨⟨n,p1,a,apos,v1,cpos⟩,rfl⟩,-,h⟩:=ao h;dsimp only at h;obtain⟨⟨⟨m,p2,b,apos',v,cpos'⟩,rfl⟩,-,h⟩:=ao h;simp only[Á,beq_iff_eq] at h;obtain⟨⟨⟨⟨⟨⟨⟨⟨⟨⟨g1,g2⟩,g3⟩,g4⟩,g5⟩,g6⟩,g7⟩,g8⟩,g9⟩,g10⟩,g11⟩:=h;subst g1;subst g2;exact ez rfl (JT x g3 g4 g5 g6 g7 (az (aG g8) (sound G e x.toXI g11)) (by rw[g9];exact beq_self_eq_true _) (by rw[g10];exact beq_self_eq_true _))
 |aug o i e =>
  intro ss h;obtain⟨⟨⟨y,p1,op,v,pos⟩,rfl⟩,-,h⟩:=ao h;simp only[Á,beq_iff_eq] at h;exact ez rfl (MK x h.1.1.1.1 h.1.1.1.2 h.1.1.2 (az (aG h.1.2) (sound G e x.toXI h.2)))
end
structure GX(P:Program)(w:World)(K:PySem.W.Frag)(mg:Str->Option Value)(base:Heap)(G:Gs)(cn:List Str):Prop where
 gok:∀ f nm ps,G.fns[f]?=some (nm,ps)->∃ fa fd,mg nm=some (.ref fa)/\PySem.W.keepIn K (.ref fa)=true/\Binds K fd ps []/\jQ P w K mg base (jE P w) G.lv fa fd ps (FI K G f ps.length)
 num:∀ p∈G.nums,∃ t,mg p.1=some (.int p.2 t)
 blt:∀ n∈xt,mg n=none
 cls:∀ c x,cn[c]?=some x->mg x=some (.ref (G.cls c))/\PySem.W.excIn K (G.cls c) [.type "ValueError",.type "Exception",.type "BaseException",.type "object"] "ValueError.__new__"=true
section
variable {P:â}{w:ó}{K:Â}{mg:Str->Zn}{base:ø}{G:Gs}{cn:Zk}
abbrev MZ(n k:Nat):Prop:=n=k + 2
abbrev Pp(k:Nat):Nat:=k
abbrev AI:Zk:=["_law_call"]
def zh(p1 p2 p3 p4 p5 p6 p7 p8:Pos):List Stmt:=[.Try [.Return (some (.Call (.Name "_law_call" p1) [] [] p2)) p3] [.ExceptHandler (some (.Name "ChanceError" p4)) none [.Return (some (.Constant .none 0 p5)) p6] p7] [] [] p8]
structure JY(st:Stmt):Prop where
 sc:fb AI AI (aP st)
 loc:AI.all (gB (aP st))=true
 g1:glob (aP st) "ChanceError"=true
 bd:∃ p1 p2 p3 p4 p5 p6 p7 p8,ff st=zh p1 p2 p3 p4 p5 p6 p7 p8
theorem Gg{st:RM}{f:Ì}{fd:Rt}{k:Nat}{q:Str}{C:Ì}(Fn:EW K "_law_made" "_law_made" st f fd)(D:JY st)(hC:mg "ChanceError"=some (.ref C)):uH P w K mg base (jE P w) (k + 2) f fd AI (CD P w K mg base k q):=by
 obtain⟨Sc,hl,g1,p1,p2,p3,p4,p5,p6,p7,p8,eb⟩:=D;obtain⟨oc,od,kV,doc,pm,an,cdv,ct,osl,rfl,lk,hcd⟩:=Fn.ex;refine IK lk hcd Sc (λs vs H Q E h=>?_) λA outer s H vs Q E hr hsp=>?_
 ·obtain⟨_,_,_,rfl,_⟩:=h;rfl
 obtain⟨Xl,t,ws,rfl,⟨rfl,rfl,rfl,rfl,rfl⟩,lf,la,FR,r⟩:=hsp;rw[eb];unfold zh;obtain⟨a1,a2,a3⟩:=bS g1;have v0:HJ (aP st) "_law_call":=by
  have:=Õ.mp hl "_law_call" 1e1
  unfold gB at this;rw[QL,beq_iff_eq,beq_iff_eq] at this;rcases this with h | h
  ·exact .inl h
  ·exact .inr (.inl h)
 refine⟨_,EE (Fj (k:=k + 1) (i:=0) (D:=C) rfl rfl hr rfl v0 rfl rfl a1 hC a2),?_⟩;refine⟨t.f,rfl,?_⟩;have fr:∀ {aa:List (Ì × Obj)}{s':É},Inv (gu (jE Xl.prog Xl.w) Xl.prog Xl.w Xl.K Xl.mg Xl.base AI "_law_made" (aP st) f cdv A outer s H E) aa (L2.start AI [.ref t.f]) H s'->jX t.cJ t.cl t.N ws H s'.heap:=λI=>FR.later I.base;rcases r with ⟨C',j,RR,rs,rc,h2⟩ | ⟨gv,gg,h2⟩
 ·obtain⟨D',d1,d2⟩:=rc.ce;rw[hC] at d1;cases d1;exact .inl ⟨C',RR,λaa s' I=>B6 (X:=Xl) lf la (fr I) rs,d2,h2⟩
 ·exact .inr ⟨gv,λaa s' I=>Al (X:=Xl) lf la (fr I) gg,h2⟩
structure Gh(P:Program)(w:World)(K:PySem.W.Frag)(mg:Str->Option Value)(base:Heap)(cls:Nat->Addr)(fR:Addr)(fdR:FuncData):Prop where
 bm:BMain mg base
 cls:∀ j,j < 12->lJ K mg (cls j) j
 m:mg "_law_made"=some (.ref fR)
 kp:PySem.W.keepIn K (.ref fR)=true
 bd:Binds K fdR ["_law_call"] []
 fn:∀ (k:Nat) (q:Str),uH P w K mg base (jE P w) (k + 2) fR fdR ["_law_call"] (CD P w K mg base k q)
def Gi(K:Â)(nm:Str)(fd:Rt):Prop:=∃ (c P:Ì) (q:Str),fd.code=.ref c/\Rv K c P=true/\(∀ sc n f cd,(T2 nm sc n f cd).qual++"<lambda>"=q)/\(P,q)∈TB.tb/\∀ p∈TB.tb,p.1=P->p.2=q
def IA(P:â)(w:ó)(K:Â)(mg:Str->Zn)(base:ø)(G:Gs)(k:Nat):Prop:=∀ f nm ps,G.fns[f]?=some (nm,ps)->∃ fa fd,mg nm=some (.ref fa)/\Ur K (.ref fa)=true/\Binds K fd ps []/\jQ P w K mg base (jE P w) k fa fd ps (FI K (lowG G k) f ps.length)
theorem JZ(g:GX P w K mg base G cn){lm:Bool}{N ps:Zk}{qual:Str}{sc:tv}{f:Ì}{fd:Rt}{cd:Å}{A:ö}{outer:List RZ}{s:É}{H:Hp}{E:XK}(S:fb N ps sc)(hl:N.all (gB sc)=true)
 (hr:dW G.lv (A.deeper (T2 qual sc s.heap.objs.size f cd))) (hc:fd.code=cd) (hlam:lm=true->∃ k fR fdR,MZ G.lv k/\Gh P w K mg base G.cls fR fdR/\Gi K qual fd/\IA P w K mg base G k):XS lm (gu (jE P w) P w K mg base N qual sc f cd A outer s H E) G E N sc cn where
 gok:=g.gok
 num:=g.num
 blt:=g.blt
 hN:=rfl
 nd:=S.nd
 vis:=λx hx=>by
  have:=Õ.mp hl x hx;unfold gB at this;rw[QL,beq_iff_eq,beq_iff_eq] at this;rcases this with h | h
  ·exact .inl h
  ·exact .inr (.inl h)
 glb:=λx h=>h
 cel:=λx h=>h
 calm:=rfl
 room:=hr
 pas:=LL
 lam:=λh=>by
  obtain⟨k,fR,fdR,e1,L,⟨c,P',q,d1,d2,d3,d4,d5⟩,lo⟩:=hlam h;exact⟨c,P',q,k,fR,fdR,rfl,hc.symm.trans d1,d2,d3 _ _ _ _,d4,d5,L.bm,e1,L.cls,L.m,L.kp,L.bd,L.fn k q,lo⟩
 sco:=rfl
 fnk:=S.kind
 own:=PassesOwn.leaving
 can:=Aj
 fnx:=λ_=>rfl
 cls:=g.cls
theorem Pq{x qual:Str}{st:RM}{f:Ì}{fd:Rt}{N ps:Zk}{k:Nat}{sp:Sp}(F:EW K x qual st f fd)(S:fb N ps (aP st))(len:∀ vs H Q E,sp vs H Q E->vs.length=ps.length)
 (hb:∀ (cdv:Å),fd.code=cdv->∀ (A:ö) (outer:List RZ) (s:É) (H:Hp) (vs:List V) (Q:VK) (E:XK),dW k (A.deeper (T2 qual (aP st) s.heap.objs.size f cdv))->sp vs H Q E ->
   ∃ t,mr (gu (jE P w) P w K mg base N qual (aP st) f cdv A outer s H E) (ff st) t/\t { nx:=λ_ H'=>Q .bp H',rt:=Q } (L2.start N vs) H):jQ P w K mg base (jE P w) (k + 1) f fd ps sp:=by
 obtain⟨oc,od,kV,doc,pm,an,cdv,ct,osl,rfl,lk,hcd⟩:=F.ex;exact Ls lk hcd S len λA outer s H vs Q E hr hsp=>hb cdv rfl A outer s H vs Q E hr hsp
theorem vx:∀ {ss:List S}{vs:List V}{i:Nat}{s:S}{n:Nat},pZ K zA H ss vs->(ss.map some++Sf n none)[i]?=some (some s)->∃ v,(vs.map some++Sf n none)[i]?=some (some v)/\wy K zA H s v
 |[],_,i,s,n,h,e=>by
  cases h;simp only[VD,RN] at e;rw[Ue] at e;split at e <;> cases e
 |a::ss,_,0,s,n,h,e=>by
  cases h with
  |cons h1 h2 =>
   simp only[QS,T3,Sz] at e;cases e;exact⟨_,rfl,h1⟩
 |a::ss,_,i + 1,s,n,h,e=>by
  cases h with
  |cons h1 h2 =>
   obtain⟨v,k1,k2⟩:=vx (i:=i) (s:=s) (n:=n) h2 (by simpa using e)
   exact⟨v,by simpa using k1,k2⟩
theorem Rx.len{α β:Type}{R:α->β->Prop}:∀ {l:List α}{m:List β},Rx R l m->l.length=m.length
 |[],_,h=>by cases h;rfl
 |_::_,_,h=>by
  cases h with
  |cons h1 h2=>simp[Rx.len h2]
theorem Ds(h:pZ K zA H ss vs)(hn:∀ s∈ss,∀ xs,s≠.fr xs):RW K H zA zA (λ_=>none) H (Q.start N.length ss) (L2.start N vs):=by
 have hl:ss.length=vs.length:=Rx.len h;refine⟨?_,λi j a e=>(nomatch e),λi a e=>(nomatch e),λi a e=>(nomatch e),λi s e=>?_,Ext.refl,.inl rfl,λi a e=>(nomatch e)⟩
 ·unfold Q.start L2.start;simp[hl]
 ·unfold Q.start at e;obtain⟨v,k1,k2⟩:=vx h e;refine⟨v,?_,?_⟩
  ·unfold L2.start;rw[← hl];exact k1
  ·cases s with
   |d x=>exact⟨rfl,by rw[jH];exact k2⟩|z=>exact⟨rfl,k2⟩
   |fr xs =>
    rcases ë.mp (ð e) with q | q
    ·obtain⟨s',q1,q2⟩:=Ç.mp q;cases q2;exact absurd rfl (hn _ q1 xs)
    ·cases List.eq_of_mem_replicate q
theorem Dt(st:aM zA z H):F5 zA z1=cW z z1:=by
 have st:=st.zat;cases zA with
 |none =>
  cases z with
  |none=>rfl|some p=>exact st.elim
 |some a =>
  cases z with
  |none=>exact st.elim|some p=>rfl
theorem AJ(st:aM zA z H):z.isNone=zA.isNone:=by
 have st:=st.zat;cases zA with
 |none =>
  cases z with
  |none=>rfl|some p=>exact st.elim
 |some a =>
  cases z with
  |none=>exact st.elim|some p=>rfl
theorem zi(g:GX P w K mg base G cn){lm:Bool}{N ps:Zk}{nm:Str}{st:RM}{fa:Ì}{fd:Rt}{b:Sm}{f:Nat}{F':FT}(Fn:EW K nm nm st fa fd)(Sc:fb N ps (aP st))(hl:N.all (gB (aP st))=true)
 (ch:Ew lm G.fns G.nums cn (aP st) N b (ff st)=true) (hq:isQ b=true) (hlam:lm=true->∃ k fR fdR,MZ G.lv k/\Gh P w K mg base G.cls fR fdR/\Gi K nm fd/\IA P w K mg base G k)
 (hF:∀ l z,F' false f l z=run G.F (.code ps.length N.length b) l z):jQ P w K mg base (jE P w) (G.lv + 1) fa fd ps (FI K { G with F:=F',lv:=G.lv + 1 } f ps.length):=by
 refine Pq Fn Sc (λvs H Q E h=>h.1) λcdv hcd A outer s H vs Qv E hr hsp=>?_;obtain⟨hlen,zA,z,ss,r,rv,st',e,po⟩:=hsp;refine⟨_,(JX (H0:=H) (zE:=zA) (JZ g Sc hl hr hcd hlam) b ch).1 hq,?_⟩;have e0:(if ss.length=ps.length/\ps.length<=N.length then(match ex G.F z.isNone b (Q.start N.length (ss.map gK)) z with
  |some (.ok (.nx _) z1)=>some (R.ok (S.d .bp) (cW z z1))|some (.ok (.rt s) z1)=>some (R.ok s (cW z z1))|some (.er c z1)=>some (R.er c (cW z z1))
  |none=>none) else none)=some r:=by
  have:=hF ss z;exact this.symm.trans e
 rw[AJ st'] at e0;split at e0
 ·have rw0:RW K H zA zA (λ_=>none) H (Q.start N.length (ss.map gK)) (L2.start N vs):=Ds rv.gK λs hs xs=>by
   obtain⟨s',_,rfl⟩:=Ç.mp hs;cases s' <;> exact λh=>nomatch h
  split at e0
  ·rename_i ρ z1 e1;cases e0;refine⟨zA,_,_,z,_,rw0,st',e1,λzA' ow' σ' H' r' aY _=>?_⟩;refine po .bp H' r'.ext ?_ (show Hd K (hz zA H') .bp .bp from Hd.bp);rw[← Dt st'];exact AG r'.zok aY
  ·rename_i s1 z1 e1;cases e0;refine⟨zA,_,_,z,_,rw0,st',e1,λv H' nz x aY rv'=>?_⟩;exact po v H' x (by rw[← Dt st'];exact aY) rv'
  ·rename_i c z1 e1;cases e0;refine⟨zA,_,_,z,_,rw0,st',e1,λe H' x aY hn=>?_⟩;exact po e H' x (by rw[← Dt st'];exact aY) hn
  ·cases e0
 ·cases e0
def Hj(G:Gs)(T:List Df)(k:Nat):Gs:={ G with F:=fD T k,lv:=k }
theorem J0{T:List Df}
 (num:∀ p∈G.nums,∃ t,mg p.1=some (.int p.2 t)) (blt:∀ n∈xt,mg n=none)
 (cls:∀ c x,cn[c]?=some x->mg x=some (.ref (G.cls c))/\SO K (G.cls c) [.type "ValueError",.type "Exception",.type "BaseException",.type "object"] "ValueError.__new__"=true)
 (hd:∀ (f:Nat) (nm:Str) (ps:Zk),G.fns[f]?=some (nm,ps)->∃ (fa:Ì) (fd:Rt),mg nm=some (.ref fa)/\Ur K (.ref fa)=true/\Binds K fd ps [] /\
   ((∃ (lm:Bool) (N:Zk) (st:RM) (b:Sm),T[f]?=some (Df.code ps.length N.length b)/\EW K nm nm st fa fd/\fb N ps (aP st)/\N.all (gB (aP st))=true/\isQ b=true/\Ew lm G.fns G.nums cn (aP st) N b (ff st)=true/\(lm=true->∃ fR fdR,Gh P w K mg base G.cls fR fdR/\Gi K nm fd)) \/
    T[f]?=none)):∀ k,GX P w K mg base (Hj G T k) cn:=by
 have zero:∀ k,k < 3->GX P w K mg base (Hj G T k) cn:=λk hk=>by
  refine⟨λf nm ps h=>?_,num,blt,cls⟩;obtain⟨fa,fd,h1,h2,h3,_⟩:=hd f nm ps h;refine⟨fa,fd,h1,h2,h3,λvs H Q E q=>q.1,λA outer s H args us vs Q E hr he hb hv hs=>?_⟩;obtain⟨_,zA,z,ss,r,_,_,e,_⟩:=hs
  match k,hk with
  |0,_=>cases e
  |1,_=>cases e
  |2,_=>cases e
 intro k
 induction k using YX with
 |ind k ih =>
  match k,ih with
  |0,_=>exact zero 0 1e1|1,_=>exact zero 1 1e1|2,_=>exact zero 2 1e1
  |k + 3,ih =>
   refine⟨λf nm ps h=>?_,num,blt,cls⟩;obtain⟨fa,fd,h1,h2,h3,h4⟩:=hd f nm ps h;refine⟨fa,fd,h1,h2,h3,?_⟩;rcases h4 with ⟨lm,N,st,b,k1,k2,k3,k4,k5,k6,k7⟩ | h4
   ·refine zi (G:=Hj G T (k + 2)) (F':=fD T (k + 3)) (ih (k + 2) ∅) k2 k3 k4 k6 k5 (λhlm=>?_) λl z=>?_
    ·obtain⟨fR,fdR,L,D⟩:=k7 hlm;exact⟨k,fR,fdR,rfl,L,D,λf nm ps h=>(ih k ∅).gok f nm ps h⟩
    ·show(match T[f]? with | some d=>run (fD T (k + 2)) d l | none=>Zg) z=_
     rw[k1];rfl
   ·refine⟨λvs H Q E q=>q.1,λA outer s H args us vs Q E hr he hb hv hs=>?_⟩;obtain⟨_,zA,z,ss,r,_,_,e,_⟩:=hs;have e':(match T[f]? with | some d=>run (fD T (k + 2)) d ss | none=>Zg) z=some r:=e
    rw[h4] at e';cases e'
end
end Q
namespace L2
open PySem PySem.W PySem.Calls PyProof.Rows
def kW(thr sok:Thread->Bool)(stp:WM->Thread->Option (WM × Thread)):Nat->WM->Thread->Option WM
 |0,_,_=>none
 |n + 1,s,t=>match thr t with
  |true=>some s
  |false=>match sok t with
   |false=>none
   |true=>match stp s t with
    |some (s',t')=>kW thr sok stp n s' t'|none=>none
theorem qX:∀ {n:Nat}{s s':WM}{t:Thread},kW through (stepOk n₀ ann) (stepT (denote tb) p w) n s t=some s'->topRun tb p w n₀ ann n s.abs t=some s'.abs
 |0,_,_,_,h=>by cases h
 |n + 1,s,s',t,h=>by
  unfold kW at h;unfold topRun;cases ht:through t with
  |true=>rw[ht] at h;cases h;rfl
  |false =>
   rw[ht] at h;cases aV:stepOk n₀ ann t with
   |false=>rw[aV] at h;cases h
   |true =>
    rw[aV] at h;cases hst:stepT (denote tb) p w s t with
    |none=>rw[hst] at h;cases h
    |some r=>obtain⟨s₂,t₂⟩:=r;rw[hst] at h;rw[stepT_spec hst];exact qX h
def grow:List Obj->Nat->BT->BT
 |[],_,t=>t|o::r,i,t=>grow r (i + 1) (t.ins i o)
def Dw(w:ó)(os:WO):SharedT:=⟨grow (Sq w.params).objs.toList 0 .nil,11,(Sq w.params).life,Xg [],Y9,boot_toks,os⟩
def AK:∀ (w:ó) (os:WO),(Dw w os).abs=⟨Sq w.params,Xg [],Y9,boot_toks,os⟩:=λw os=>by kernel_rfl
def AL:∀ w:ó,((Sq w.params).isNs ì&&(Xg []:Array YL).size == 0,(Sq w.params).objs.size,(Sq w.params).nsMap ì "__annotations__")=(true,11,some (.ref 6)):=λw=>by kernel_rfl
theorem Gj{p q:â}{loose:Zk}{Xt:É->Bool}{α:Type}{Yf:É->α}{Ya:ó->α}{N:Nat}
 (e:opening p=plainProg p.main.scope.names) (hN:ble 600 N=true) (f:∀ s,fenceModules? p s=some s)
 (run:∀ (w:ó) (os:WO),(kW through (stepOk 11 (some (.ref 6))) (stepT (denote treeTable) p w) N (Dw w os) (topStub p)).map (λs =>
   (staticsOk (Tn p.main.body) (Sq w.params) s.abs.heap&&namesBound p s.abs.heap&&gensDone s.abs&&laidKept (Sq w.params) s.abs.heap,
    openSeen q loose (Tn p.main.body) Xt true s.abs,Yf s.abs))=some (true,openGood q loose,Ya w)):LeftO p q loose Xt Yf Ya N:=λw=>by
 obtain⟨⟨h,gs,d,k,os⟩,e1,e2⟩:=Ð.mp (boot_open (N:=N) e hN f w);obtain⟨rfl,rfl,rfl,rfl⟩:h=Sq w.params/\gs=Xg []/\d=Y9/\k=boot_toks:=by simpa using e2
 obtain⟨z1,z2,z3⟩:_/\_/\_:=by simpa only [Tp] using AL w
 obtain⟨s1,r1,r2⟩:=Ð.mp (run w os);obtain⟨l1,l2,l3⟩:_/\_/\_:=by simpa only [Tp] using r2
 have r:=qX r1;rw[AK] at r;unfold openEnds;rw[e1];show S9 _ (topFrom treeTable p w N _)=_;unfold topFrom;dsimp only;rw[z1,z2,z3,r];show S9 _ (match staticsOk (Tn p.main.body) (Sq w.params) s1.abs.heap&&namesBound p s1.abs.heap&&gensDone s1.abs&&laidKept (Sq w.params) s1.abs.heap with | true=>_ | false=>_)=_
 rw[l1];exact congrArg Option.some (YW l2 l3)
def oN(o:Obj):Bool:=match o with
 |⟨.none,none,.fields vs,sl⟩=>vs.isEmpty&&sl.isEmpty|_=>false
def J1(h:ø)(a:Ì):Option Obj:=match h.get? a with
 |some o=>if oN o then none else some o|none=>none
def fragOf(h:ø):Frag:=(Ö h.objs.size).filterMap λa=>(J1 h a).map λo=>(a,o)
theorem jJ(g:Ì->Option Obj)(a:Ì):∀ l:Zr,(l.filterMap λa=>(g a).map λo=>(a,o)).lookup a=if a∈l then g a else none
 |[]=>rfl
 |b::r=>by
  by_cases hb:a=b
  ·subst hb;rw[if_pos Ë];cases hg:g a with
   |none =>
    rw[QC,hg];show(r.filterMap λa=>(g a).map λo=>(a,o)).lookup a=none;rw[jJ g a r];split
    ·exact hg
    ·rfl
   |some o =>
    rw[QC,hg];show SY a ((a,o)::_)=some o;rw[List.lookup_cons_self]
  ·have hm:(a∈b::r)↔a∈r:=by rw[ü];exact⟨λh=>h.resolve_left hb,Or.inr⟩
   have ih:=jJ g a r;have e:(if a∈b::r then g a else none)=if a∈r then g a else none:=by simp only[hm]
   rw[e,← ih];cases hg:g b with
   |none=>rw[QC,hg];rfl
   |some o =>
    rw[QC,hg];show SY a ((b,o)::_)=_;have:(a == b)=false:=by simpa using hb
    simp only[SY,this]
theorem AM(h:ø):(fragOf h).In h:=λa o e=>by
 unfold fragOf at e;rw[jJ] at e;split at e
 ·unfold J1 at e;cases hg:h.get? a with
  |none=>rw[hg] at e;cases e
  |some u =>
   rw[hg] at e;dsimp only at e;split at e
   ·cases e
   ·exact e
 ·cases e
theorem Gk(h:oN o=true):o=tabObj #[]:=by
 unfold oN at h;split at h
 ·rename_i vs sl;rw[Á,XZ,XZ] at h;obtain⟨rfl,rfl⟩:=h;rfl
 ·cases h
theorem xH(e:h.get? a=some o)(t:oN o=true):(fragOf h).lookup a=none:=by
 unfold fragOf;rw[jJ];split
 ·unfold J1;rw[e];exact if_pos t
 ·rfl
def xI(K:Xd)(x:Str):Option (Str × Str × Su × FuncBody × tv × Ì × List (Str × Ì) × Å × Ì × Bool):=match Yy K ì x with
 |some (some (.ref at0))=>(match K.lookup at0 with
  |some ⟨_,_,.func fd,_⟩=>some (fd.name,fd.qualname,fd.params,fd.body,fd.scope,fd.globals,fd.closure,fd.defaults,fd.builtins,codeIn K fd.code x)
  |_=>none)
 |_=>none
def Dx(x:Str)(st:RM):Option (Str × Str × Su × FuncBody × tv × Ì × List (Str × Ì) × Å × Ì × Bool):=some (x,x,m8 st,.stmts (ff st),aP st,ì,[],.none,S4,true)
theorem vz{K:Xd}{x:Str}{st:RM}(e:xI K x=Dx x st):∃ f fd,Yy K ì x=some (some (.ref f))/\EW K x x st f fd/\∃ oc od sl,K.lookup f=some ⟨oc,od,.func fd,sl⟩:=by
 unfold xI Dx at e;split at e
 ·rename_i f hf;split at e
  ·rename_i oc od fd sl hl;obtain⟨nm,qn,pm,bd,sc,gl,cl,df,kd,dc,py,an,cd,ct,bl⟩:=fd;simp only[Tp,Sk] at e;obtain⟨rfl,rfl,rfl,rfl,rfl,rfl,rfl,rfl,rfl,hc⟩:=e;exact⟨f,_,hf,⟨⟨oc,od,kd,dc,py,an,cd,ct,sl,rfl,hl,hc⟩,by simp only[keepIn,hl]⟩,oc,od,sl,hl⟩
  ·cases e
 ·cases e
def tab0At(h:ø)(T:Ì):Bool:=match h.get? T with
 |some o=>oN o|none=>false
theorem AN{h:ø}{T:Ì}(e:tab0At h T=true):h.get? T=some (tabObj #[]):=by
 unfold tab0At at e;split at e
 ·rename_i o ho;rw[ho,Gk e]
 ·cases e
def xJ(h:ø)(K:Xd)(x:Str):Option Addr:=match Yy K ì x with
 |some (some (.ref at0))=>(match K.lookup at0 with
  |some ⟨_,_,.func fn0,_⟩=>(match fn0.code with
   |.ref c=>(match K.lookup c with
    |some ⟨_,_,.fields vs,_⟩=>(match (vs[11]?:Zn) with
     |some (.ref T)=>if codeHdIn K c T&&tab0At h T then some T else none
     |_=>none)
    |_=>none)
   |_=>none)
  |_=>none)
 |_=>none
theorem xK{h:ø}{K:Xd}{x:Str}{T:Ì}(e:xJ h K x=some T):h.get? T=some (tabObj #[])/\∃ f oc od fd sl c,Yy K ì x=some (some (.ref f))/\K.lookup f=some ⟨oc,od,.func fd,sl⟩/\fd.code=.ref c/\codeHdIn K c T=true:=by
 unfold xJ at e;split at e
 ·rename_i f hf;split at e
  ·rename_i oc od fd sl hl;split at e
   ·rename_i c hc;split at e
    ·split at e
     ·rename_i T' _;split at e
      ·rename_i q;cases e;rw[Á] at q;obtain⟨q1,q2⟩:=q;exact⟨AN q2,f,oc,od,fd,sl,c,hf,hl,hc,q1⟩
      ·cases e
     ·cases e
    ·cases e
   ·cases e
  ·cases e
 ·cases e
def dg:Zk:=["NoWeb","NoWeb","NoPlaces","NoPlace","NoTie","NoChance","NoChances","NoWeb","TooMany","NoWeb","NoWeb","NoWeb"]
def mG(K:Xd)(x:Str):Option Addr:=match Yy K ì x with
 |some (some (.ref f))=>some f|_=>none
theorem vA{K:Xd}{x:Str}{f:Ì}(e:mG K x=some f):Yy K ì x=some (some (.ref f)):=by
 unfold mG at e;split at e
 ·cases e;assumption
 ·cases e
abbrev M0:=Option Zn × Option Zn × Zs × Zs × Option Zn × Bool × Zs × Zs × Bool × List Zs
def sM(K:Xd)(C:Ì):M0:=(findIn K (.ref C) "__getattribute__",findIn K (.ref C) "__getattr__",mroIn K C (.type "BaseException"),mroIn K C (.type "object"),findIn K (.ref C) "__class__",hasDictIn K C,kitOne K (.ref C) (.type "ValueError"),
 (mG K "ChanceError").bind λD=>exmOne K (.ref C) (.ref D),excIn K C [.type "ValueError",.type "Exception",.type "BaseException",.type "object"] "ValueError.__new__",dg.map λy=>(mG K y).bind λB=>kitOne K (.ref C) (.ref B))
def xM(x:Str):M0:=(some (some (Wq "BaseException.__getattribute__")),some (none:Zn),some true,some true,some (some (Wq "object.__class__")),true,some true,some true,true,dg.map λy=>some (decide (x=y)))
def sO(K:Xd)(x:Str):Zp:=match Yy K ì x with
 |some (some (.int i _))=>some i|_=>none
theorem vB{K:Xd}{x:Str}{i:Int}(e:sO K x=some i):∃ t,Yy K ì x=some (some (.int i t)):=by
 unfold sO at e;split at e
 ·rename_i t h;cases e;exact⟨t,h⟩
 ·cases e
def sP(K:Xd)(x:Str):Bool:=match Yy K ì x with
 |some none=>true|_=>false
theorem vC{K:Xd}{x:Str}(e:sP K x=true):Yy K ì x=some none:=by
 unfold sP at e;split at e
 ·assumption
 ·cases e
structure cx where
 ds:List (Str × Stmt)
 is:List (Str × Int)
 ns:List Str
 ms:List Str
 cs:List Str
def cx.obs(q:cx)(s:É):=
 let K:=fragOf s.heap
 (q.ds.map λd=>xI K d.1,q.is.map λd=>sO K d.1,q.ns.map (sP K),q.ms.map λx=>(xJ s.heap K x).isSome,q.cs.map λx=>(mG K x).map (sM K),
  (specialIn K (.builtin "object.__class__") "__get__",takesIn K (.builtin "object.__class__")))
def cx.NN(q:cx)(_:ó):=
 (q.ds.map λd=>Dx d.1 d.2,q.is.map λd=>some d.2,q.ns.map λ_=>true,q.ms.map λ_=>true,q.cs.map λx=>some (xM x),
  (some (some (Wq "getset_descriptor.__get__")),some true))
structure Facts(q:cx)(K:Frag)(h:Heap):Prop where
 fn:∀ d∈q.ds,∃ f fd,nsIn K mainGlobals d.1=some (some (.ref f))/\EW K d.1 d.1 d.2 f fd/\∃ oc od sl,K.lookup f=some ⟨oc,od,.func fd,sl⟩
 it:∀ d∈q.is,∃ t,nsIn K mainGlobals d.1=some (some (.int d.2 t))
 no:∀ x∈q.ns,nsIn K mainGlobals x=some none
 mt:∀ x∈q.ms,∃ T,h.get? T=some (tabObj #[])/\K.lookup T=none/\∃ f oc od fd sl c,nsIn K mainGlobals x=some (some (.ref f))/\K.lookup f=some ⟨oc,od,.func fd,sl⟩/\fd.code=.ref c/\codeHdIn K c T=true
 cl:∀ x∈q.cs,∃ C,nsIn K mainGlobals x=some (some (.ref C))/\sM K C=xM x
 sp:specialIn K (.builtin "object.__class__") "__get__"=some (some (Value.builtin "getset_descriptor.__get__"))
 tk:takesIn K (.builtin "object.__class__")=some true
def oO{α β:Type}{f g:α->β}:∀ {l:List α},l.map f=l.map g->∀ a∈l,f a=g a:=λ{l} h a ha=>List.map_inj_left.mp h a ha
theorem cx.facts(q:cx)(w:ó)(s:É)(e:q.obs s=q.NN w):Facts q (fragOf s.heap) s.heap:=by
 unfold cx.obs cx.NN at e;simp only[Tp] at e;obtain⟨e1,e2,e3,e4,e5,e6,e7⟩:=e;refine⟨λd hd=>vz (oO e1 d hd),λd hd=>vB (oO e2 d hd),λx hx=>vC (oO e3 x hx),λx hx=>?_,λx hx=>?_,e6,e7⟩
 ·obtain⟨T,hT⟩:=Wd.mp (oO e4 x hx);obtain⟨h1,h2⟩:=xK hT;exact⟨T,h1,xH h1 rfl,h2⟩
 ·obtain⟨C,h1,h2⟩:=Ð.mp (oO e5 x hx);exact⟨C,vA h1,h2⟩
def cx.hook(q:cx):Hook where
 α:=_
 obs:=q.obs
 val:=q.NN
 says:=λ_ h=>∃ K:Xd,K.In h/\Facts q K h
 of:=λw s e=>⟨_,AM _,q.facts w s e⟩
 keeps:=λ_ h h' ⟨K,X,F⟩ k=>⟨K,X.keeps k,⟨F.fn,F.it,F.no,λx hx=>let ⟨T,a,b⟩:=F.mt x hx;⟨T,k _ _ a,b⟩,F.cl,F.sp,F.tk⟩⟩
end L2
namespace Q
open PySem L2 PySem.Spec PyProof.Rows
structure Row where
 nm:Str
 ps:List Str
 st:Stmt
 N:List Str
 b:Sm
 lm:Bool
def xN(N ps:Zk)(sc:tv):Bool:=sc.kind == .function&&!sc.isCoroutine&&!sc.isGenerator&&decide N.Nodup&&N.take ps.length == ps&&ps.all (λx=>sc.names.lookup x == some .local || sc.names.lookup x == some .cell)&&sc.names.all λy=>y.2 != .free
theorem oP(h:xN N ps sc=true):fb N ps sc:=by
 unfold xN at h;simp only[Á,î,beq_iff_eq,Rp,decide_eq_true_eq,QL] at h;obtain⟨⟨⟨⟨⟨⟨h1,h2⟩,h3⟩,h4⟩,h5⟩,h6⟩,h7⟩:=h;exact⟨h1,h2,h3,h4,h5,h6,λy hy=>by simpa using h7 y hy⟩
def xO(r:Row):Prop:=∀ (kV doc pm:Å) (an:Zl) (cdv ct:Å) (us:Zj),us.length=r.ps.length->W4 (fnOf r.nm r.nm (m8 r.st) (ff r.st) (aP r.st) .none kV doc pm an cdv ct) ⟨us,[]⟩=pure (r.ps.zip us)
def gd:List Row->Prop
 |[]=>True|r::l=>xO r/\gd l
theorem gd.at:∀ {l:List Row}{r:Row},gd l->r∈l->xO r
 |_::_,_,h,.head _=>h.1|_::_,_,h,.tail _ m=>gd.at h.2 m
def P1(h:us.length=1):∃ a,us=[a]:=List.length_eq_one_iff.mp h
theorem Qk(h:us.length=2):∃ a b,us=[a,b]:=by
 match us,h with
 |[a,b],_=>exact⟨a,b,rfl⟩
theorem Ql(h:us.length=3):∃ a b c,us=[a,b,c]:=by
 match us,h with
 |[a,b,c],_=>exact⟨a,b,c,rfl⟩
theorem Qm(h:us.length=4):∃ a b c d,us=[a,b,c,d]:=by
 match us,h with
 |[a,b,c,d],_=>exact⟨a,b,c,d,rfl⟩
theorem Qn(h:us.length=5):∃ a b c d e,us=[a,b,c,d,e]:=by
 match us,h with
 |[a,b,c,d,e],_=>exact⟨a,b,c,d,e,rfl⟩
def AO(fns:List (Str × Zk))(nums:List (Str × Int))(r:Row):Bool:=Ew r.lm fns nums dg (aP r.st) r.N r.b (ff r.st)&&isQ r.b&&r.N.all (gB (aP r.st))&&xN r.N r.ps (aP r.st)
def j8(rows:List Row):List (Str × Zk):=rows.map λr=>(r.nm,r.ps)
def tabOf(rows:List Row):List Df:=rows.map λr=>Df.code r.ps.length r.N.length r.b
def lX(rows:List Row)(nums:List (Str × Int))(mn:Zk)(ex:List (Str × RM)):cx:=⟨rows.map (λr=>(r.nm,r.st))++ex,nums,"ValueError"::xt,mn,dg⟩
def clsAt(K:Â)(c:Nat):Addr:=(mG K (dg.getD c "")).getD 0
theorem J2{K:Â}{C:Ì}{c:Nat}{x:Str}(hc:dg[c]?=some x)(h:T4 K ì x=some (some (.ref C))):clsAt K c=C:=by
 unfold clsAt;rw[Æ,hc];show(mG K x).getD 0=C;unfold mG;rw[h];rfl
theorem J3{K:Â}{h:ø}{mg:Str->Zn}{q:cx}{x:Str}{j:Nat}(X:K.In h)(G:h.Ns ì mg)(F:Facts q K h)(hx:x∈q.cs)(hj:dg[j]?=some x)(hv:("ValueError":Str)∈q.ns):∃ C,T4 K ì x=some (some (.ref C))/\lJ K mg C j/\SO K C [.type "ValueError",.type "Exception",.type "BaseException",.type "object"] "ValueError.__new__"=true:=by
 obtain⟨C,hC,e⟩:=F.cl x hx;unfold sM xM at e;simp only[Tp] at e;obtain⟨u1,u2,u3,u4,u5,hd,ve,ce,ex,ys⟩:=e;obtain⟨D,hD,ce⟩:=Ï.mp ce;have lt:j < 12:=(ç.mp hj).1;exact⟨C,hC,⟨⟨u1,u2,u3,u4,u5,F.sp,F.tk⟩,hd,ve,mg_none_of X G (F.no _ hv),⟨D,XG X G (vA hD),ce⟩,lt⟩,ex⟩
section
variable {P:â}{w:ó}{K:Â}{mg:Str->Zn}{base:ø}
theorem Qo(F:jQ P w K mg base (jE P w) k f fd ps sp):jQ P w K mg base Lw k f fd ps (λvs H Q _=>sp vs H Q λ_ _ _=>False):=
 ⟨λvs H Q E h=>F.len _ _ _ _ h,λA outer s H args us vs Q E hr he hb hv hs=>RP (F.run A outer s H args us vs Q _ hr he hb hv hs) λr s' h=>by
  cases r with
  |error e =>
   obtain⟨_,_,_,_,_,_,_,_,_,_,_,_,_,hE⟩:=h;exact hE.elim
  |ok fl=>cases fl <;> exact h⟩
theorem Pu:Ws (#[]:Zo).toList:=by first | trivial | (unfold Ws;trivial)
theorem cY.Bb[TB:Tb](h:cY K H a xs):cY K (hz none H) a xs:=by
 rcases h with (h | ⟨o,h⟩) | h
 ·exact .inl (.inl (bw h (λq=>nomatch q)))
 ·exact .inl (.inr ⟨o,bw h (λq=>nomatch q)⟩)
 ·exact .inr h
theorem J4[TB:Tb]{G:Gs}{T:List Df}{k f:Nat}{H:Hp}{a:Ì}{ns:Zi}(pure:aA T k f [.d (.lst (ns.map D.int))] none=some (.ok (.d (.bl true)) none))(hH:∀ p∈TB.tb,H p.1=some (.tbl #[]))(hS:cY K H a (ns.map V.int)) :
 FI K (Hj G T k) f 1 [.ref a] H (λv _=>v=.bl true) λ_ _ _=>False:=by
 refine⟨rfl,none,none,[.d (.lst (ns.map D.int))],_,.cons ?_ .nil,⟨trivial,λp hp=>⟨#[],hH p hp,Pu,λpos c e=>nomatch e⟩⟩,pure,λv H' x st rv=>Hd.yG (show Hd K (hz none H') (.bl true) v from rv)⟩;show Hd K (hz none H) (.lst (ns.map D.int)) (.ref a);unfold Hd;exact⟨a,ns.map V.int,rfl,hS.Bb,aK.ints ns⟩
end
def M1(nm:Str):Str:=(T2 nm ⟨.function,[],false,false,[]⟩ 0 0 .none).qual++"<lambda>"
theorem J5{rows:List Row}{f:Nat}{nm:Str}{ps:Zk}(h:(j8 rows)[f]?=some (nm,ps)):∃ r∈rows,rows[f]?=some r/\r.nm=nm/\r.ps=ps:=by
 unfold j8 at h;rw[Ø] at h;obtain⟨r,h1,h2⟩:=Ð.mp h;cases h2;exact⟨r,ð h1,h1,rfl,rfl⟩
section
variable [TB:Tb] {P:â}{w:ó}{K:Â}{h:ø}{mg:Str->Zn}{base:ø}{rows:List Row}{nums:List (Str × Int)}{mn:Zk}{ex:List (Str × RM)}
def Dy(rows:List Row)(mn:Zk)(ex:List (Str × RM)):Prop:=∀ r∈rows,r.lm=true->r.nm∈mn/\∃ (sR:RM),(("_law_made":Str),sR)∈ex/\JY sR/\xO ⟨"_law_made",["_law_call"],sR,[],.nil,false⟩
def J6[TB:Tb](K:Â)(rows:List Row):Prop:=∀ r∈rows,r.lm=true->∀ fd,(∃ f oc od sl,T4 K ì r.nm=some (some (.ref f))/\K.lookup f=some ⟨oc,od,.func fd,sl⟩)->Gi K r.nm fd
def sQ(X:K.In h)(Gn:h.Ns ì mg)(Q:Facts (lX rows nums mn ex) K h):∀ c x,dg[c]?=some x->T4 K ì x=some (some (.ref (clsAt K c)))/\lJ K mg (clsAt K c) c/\SO K (clsAt K c) [.type "ValueError",.type "Exception",.type "BaseException",.type "object"] "ValueError.__new__"=true:=λc x hc=>by
 obtain⟨C,h1,h2,h3⟩:=J3 (x:=x) (j:=c) X Gn Q (ð hc) hc Ë;rw[J2 hc h1];exact⟨h1,h2,h3⟩
theorem zj(X:K.In h)(Gn:h.Ns ì mg)(Q:Facts (lX rows nums mn ex) K h)(bm:BMain mg base)(hR:Dy rows mn ex)(hr:r∈rows)(hlm:r.lm=true):∃ fR fdR,Gh P w K mg base (clsAt K) fR fdR:=by
 obtain⟨hmn,sR,g1,g2,g4⟩:=hR r hr hlm;obtain⟨fR,fdR,a2,F2,oc2,od2,sl2,lk2⟩:=Q.fn ("_law_made",sR) (é _ g1);obtain⟨C0,c1,-⟩:=(sQ X Gn Q 0 _ rfl).2.1.ce;refine⟨fR,fdR,bm,λj hj=>?_,XG X Gn a2,F2.kp,F2.binds g4,λk q=>Gg F2 g2 c1⟩;have hx:∃ x,dg[j]?=some x:=⟨_,Í (by exact hj)⟩
 obtain⟨x,hx⟩:=hx;exact(sQ X Gn Q j x hx).2.1
theorem Gm(X:K.In h)(Gn:h.Ns ì mg)(Q:Facts (lX rows nums mn ex) K h)(ok:rows.all (AO (j8 rows) nums)=true)(bd:gd rows)(bm:BMain mg base)(hR:Dy rows mn ex)(hT:J6 K rows)(F0:FT):∀ k,GX P w K mg base (Hj ⟨j8 rows,nums,F0,clsAt K,0⟩ (tabOf rows) k) dg:=by
 refine J0 (λp hp=>?_) (λn hn=>?_) (λc x hc=>?_) λf nm ps hf=>?_
 ·obtain⟨t,e⟩:=Q.it p hp;exact⟨t,XG X Gn e⟩
 ·exact mg_none_of X Gn (Q.no n (È _ hn))
 ·obtain⟨h1,_,h3⟩:=sQ X Gn Q c x hc;exact⟨XG X Gn h1,h3⟩
 ·obtain⟨r,hr,hr2,rfl,rfl⟩:=J5 hf;obtain⟨fa,fd,a1,F1,oc,od,sl,lk⟩:=Q.fn (r.nm,r.st) (Rb _ (Ç.mpr ⟨r,hr,rfl⟩));have rb:=Õ.mp ok r hr;unfold AO at rb;simp only[Á] at rb;obtain⟨⟨⟨b1,b2⟩,b3⟩,b4⟩:=rb;refine⟨fa,fd,XG X Gn a1,F1.kp,F1.binds (bd.at hr),.inl ⟨r.lm,r.N,r.st,r.b,?_,F1,oP b4,b3,b2,b1,λhlm=>?_⟩⟩
  ·unfold tabOf;rw[Ø,hr2];rfl
  ·obtain⟨fR,fdR,L⟩:=zj (P:=P) (w:=w) X Gn Q bm hR hr hlm;exact⟨fR,fdR,L,hT r hr hlm fd ⟨fa,oc,od,sl,a1,lk⟩⟩
theorem J7(X:K.In h)(Gn:h.Ns ì mg)(Q:Facts (lX rows nums mn ex) K h)(ok:rows.all (AO (j8 rows) nums)=true)(bd:gd rows)(bm:BMain mg base)(hR:Dy rows mn ex)(hT:J6 K rows)(F0:FT)(k:Nat)(hi:rows[i]?=some r)(F1:EW K r.nm r.nm r.st fa fd)
 (hfd:∃ f oc od sl,T4 K ì r.nm=some (some (.ref f))/\K.lookup f=some ⟨oc,od,.func fd,sl⟩):jQ P w K mg base (jE P w) (Pp (k + 3)) fa fd r.ps (FI K (Hj ⟨j8 rows,nums,F0,clsAt K,0⟩ (tabOf rows) (k + 3)) i r.ps.length):=by
 have hr:=ð hi;have rb:=Õ.mp ok r hr;unfold AO at rb;simp only[Á] at rb;obtain⟨⟨⟨b1,b2⟩,b3⟩,b4⟩:=rb;have all:=Gm (P:=P) (w:=w) X Gn Q ok bd bm hR hT F0;refine zi (G:=Hj ⟨j8 rows,nums,F0,clsAt K,0⟩ (tabOf rows) (k + 2)) (F':=fD (tabOf rows) (k + 3)) (all (k + 2)) F1 (oP b4) b3 b1 b2 (λhlm=>?_) λl z=>?_
 ·obtain⟨fR,fdR,L⟩:=zj (P:=P) (w:=w) X Gn Q bm hR hr hlm;exact⟨k,fR,fdR,rfl,L,hT r hr hlm fd hfd,λf nm ps h=>(all k).gok f nm ps h⟩
 ·show(match (tabOf rows)[i]? with | some d=>run (fD (tabOf rows) (k + 2)) d l | none=>Zg) z=_
  unfold tabOf;rw[Ø,hi];rfl
end
theorem AQ{P:â}{w:ó}{K:Â}{mg mb:Str->Zn}{k:Nat}{fa a:Ì}{fd:Rt}{x:Str}{sp:Sp}{s₁:É}{vs:Zj}{ns:Zi}{ts:Zr}
 (KX:K.In s₁.heap) (hns:s₁.heap.Ns ì mg) (hb:s₁.heap.Ns S4 mb) (hbb:∀ x:Str,x≠"__name__"->mb x=õ x) (hlim:s₁.heap.NoLimit) (hg:s₁.gens=#[])
 (ha:s₁.heap.get? a=some { cls:=.type "list",data:=.seq vs.toArray }) (hi:SH vs ns) (hl:ns.length<=sizeLine) (hr:dW k V1)
 (hT:∀ Pt∈ts,s₁.heap.get? Pt=some (R7 #[])/\K.lookup Pt=none/\∃ c,Rv K c Pt=true) (bmn:BMain mg s₁.heap)
 (F:∀ base:ø,K.In base->base.Ns ì mg->BMain mg base->jQ P w K mg base Lw k fa fd [x] sp) (hbind:∀ (s:É) (u:Å),WW s fd ⟨[u],[]⟩ [(x,u)])
 (hsp:∀ H:Hp,(∀ Pt∈ts,H Pt=some (.tbl #[]))->cY K H a (ns.map V.int)->sp [.ref a] H (λv _=>v=.bl true) λ_ _ _=>False) :
 TF (à P w) V1 (.call (.ref fa) ⟨[.ref a],[]⟩) (λr s'=>r=.ok (.ret (.bool true))/\OldK s₁.heap s'.heap/\s'.os=s₁.os/\Um s'.gens) s₁:=by
 have rv:=qG hi;have lenV:=hi.length;have naT:a ∉ ts:=λh=>by have:=(hT a h).1;rw[ha] at this;cases this
 have core:∀ H:Hp,(∀ Pt∈ts,H Pt=some (.tbl #[]))->(∀ b,H b=none\/b∈ts\/(b=a/\∃ xs,H b=some (.frz { cls:=.type "list",data:=.seq vs.toArray } (.lst xs))))->cY K H a (ns.map V.int)->jD P w H s₁.heap->(H a≠none->K.lookup a=none) ->
   TF (à P w) V1 (.call (.ref fa) ⟨[.ref a],[]⟩) (λr s'=>r=.ok (.ret (.bool true))/\OldK s₁.heap s'.heap/\s'.os=s₁.os/\Um s'.gens) s₁:=by
  intro H hH hO hS aV hK;have plainN:∀ {b:Ì}{o:Obj},s₁.heap.get? b=some o->(∀ xs n,o.data≠.seq xs n)->(∀ xs,o.data≠.fields xs)->H b=none:=λ{b o} e d1 d2=>by
   rcases hO b with z | z | ⟨z,_⟩
   ·exact z
   ·have:=(hT b z).1;rw[e] at this;cases this;exact absurd rfl (d2 _)
   ·rw[z,ha] at e;cases e;exact absurd rfl (d1 _ _)
  have nsK:∀ {b:Ì}{m:Str->Zn},s₁.heap.Ns b m->(rJ s₁.heap H).Ns b m:=λ{b m} ⟨o,es,ep,e,d,r⟩=>⟨o,es,ep,nH e (plainN e (λxs n z=>by rw[d] at z;cases z) λxs z=>by rw[d] at z;cases z),d,r⟩
  have hKb:K.In (rJ s₁.heap H):=λb o e=>nH (KX b o e) (by
   rcases hO b with z | z | ⟨z,xs,z2⟩
   ·exact z
   ·rw[(hT b z).2.1] at e;cases e
   ·rw[z] at e z2;rw[hK (by rw[z2];exact λy=>nomatch y)] at e;cases e)
  have hM:Mod K mg (rJ s₁.heap H):=⟨hKb,nsK hns,⟨mb,nsK hb,hbb⟩,let ⟨mc,h1,h2⟩:=hlim;⟨mc,nsK h1,h2⟩⟩;have hBM:BMain mg (rJ s₁.heap H):=by
   obtain⟨bm,ob,b1,b2,b3,b4,b5,b6⟩:=bmn;exact⟨bm,ob,b1,b2,nH b3 (plainN b3 (λxs n z=>by rw[b6] at z;cases z) λxs z=>by rw[b6] at z;cases z),b4,b5,b6⟩
  have e0:uj P w K mg (rJ s₁.heap H) V1 [] s₁ H:=⟨rfl,hM,λb o e=>Ey e,Vt (zQ _ _),trivial,λb hb=>absurd (show b∈([]:Zr) from hb) (by simp),aV,.of_eq hg⟩
  refine RP ((F _ hKb (nsK hns) hBM).run V1 [] s₁ H ⟨[.ref a],[]⟩ [.ref a] [.ref a] _ _ hr e0 (hbind s₁ (.ref a)) (.cons rfl .nil) (hsp H hH hS)) λr s' h=>?_;cases r with
  |error e=>exact My h
  |ok fl =>
   cases fl with
   |next=>exact My h
   |brk=>exact My h|cont=>exact My h
   |ret u =>
    obtain⟨v,H',os,bare,un,hok',r',q⟩:=h;have q':v=.bl true:=q;subst q';obtain rfl:u=Tc true:=r';refine⟨rfl,⟨λb o e=>?_,λb o e=>un.there b o e (by simp)⟩,os,bare⟩
    rcases hO b with z | z | ⟨z,xs,z2⟩
    ·exact .inl (un.keep b o e z (by intro y;exact absurd (show b∈([]:Zr) from y) (by simp)) (by simp))
    ·obtain⟨t1,_,c,t2⟩:=hT b z;rw[e] at t1;cases t1;obtain⟨more,m1⟩:=un.tbls b _ (hH b z);have m2:s'.heap.get? b=some { cls:=.none,data:=.fields (#[]++more) }:=hok' b _ m1;have CH:=codeHd_of_K KX t2;exact .inr (.inl ⟨(CH.tab e).isCodeTable,rfl,#[],more,rfl,m2⟩)
    ·have z3:=un.frzs b _ _ z2;obtain⟨e1,_⟩:=aV b _ z2;obtain⟨e2,_⟩:=hok' b _ z3;rw[e] at e1;cases e1;exact .inl e2
 cases hk:K.lookup a with
 |some o =>
  have e:=KX a o hk;rw[ha] at e;cases e;refine core (λb=>if b∈ts then some (.tbl #[]) else none) (λPt h=>if_pos h) (λb=>?_) (.inr ⟨vs.toArray,_,hk,by rw[ã,lenV];exact hl,by simpa using rv⟩) (λb u z=>?_) λz=>absurd (if_neg naT) z
  ·by_cases h:b∈ts
   ·exact .inr (.inl h)
   ·exact .inl (if_neg h)
  ·by_cases h:b∈ts
   ·have z':=(if_pos h).symm.trans z;cases z';exact(hT b h).1
   ·have z':=(if_neg h).symm.trans z;cases z'
 |none =>
  refine core (λb=>if b=a then some (.frz { cls:=.type "list",data:=.seq vs.toArray } (.lst (ns.map V.int))) else if b∈ts then some (.tbl #[]) else none) (λPt h=>?_) (λb=>?_) (.inl (.inr ⟨{ cls:=.type "list",data:=.seq vs.toArray },if_pos rfl⟩)) (λb u z=>?_) λ_=>hk
  ·rw[if_neg (λy=>naT (by rw[← y];exact h)),if_pos h]
  ·by_cases hb:b=a
   ·exact .inr (.inr ⟨hb,_,if_pos hb⟩)
   ·by_cases h:b∈ts
    ·exact .inr (.inl h)
    ·exact .inl (by rw[if_neg hb,if_neg h])
  ·by_cases hb:b=a
   ·have z':=(if_pos hb).symm.trans z;cases z';subst hb;exact⟨ha,by rw[Ä];exact hl,vs,_,rv,ha⟩
   ·replace z:=(if_neg hb).symm.trans z
    by_cases h:b∈ts
    ·have z':=(if_pos h).symm.trans z;cases z';exact(hT b h).1
    ·have z':=(if_neg h).symm.trans z;cases z'
theorem Dz{l:XQ}{n k:Nat}{q:â}{loose:Zk}{XP:(Str->Zn)->ø->Prop}{d:DefRec}{A:cx}{x:Str}
 (hn:l.most=some n) (hn2:n<=sizeLine) (hdf:d.params.defaults=[]) (hr:dW k V1)
 (F:∀ (w:ó) (mg:Str->Zn) (fa:Ì) (h:ø) (K:Â),Facts A K h->K.In h->h.Ns ì mg->mg d.name=some (.ref fa) ->
   ∃ (fd:Rt) (ts:Zr) (sp:Sp),(∀ Pt∈ts,h.get? Pt=some (R7 #[])/\K.lookup Pt=none/\∃ c,Rv K c Pt=true)/\(∀ (s:É) (u:Å),WW s fd ⟨[u],[]⟩ [(x,u)]) /\
    (∀ base:ø,K.In base->base.Ns ì mg->BMain mg base->jQ l.prog w K mg base Lw k fa fd [x] sp) /\
    ∀ (H:Hp) (a:Ì) (ns:Zi),ns.length<=n->(∀ Pt∈ts,H Pt=some (.tbl #[]))->cY K H a (ns.map V.int)->sp [.ref a] H (λv _=>v=.bl true) λ_ _ _=>False) :
  PySem.W.WalkO q loose XP A.hook.says l.row.toRowW d [] (λf vs=>PySem.call f vs):=by
 refine Att.uo hn hdf λw s₀ s₁ mg mb fa o pm cd doc a vs ns G Y ho hd hcd hmg hobj hints hlen hg=>?_;obtain⟨K,KX,FX⟩:=Y;obtain⟨fd,ts,sp,hT,hb,hF,hsp⟩:=F w mg fa _ K FX KX G.T.g hmg;exact AQ KX G.T.g G.T.b G.T.builtins G.T.nolimit hg hobj hints (ê hlen hn2) hr hT G.T.bmain hF hb λH hH hS=>hsp H a ns hlen hH hS
theorem Gp{l:XQ}{rows:List Row}{nums:List (Str × Int)}{mn:Zk}{ex:List (Str × RM)}{k iL n:Nat}{rL:Row}(ok:rows.all (AO (j8 rows) nums)=true)(bd:gd rows)(hL:rows[iL]?=some rL)(hn:rL.nm="law")(hp:rL.ps=[("_law_script":Str)])(hmn:mn.length<=1)(hR:Dy rows mn ex)
 (pure:∀ ns:Zi,ns.length<=n->aA (tabOf rows) (k + 3) iL [.d (.lst (ns.map D.int))] none=some (.ok (.d (.bl true)) none)) (w:ó) (mg:Str->Zn) (fa:Ì) (h:ø) (K:Â) (Q:Facts (lX rows nums mn ex) K h) (X:K.In h) (Gn:h.Ns ì mg) (hfa:mg "law"=some (.ref fa)) :
   ∃ (fd:Rt) (ts:Zr) (sp:Sp),(∀ Pt∈ts,h.get? Pt=some (R7 #[])/\K.lookup Pt=none/\∃ c,Rv K c Pt=true)/\(∀ (s:É) (u:Å),WW s fd ⟨[u],[]⟩ [("_law_script",u)]) /\
    (∀ base:ø,K.In base->base.Ns ì mg->BMain mg base->jQ l.prog w K mg base Lw (Pp (k + 3)) fa fd ["_law_script"] sp) /\
    ∀ (H:Hp) (a:Ì) (ns:Zi),ns.length<=n->(∀ Pt∈ts,H Pt=some (.tbl #[]))->cY K H a (ns.map V.int)->sp [.ref a] H (λv _=>v=.bl true) λ_ _ _=>False:=by
 have hrL:rL∈rows:=ð hL;obtain⟨fL,fdL,aL,FL,ocL,odL,slL,lkL⟩:=Q.fn (rL.nm,rL.st) (Rb _ (Ç.mpr ⟨rL,hrL,rfl⟩));have bL:=bd.at hrL;have e:=hfa.symm.trans (XG X Gn (by rw[← hn];exact aL))
 cases e;have bT:∀ (s:É) (u:Å),WW s fdL ⟨[u],[]⟩ [("_law_script",u)]:=by
  obtain⟨_,_,kV,doc,pm,an,cdv,ct,_,e,_,_⟩:=FL.ex;subst e;intro s u;have:=bL kV doc pm an cdv ct [u] (by rw[hp];rfl)
  rw[hp] at this;exact .of_eq this
 have fin:∀ (TB:Tb) (ts:Zr),(∀ p∈TB.tb,p.1∈ts)->(∀ Pt∈ts,h.get? Pt=some (R7 #[])/\K.lookup Pt=none/\∃ c,Rv K c Pt=true)->J6 K rows ->
   ∃ (fd:Rt) (ts:Zr) (sp:Sp),(∀ Pt∈ts,h.get? Pt=some (R7 #[])/\K.lookup Pt=none/\∃ c,Rv K c Pt=true)/\(∀ (s:É) (u:Å),WW s fd ⟨[u],[]⟩ [("_law_script",u)]) /\
    (∀ base:ø,K.In base->base.Ns ì mg->BMain mg base->jQ l.prog w K mg base Lw (Pp (k + 3)) fa fd ["_law_script"] sp) /\
    ∀ (H:Hp) (a:Ì) (ns:Zi),ns.length<=n->(∀ Pt∈ts,H Pt=some (.tbl #[]))->cY K H a (ns.map V.int)->sp [.ref a] H (λv _=>v=.bl true) λ_ _ _=>False:=λTB ts h1 h2 h3=>by
  refine⟨fdL,ts,λvs H Q _=>FI K (Hj ⟨j8 rows,nums,λ_ _ _=>Zg,clsAt K,0⟩ (tabOf rows) (k + 3)) iL 1 vs H Q λ_ _ _=>False,h2,bT,λbase kb nb bm=>?_,λH a ns hl hH hS=>J4 (pure ns hl) (λp hp=>hH p.1 (h1 p hp)) hS⟩;have F:=Qo (J7 (P:=l.prog) (w:=w) X Gn Q ok bd bm hR h3 (λ_ _ _=>Zg) k hL FL ⟨fa,ocL,odL,slL,aL,lkL⟩);rw[hp] at F;exact F
 match mn,hmn,Q with
 |[],_,Q =>
  exact fin ⟨[]⟩ [] (λp hp=>by cases hp) (λp hp=>by cases hp) λr hr hlm=>by
   have:=(hR r hr hlm).1;cases this
 |[m],_,Q =>
  obtain⟨T,t1,t2,f,oc,od,fd,sl,c,t3,t4,t5,t6⟩:=Q.mt m (.head _);refine fin ⟨[(T,M1 m)]⟩ [T] (λp hp=>?_) (λp hp=>?_) λr hr hlm fd' h'=>?_
  ·cases Ú.mp hp;exact .head _
  ·cases Ú.mp hp;exact⟨t1,t2,c,t6⟩
  ·have hm:r.nm=m:=Ú.mp (hR r hr hlm).1;rw[hm] at h' ⊢;obtain⟨f',oc',od',sl',e1,e2⟩:=h';rw[t3] at e1;cases e1;rw[t4] at e2;cases e2;exact⟨c,T,M1 m,t5,t6,λ_ _ _ _=>rfl,.head _,λp hp _=>by cases Ú.mp hp;rfl⟩
end Q
namespace Q
open L2 (D)
open PySem (Paired)
def sS:Ex->Bool
 |.var _=>false|_=>true
def Pw:Ex->Env->Option (Option S)
 |.var i,ρ=>ρ[i]?|_,_=>none
def M3:Option (Option S)->Option S
 |some (some s)=>Fp s|_=>none
def Px:S->Zs
 |.d (.bl b)=>some b|_=>none
abbrev Du{α:Type}(_:α->Z->Prop)(_:Nat->Z->Prop):Type:=Unit
abbrev Dv{α:Type}(_:α->Prop):Type:=Unit
structure W{α:Type}(m:M α)(z:Z)(Q:α->Z->Prop)(E:Nat->Z->Prop)(du:Du Q E:=()):Prop where
 ex:∃ r,m z=some r/\match r with
  |.ok a z1=>Q a z1|.er c z1=>E c z1
def Hk{α:Type}{m:M α}{Q:α->Z->Prop}:W m z Q E↔∃ r,m z=some r/\match r with
  |.ok a z1=>Q a z1|.er c z1=>E c z1:=⟨W.ex,W.mk⟩
abbrev NE:Nat->Z->Prop:=λ_ _=>False
def bC{α:Type}(o:Option α)(P:α->Prop)(_:Dv P:=()):Prop:=match o with
 |some a=>P a|none=>False
def Hl{α:Type}{a:α}{P:α->Prop}:bC (some a) P↔P a:=UU
theorem c7{α:Type}{o:Option α}{P:α->Prop}(h:bC o P):∃ a,o=some a/\P a:=by
 cases o with
 |none=>exact h.elim|some a=>exact⟨a,rfl,h⟩
theorem ae{α:Type}{o:Option α}{a:α}{P:α->Prop}(h:o=some a)(hp:P a):bC o P:=by rw[h];exact hp
theorem AR{α:Type}{o:Option α}{P P':α->Prop}(h:∀ a,P a↔P' a):bC o P↔bC o P':=by
 cases o with
 |none=>exact UU|some a=>exact h a
section
variable {α β:Type}{m:M α}{z z1:Z}{Q Q':α->Z->Prop}{E E':Nat->Z->Prop}
theorem W.mono(h:W m z Q E)(hq:∀ a z,Q a z->Q' a z)(he:∀ c z,E c z->E' c z):W m z Q' E':=by
 obtain⟨r,e,h⟩:=h;refine⟨r,e,?_⟩;cases r with
 |ok a z1=>exact hq _ _ h|er c z1=>exact he _ _ h
def W.imp(h:W m z Q NE)(hq:∀ a z,Q a z->Q' a z):W m z Q' E':=h.mono hq λ_ _ h=>h.elim
theorem W.ok{a:α}(h:W m z (λb z2=>b=a/\z2=z1) NE):m z=some (.ok a z1):=by
 obtain⟨r,e,h⟩:=h;cases r with
 |ok b z2=>obtain⟨rfl,rfl⟩:=h;exact e
 |er c z2=>exact h.elim
theorem W.er(h:W m z (λ_ _=>False) (λd z2=>d=c/\z2=z1)):m z=some (.er c z1):=by
 obtain⟨r,e,h⟩:=h;cases r with
 |ok b z2=>exact h.elim|er d z2=>obtain⟨rfl,rfl⟩:=h;exact e
theorem M4{a:α}(h:m z=some (.ok a z1)):W m z Q E↔Q a z1:=by
 rw[Hk];constructor
 ·rintro ⟨r,e,q⟩;rw[h] at e;cases e;exact q
 ·exact λq=>⟨_,h,q⟩
theorem Py{c:Nat}(h:m z=some (.er c z1)):W m z Q E↔E c z1:=by
 rw[Hk];constructor
 ·rintro ⟨r,e,q⟩;rw[h] at e;cases e;exact q
 ·exact λq=>⟨_,h,q⟩
def iU{a:α}:W (Ze a) z Q E↔Q a z:=M4 rfl
def DB:W (Zg:M α) z Q E↔False:=⟨λ⟨_,e,_⟩=>(by cases e),My⟩
theorem fH{f:α->M β}{Q:β->Z->Prop}:W (Zd m f) z Q E↔W m z (λa z1=>W (f a) z1 Q E) E:=by
 constructor
 ·rintro ⟨r,e,q⟩;unfold Zd at e;split at e
  ·rename_i a z1 e1;exact⟨_,e1,r,e,q⟩
  ·rename_i c z1 e1;cases e;exact⟨_,e1,q⟩
  ·cases e
 ·rintro ⟨r,e,q⟩;cases r with
  |ok a z1 =>
   obtain⟨r,e2,q⟩:=q;refine⟨r,?_,q⟩;unfold Zd;rw[e];exact e2
  |er c z1 =>
   refine⟨.er c z1,?_,q⟩;unfold Zd;rw[e]
theorem DC:W (M.calm m) z Q E↔W m z Q NE:=by
 rw[Hk,Hk];unfold M.calm;constructor
 ·rintro ⟨r,e,q⟩;split at e
  ·rename_i a z1 e1;cases e;exact⟨_,e1,q⟩
  ·cases e
 ·rintro ⟨r,e,q⟩;cases r with
  |ok a z1=>exact⟨.ok a z1,by rw[e],q⟩|er c z1=>exact q.elim
def Gq(h:∀ a z,Q a z↔Q' a z):W m z Q E↔W m z Q' E:=⟨λx=>x.mono (λa z=>(h a z).mp) λ_ _ h=>h,λx=>x.mono (λa z=>(h a z).mpr) λ_ _ h=>h⟩
def wR{a:α}:Q a z↔W (Ze a) z Q E:=iU.symm
def wN:False↔W (Zg:M α) z Q E:=DB.symm
theorem wT{c:Prop}[Decidable c]{a b:M α}{A B:Prop}(h1:A↔W a z Q E)(h2:B↔W b z Q E):(if c then A else B)↔W (if c then a else b) z Q E:=by
 split <;> assumption
theorem wG{o:Option β}{f:β->M α}{K:β->Prop}(h:∀ a,K a↔W (f a) z Q E):bC o K↔W (Zd (Zf o) f) z Q E:=by
 cases o with
 |none=>exact DB.symm|some a=>exact h a
def wB{m:M β}{f:β->M α}{V:Prop}{K:β->Z->Prop}(h1:V↔W m z K E)(h2:∀ a z1,K a z1↔W (f a) z1 Q E):V↔W (Zd m f) z Q E:=h1.trans ((Gq h2).trans fH.symm)
end
def Wm{α:Type}(o:Option (R α))(Q:α->Z->Prop)(E:Nat->Z->Prop):Prop:=match o with
 |some (.ok a z1)=>Q a z1|some (.er c z1)=>E c z1|none=>False
theorem wM{α:Type}{m:M α}{z:Z}{Q:α->Z->Prop}{E:Nat->Z->Prop}:Wm (m z) Q E↔W m z Q E:=by
 rw[Hk];unfold Wm;cases h:m z with
 |none=>exact⟨My,λ⟨_,e,_⟩=>by cases e⟩
 |some r =>
  refine⟨λq=>⟨r,rfl,?_⟩,λ⟨_,e,q⟩=>?_⟩
  ·cases r <;> exact q
  ·cases e;cases r <;> exact q
def Vr(o:Option (Option S))(z:Z)(Q:List S->Z->Prop)(_:Du Q NE:=()):Prop:=match o with
 |some (some s)=>Q [gK s] z|_=>False
def WV:FT->Ex->Env->Z->(List S->Z->Prop)->(Nat->Z->Prop)->Prop
 |F,.nil=>λρ z Q E=>Q [] z|F,.cons a r=>λρ z Q E=>WV F a ρ z (λx z1=>bC (one x) λs=>WV F r ρ z1 (λy z2=>Q (s::y) z2) E) E|F,.con x=>λρ z Q E=>Q [.d x] z|F,.gint g i=>λρ z Q E=>Q [.d (.int i)] z|F,.tup as=>λρ z Q E=>WV F as ρ z (λl z1=>bC (iZ l) λds=>if ds.length<=most then Q [.d (.tup ds)] z1 else False) E|F,.lst as=>λρ z Q E=>WV F as ρ z (λl z1=>bC (iZ l) λds=>if ds.length<=most then Q [.fr ds] z1 else False) E|F,.bin o a b=>λρ z Q E=>WV F a ρ z (λx z1=>bC (pl x) λdx=>WV F b ρ z1 (λy z2=>bC (pl y) λdy=>bC (dZ o dx dy) λs=>Q [s] z2) E) E|F,.cmp o a b=>λρ z Q E=>WV F a ρ z (λx z1=>bC (pl x) λdx=>WV F b ρ z1 (λy z2=>bC (pl y) λdy=>bC (fZ o dx dy) λt=>Q [.d (.bl t)] z2) E) E|F,.neg a=>λρ z Q E=>WV F a ρ z (λx z1=>bC ((pl x).bind yF) λi=>Q [.d (.int (-i))] z1) E|F,.not a=>λρ z Q E=>WV F a ρ z (λx z1=>bC ((pl x).bind ni) λb=>Q [.d (.bl !b)] z1) E|F,.and a b=>λρ z Q E=>WV F a ρ z (λx z1=>bC ((pl x).bind ni) λc=>if c then WV F b ρ z1 (λy z2=>bC ((pl y).bind ni) λc=>Q [.d (.bl c)] z2) E else Q [.d (.bl false)] z1) E|F,.or a b=>λρ z Q E=>WV F a ρ z (λx z1=>bC ((pl x).bind ni) λc=>if c then Q [.d (.bl true)] z1 else WV F b ρ z1 (λy z2=>bC ((pl y).bind ni) λc=>Q [.d (.bl c)] z2) E) E|F,.orT a b=>λρ z Q E=>WV F a ρ z (λx z1=>bC ((pl x).bind Cc) λl=>if l.isEmpty then WV F b ρ z1 (λy z2=>bC ((pl y).bind Cc) λl=>Q [.d (.tup l)] z2) NE else Q [.d (.tup l)] z1) NE|F,.ite c a b=>λρ z Q E=>WV F c ρ z (λx z1=>bC ((pl x).bind ni) λc=>if c then WV F a ρ z1 Q E else WV F b ρ z1 Q E) E|F,.ch o o' a b c=>λρ z Q E=>WV F a ρ z (λx z1=>bC (pl x) λdx=>WV F b ρ z1 (λy z2=>bC (pl y) λdy=>bC (fZ o dx dy) λt=>if t then WV F c ρ z2 (λw z3=>bC (pl w) λdw=>bC (fZ o' dy dw) λt=>Q [.d (.bl t)] z3) E else Q [.d (.bl false)] z2) E) E|F,.bf f as=>λρ z Q E=>WV F as ρ z (λl z1=>bC (iZ l) λds=>bC (pY f ds) λs=>Q [s] z1) E|F,.isi t a=>λρ z Q E=>WV F a ρ z (λx z1=>bC (pl x) λx=>Q [.d (.bl (IQ t x))] z1) E|F,.idx a i=>λρ z Q E=>WV F a ρ z (λx z1=>bC (pl x) λdx=>WV F i ρ z1 (λy z2=>bC (pl y) λdy=>bC (je dx dy) λr=>Q [.d r] z2) E) E|F,.sl a lo hi=>λρ z Q E=>WV F a ρ z (λx z1=>bC (pl x) λdx=>WV F lo ρ z1 (λu z2=>bC (uO u) λu=>WV F hi ρ z2 (λv z3=>bC (uO v) λv=>bC (OQ dx u v) λs=>Q [s] z3) E) E) E|F,.call f as=>λρ z Q E=>WV F as ρ z (λl z1=>W (F false f (l.map gK)) z1 (λs z2=>Q [s] z2) E) E|F,.comp own ak p it src cond el=>λρ z Q E=>WV F src ρ z (λl z1=>bC ((iZ l).bind (uc it)) λxs=>if xs.length<=most then W (turns (eX (ev F cond) (ev F el) p (Sf own none++ak.map λi=>(ρ[i]?).getD none)) xs) z1 (λys z2=>Q [.fr ys] z2) NE else False) E|F,.lrng b as=>λρ z Q E=>WV F as ρ z (λl z1=>bC ((iZ l).bind KQ) λxs=>Q [PV b xs] z1) E|F,.mad ak a=>λρ z Q E=>bC (qf ρ ak) λss=>WV (λ_=>F true) a (ss.map some) z (λl z1=>bC (one l) λs=>Q [gK s] z1) (λc z1=>if c < 12 then Q [.d .bp] z1 else False)|F,.var i=>λρ z Q E=>Vr ρ[i]? z Q|F,.zget i k=>λρ z Q E=>Wm (uP k ρ[i]? z) Q E
def WE(F:FT)(e:Ex)(ρ:Env)(z:Z)(Q:List S->Z->Prop)(E:Nat->Z->Prop)(_:Du Q E:=()):Prop:=WV F e ρ z Q E
def WX(F:FT)(tp:Bool):Sm->Env->Z->(O->Z->Prop)->(Nat->Z->Prop)->Prop
 |.nil=>λρ z Q E=>Q (.nx ρ) z
 |.seq s r=>λρ z Q E=>WX F tp s ρ z (λo z1=>match o with
  |.nx ρ=>WX F tp r ρ z1 Q E
  |.rt s=>Q (.rt s) z1) E
 |.set p e=>λρ z Q E=>WE F e ρ z (λl z1=>bC (one l) λs=>bC (iS p s (cV s ρ)) λρ'=>Q (.nx ρ') z1) E|.ret e=>λρ z Q E=>if sS e then WE F e ρ z (λl z1=>bC ((one l).bind Fp) λs=>Q (.rt s) z1) E else bC (M3 (Pw e ρ)) λs=>Q (.rt s) z|.iff c t e=>λρ z Q E=>WE F c ρ z (λx z1=>bC ((pl x).bind ni) λb=>if b then WX F tp t ρ z1 Q E else WX F tp e ρ z1 Q E) E|.exp e=>λρ z Q E=>WE F e ρ z (λl z1=>bC (one l) λ_=>Q (.nx ρ) z1) E|.rais c=>λρ z Q E=>E c z|.fr p it src b=>λρ z Q E=>WE F src ρ z (λl z1=>bC ((iZ l).bind (uc it)) λxs=>W (jT (λx ρ=>Zd (Zf (bR p x ρ)) λρ=>ex F tp b ρ) xs (uR it src l ρ)) z1 Q E) E|.whl c b=>λρ z Q E=>W (uQ (ev F c) (ex F tp b) Ar ρ) z Q E|.zset i e=>λρ z Q E=>WE F e ρ z (λl z1=>bC ((pl l).bind yF) λv=>Wm (uU ρ v ρ[i]? z1) Q E) E|.app i e=>λρ z Q E=>bC (ownAt ρ i) λxs=>WE F e ρ z (λl z1=>bC (pl l) λx=>if bare x=true/\xs.length < most then Q (.nx (ρ.set i (some (.fr (xs++[x]))))) z1 else False) E|.apop i j e=>λρ z Q E=>bC (ownAt ρ i) λxs=>bC (ownAt ρ j) λys=>WE F e ρ z (λl z1=>bC ((pl l).bind yF) λk=>bC (uS ρ i j xs ys k) λo=>Q o z1) E|.newz i f as=>λρ z Q E=>WE F (.call f as) ρ z (λl z1=>Wm (uT tp ρ i l) Q E) E|.sti i ix e=>λρ z Q E=>WE F e ρ z (λl z1=>bC (pl l) λx=>bC (ownAt ρ i) λxs=>WE F ix ρ z1 (λj z2=>bC ((pl j).bind yF) λj=>bC (oi xs j x) λxs=>if bare x=true then Q (.nx (ρ.set i (some (.fr xs)))) z2 else False) E) E|.aug o i e=>λρ z Q E=>bC ((ρ[i]?.getD none).bind Cb) λy=>WE F e ρ z (λl z1=>bC ((pl l).bind yF) λx=>bC ((yF y).bind λy=>dZ o (.int y) (.int x)) λs=>bC (iS (.v i) s (cV s ρ)) λρ=>Q (.nx ρ) z1) E
def WS(F:FT)(tp:Bool)(s:Sm)(ρ:Env)(z:Z)(Q:O->Z->Prop)(E:Nat->Z->Prop)(_:Du Q E:=()):Prop:=WX F tp s ρ z Q E
theorem M5{F:FT}{ρ:Env}{z:Z}{Q:List S->Z->Prop}{E:Nat->Z->Prop}{a:Ex}{ak:Zh}:W (ev F (.mad ak a) ρ) z Q E↔bC (qf ρ ak) λss=>W (ev (aI F) a (ss.map some)) z (λl z1=>bC (one l) λs=>Q [gK s] z1) (λc z1=>if c < 12 then Q [.d .bp] z1 else False):=by
 show W (Cf (qf ρ ak) λρ'=>ev (aI F) a ρ') z Q E↔_;rw[Hk];unfold Cf;constructor
 ·rintro ⟨r,e,q⟩;split at e
  ·cases e
  ·rename_i ss h1;split at e
   ·rename_i c z1 h2;split at e
    ·rename_i h3;cases e;refine ae h1 ⟨_,h2,?_⟩;dsimp only;rw[if_pos h3];exact q
    ·cases e
   ·rename_i l z1 h2;split at e
    ·rename_i s h3;cases e;refine ae h1 ⟨_,h2,?_⟩;dsimp only;exact ae h3 q
    ·cases e
   ·cases e
 ·intro h;obtain⟨ss,h1,r,h2,q⟩:=c7 h;rw[h1];dsimp only;rw[h2];cases r with
  |ok l z1 =>
   dsimp only at q ⊢;obtain⟨s,h3,q⟩:=c7 q;rw[h3];exact⟨_,rfl,q⟩
  |er c z1 =>
   dsimp only at q ⊢;split at q
   ·rename_i h3;rw[if_pos h3];exact⟨_,rfl,q⟩
   ·exact q.elim
theorem J8:∀ (e:Ex) {F:FT}{ρ:Env}{z:Z}{Q:List S->Z->Prop}{E:Nat->Z->Prop},WV F e ρ z Q E↔W (ev F e ρ) z Q E:=by
 intro e
 induction e with
 |nil=>intros;exact wR|cons a r ha hr=>intros;exact wB ha λx z1=>wG λs=>wB hr λy z2=>wR
 |var i =>
  intro F ρ z Q E;show Vr ρ[i]? z Q↔W (match ρ[i]? with | some (some s)=>Ze [gK s] | _=>Zg) z Q E
  generalize ρ[i]?=o
  match o with
  |some (some s)=>exact wR|some none=>exact wN|none=>exact wN
 |con x=>intros;exact wR|gint g i=>intros;exact wR|tup a ha=>intros;exact wB ha λl z1=>wG λds=>wT wR wN|lst a ha=>intros;exact wB ha λl z1=>wG λds=>wT wR wN|bin o a b ha hb=>intros;exact wB ha λx z1=>wG λdx=>wB hb λy z2=>wG λdy=>wG λs=>wR|cmp o a b ha hb=>intros;exact wB ha λx z1=>wG λdx=>wB hb λy z2=>wG λdy=>wG λs=>wR|neg a ha=>intros;exact wB ha λx z1=>wG λi=>wR|not a ha=>intros;exact wB ha λx z1=>wG λi=>wR|and a b ha hb=>intros;exact wB ha λx z1=>wG λc=>wT (wB hb λy z2=>wG λc=>wR) wR|or a b ha hb=>intros;exact wB ha λx z1=>wG λc=>wT wR (wB hb λy z2=>wG λc=>wR)|orT a b ha hb=>intros;refine YK ?_ DC.symm;exact wB ha λx z1=>wG λl=>wT (wB hb λy z2=>wG λl=>wR) wR|ite c a b hc ha hb=>intros;exact wB hc λx z1=>wG λc=>wT ha hb|ch o o' a b c ha hb hc=>intros;exact wB ha λx z1=>wG λdx=>wB hb λy z2=>wG λdy=>wG λt=>wT (wB hc λw z3=>wG λdw=>wG λt=>wR) wR|bf f a ha=>intros;exact wB ha λl z1=>wG λds=>wG λs=>wR|isi t a ha=>intros;exact wB ha λx z1=>wG λx=>wR|idx a i ha hi=>intros;exact wB ha λx z1=>wG λdx=>wB hi λy z2=>wG λdy=>wG λr=>wR|sl a l h ha hl hh=>intros;exact wB ha λx z1=>wG λdx=>wB hl λu z2=>wG λu=>wB hh λv z3=>wG λv=>wG λs=>wR|call f a ha=>intros;exact wB ha λl z1=>wB UU λs z2=>wR|comp own ak p it src cond el hs hc he=>intros;exact wB hs λl z1=>wG λxs=>wT (wB DC.symm λys z2=>wR) wN|zget i k=>intros;exact wM (m:=uP k _)|lrng b a ha=>intros;exact wB ha λl z1=>wG λxs=>wR|mad ak a ha=>intros;exact(AR λss=>ha).trans M5.symm
def aQ{e:Ex}{F:FT}{ρ:Env}{z:Z}{Q:List S->Z->Prop}{E:Nat->Z->Prop}:WE F e ρ z Q E↔W (ev F e ρ) z Q E:=J8 e
theorem M6{F:FT}{tp:Bool}{ρ:Env}{e:Ex}(h:sS e=true):ex F tp (.ret e) ρ=Zd (ev F e ρ) λl=>Zd (Zf ((one l).bind Fp)) λs=>Ze (.rt s):=by
 cases e with
 |var i=>cases h
 |_=>rfl
theorem J9{F:FT}{tp:Bool}:∀ (s:Sm) {ρ:Env}{z:Z}{Q:O->Z->Prop}{E:Nat->Z->Prop},WX F tp s ρ z Q E↔W (ex F tp s ρ) z Q E:=by
 intro s
 induction s with
 |nil=>intros;exact wR
 |seq s r hs hr =>
  intros;refine wB hs λo z1=>?_;cases o with
  |nx ρ=>exact hr|rt s=>exact wR
 |set p e=>intros;exact wB aQ λl z1=>wG λs=>wG λρ'=>wR
 |ret e =>
  intro ρ z Q E;show(if sS e then _ else _)↔_;cases h:sS e with
  |true =>
   refine(iff_of_eq (if_pos rfl)).trans ?_;rw[M6 h];exact wB aQ λl z1=>wG λs=>wR
  |false =>
   cases e with
   |var i =>
    refine(iff_of_eq (if_neg Û)).trans ?_;show bC (M3 ρ[i]?) _↔W (match ρ[i]? with | some (some s)=>Zd (Zf (Fp s)) λs=>Ze (O.rt s) | _=>Zg) z Q E
    generalize ρ[i]?=o
    match o with
    |some (some s)=>exact wG λs=>wR|some none=>exact wN|none=>exact wN
   |_=>cases h
 |iff c t u ht hu=>intros;exact wB aQ λx z1=>wG λc=>wT ht hu|exp e=>intros;exact wB aQ λl z1=>wG λs=>wR|rais c=>intros;exact(Py rfl).symm|fr p it src b ih=>intros;exact wB aQ λl z1=>wG λxs=>UU|whl c b ih=>intros;exact UU|zset i e=>intros;exact wB aQ λl z1=>wG λv=>wM (m:=uU _ v _)|app i e=>intros;exact wG λxs=>wB aQ λl z1=>wG λx=>wT wR wN|apop i j e=>intros;exact wG λxs=>wG λys=>wB aQ λl z1=>wG λk=>wG λo=>wR|newz i f as=>intros;exact wB aQ λl z1=>wM (m:=λ_=>uT tp _ i l)|sti i ix e=>intros;exact wB aQ λl z1=>wG λx=>wG λxs=>wB aQ λj z2=>wG λj=>wG λxs=>wT wR wN|aug o i e=>intros;exact wG λy=>wB aQ λl z1=>wG λx=>wG λs=>wG λρ=>wR
def oQ:WS F tp s ρ z Q E↔W (ex F tp s ρ) z Q E:=J9 s
def WS.mono{s:Sm}{F:FT}{tp:Bool}{ρ:Env}{z:Z}{Q Q':O->Z->Prop}{E E':Nat->Z->Prop}(h:WS F tp s ρ z Q E)(hq:∀ a z,Q a z->Q' a z)(he:∀ c z,E c z->E' c z):WS F tp s ρ z Q' E':=oQ.mpr (W.mono (oQ.mp h) hq he)
theorem DD(Mid:Env->Z->Prop)(h:WS F tp s ρ z (λo z1=>match o with
  |.nx ρ=>Mid ρ z1
  |.rt s=>Q (.rt s) z1) E) (h2:∀ ρ z,Mid ρ z->WS F tp r ρ z Q E):WS F tp (.seq s r) ρ z Q E:=by
 refine WS.mono (s:=s) h (λo z1 h=>?_) λ_ _ h=>h;cases o with
 |nx ρ=>exact h2 ρ z1 h|rt s=>exact h
section
variable {T:List Df}{k f ps ns:Nat}{b:Sm}{l:List S}{z:Z}{Q:S->Z->Prop}{E:Nat->Z->Prop}
theorem Ka(h:T[f]?=some (.code ps ns b))(hl:l.length=ps)(hn:ps<=ns):W (aA T (k + 3) f l) z Q E↔WS (fD T (k + 2)) z.isNone b (start ns (l.map gK)) z (λo z1=>match o with
  |.nx _=>Q (.d .bp) (cW z z1)
  |.rt s=>Q s (cW z z1)) λc z1=>E c (cW z z1):=by
 refine YK ?_ oQ.symm;rw[uV,h];show W (λz=>if l.length=ps/\ps<=ns then(match ex (fD T (k + 2)) z.isNone b (start ns (l.map gK)) z with
  |some (.ok (.nx _) z1)=>some (R.ok (S.d .bp) (cW z z1))|some (.ok (.rt s) z1)=>some (.ok s (cW z z1))|some (.er c z1)=>some (.er c (cW z z1))
  |none=>none) else none) z Q E↔_
 rw[Hk,Hk];constructor
 ·rintro ⟨r,e,q⟩;rw[if_pos ⟨hl,hn⟩] at e;split at e
  ·rename_i ρ z1 e1;cases e;exact⟨_,e1,q⟩
  ·rename_i s z1 e1;cases e;exact⟨_,e1,q⟩
  ·rename_i c z1 e1;cases e;exact⟨_,e1,q⟩
  ·cases e
 ·rintro ⟨r,e,q⟩;rw[if_pos ⟨hl,hn⟩,e]
  match r,q with
  |.ok (.nx ρ) z1,q=>exact⟨_,rfl,q⟩|.ok (.rt s) z1,q=>exact⟨_,rfl,q⟩|.er c z1,q=>exact⟨_,rfl,q⟩
end
section
variable {F:FT}{tp:Bool}{ρ:Env}{z:Z}{E:Nat->Z->Prop}
theorem sT{f:D->M (Option D)}{o:D->Option D}:∀ {xs:List D}{Q:List D->Z->Prop},(∀ x∈xs,f x z=some (.ok (o x) z))->(W (turns f xs) z Q E↔Q (xs.filterMap o) z)
 |[],Q,_=>iU
 |x::r,Q,h=>by
  show W (Zd (f x) _) z Q E↔_;rw[fH,M4 (h x Ë),fH,sT λy hy=>h y (È _ hy),iU];rw[QC];cases o x <;> rfl
theorem vD{f:D->M (Option D)}{I:Z->Prop}{P:D->D->Prop}:∀ {xs:List D}{z:Z}{Q:List D->Z->Prop},I z->(∀ x∈xs,∀ z,I z->W (f x) z (λo z1=>I z1/\∃ y,o=some y/\P x y) NE)->(∀ ys z1,I z1->Rx P xs ys->Q ys z1)->W (turns f xs) z Q E
 |[],z,Q,hi,_,q=>iU.mpr (q [] z hi .nil)
 |x::r,z,Q,hi,h,q=>by
  show W (Zd (f x) _) z Q E;rw[fH];refine(h x Ë z hi).imp λo z1 ⟨D2,y,e,hp⟩=>?_;subst e;rw[fH];refine vD D2 (λx' hx'=>h x' (È _ hx')) λys z2 hi2 hps=>?_;exact iU.mpr (q _ _ hi2 (.cons hp hps))
theorem DE(I:List D->Env->Z->Prop):∀ (xs:List D) {ρ:Env}{z:Z},I xs ρ z->(∀ x r ρ z,I (x::r) ρ z->W (f x ρ) z (λo z1=>match o with
  |.nx ρ=>I r ρ z1
  |.rt s=>Q (.rt s) z1) E)->(∀ ρ z,I [] ρ z->Q (.nx ρ) z)->W (jT f xs ρ) z Q E
 |[],ρ,z,hi,_,q=>iU.mpr (q _ _ hi)
 |x::r,ρ,z,hi,h,q=>by
  show W (Zd (f x ρ) _) z Q E;rw[fH];refine(h x r ρ z hi).mono (λo z1 ho=>?_) λ_ _ h=>h;cases o with
  |nx ρ1=>exact DE I r ho h q|rt s=>exact iU.mpr ho
theorem Kb{c:Env->M (List S)}{f:Env->M O}{Q:O->Z->Prop}(I:Nat->Env->Z->Prop)(step:∀ n ρ z,I n ρ z->W (c ρ) z (λx z1=>bC ((pl x).bind ni) λk=>if k then W (f ρ) z1 (λo z2=>match o with
  |.nx ρ=>∃ m,m < n/\I m ρ z2
  |.rt s=>Q (.rt s) z2) E else Q (.nx ρ) z1) E):∀ (n m:Nat) {ρ:Env}{z:Z},I n ρ z->n < m->W (uQ c f m ρ) z Q E:=by
 intro n
 induction n using YX with
 |ind n ih =>
  intro m ρ z hi hm;cases m with
  |zero=>omega
  |succ m =>
   show W (Zd (c ρ) _) z Q E;rw[fH];refine(step n ρ z hi).mono (λx z1 h=>?_) λ_ _ h=>h;obtain⟨k,e,h⟩:=c7 h;refine(wG (K:=λk=>if k=true then W (Zd (f ρ) _) z1 Q E else W (Ze (O.nx ρ)) z1 Q E) λk=>wT UU UU).mp (ae e ?_);cases k with
   |true =>
    rw[if_pos rfl] at h ⊢;rw[fH];refine h.mono (λo z2 h=>?_) λ_ _ h=>h;cases o with
    |nx ρ1 =>
     obtain⟨j,hj,hi⟩:=h;exact ih j hj m hi ∅
    |rt s=>exact iU.mpr h
   |false =>
    rw[if_neg Û] at h ⊢;exact iU.mpr h
end
mutual
noncomputable def cE:D->Ex
 |.tup l=>.tup (Pz l)|.lst l=>.lst (Pz l)|.int i=>if i < 0 then .neg (.con (.int (-i))) else .con (.int i)|x=>.con x
noncomputable def Pz:List D->Ex
 |[]=>.nil|x::r=>.cons (cE x) (Pz r)
end
mutual
noncomputable def P2:D->Bool
 |.tup l=>decide (l.length<=most)&&Kc l|.lst l=>decide (l.length<=most)&&Kc l|_=>true
noncomputable def Kc:List D->Bool
 |[]=>true|x::r=>P2 x&&Kc r
end
def cX(d:D)(_:P2 d=true):Ex:=cE d
section
variable {F:FT}{ρ:Env}{z:Z}{Q:List S->Z->Prop}{E:Nat->Z->Prop}{a b c as:Ex}{p:gN}{ρ0:Env}{x:D}{Q1:Option D->Z->Prop}
def zk:W (eX (ev F .nil) (ev F a) p ρ0 x) z Q1 E↔bC (bR p x ρ0) λρ=>WE F a ρ z (λy z1=>bC (pl y) λd=>Q1 (some d) z1) E:=
 (wG λρ=>show _↔W (Zd (ev F a ρ) λy=>Zd (Zf (pl y)) λy=>Ze (some y)) z Q1 E from wB aQ λy z1=>wG λd=>wR).symm
theorem Kd{l:List S}{m:M (List S)}{V:Prop}(h:V↔W (Zd m λy=>Zd (Zf (pl y)) λy=>Ze (some y)) z Q1 E):(match l with | [s]=>bC (Px s) λb=>if b then V else Q1 none z | _=>l=[]/\V)↔W (match l with
  |[]=>Zd m λy=>Zd (Zf (pl y)) λy=>Ze (some y)|[.d (.bl true)]=>Zd m λy=>Zd (Zf (pl y)) λy=>Ze (some y)|[.d (.bl false)]=>Ze none
  |_=>Zg) z Q1 E:=by
 match l with
 |[]=>exact⟨λx=>h.mp x.2,λx=>⟨rfl,h.mpr x⟩⟩|[.d (.bl true)]=>exact Hl.trans ((iff_of_eq (if_pos rfl)).trans h)|[.d (.bl false)]=>exact Hl.trans ((iff_of_eq (if_neg Û)).trans wR)|[.d .bp]=>exact wN|[.d (.int _)]=>exact wN|[.d (.str _)]=>exact wN|[.d (.tup _)]=>exact wN|[.d (.lst _)]=>exact wN|[.d .dct]=>exact wN|[.fr _]=>exact wN|[.z]=>exact wN
 |s::_::_ =>
  refine⟨λx=>(by cases x.1),λx=>?_⟩
  cases s with
  |d y =>
   cases y with
   |bl b=>cases b <;> exact(DB.mp x).elim
   |_=>exact(DB.mp x).elim
  |_=>exact(DB.mp x).elim
theorem zm:W (eX (ev F (.cons c .nil)) (ev F a) p ρ0 x) z Q1 E↔bC (bR p x ρ0) λρ=>WE F c ρ z (λy z1=>bC (one y) λs=>bC (Px s) λb=>if b then WE F a ρ z1 (λy z2=>bC (pl y) λd=>Q1 (some d) z2) E else Q1 none z1) E:=by
 refine Iff.symm (wG λρ=>?_);refine wB (aQ (F:=F) (e:=.cons c .nil) (ρ:=ρ) (Q:=λl z1=>match l with | [s]=>bC (Px s) λb=>if b then WE F a ρ z1 (λy z2=>bC (pl y) λd=>Q1 (some d) z2) E else Q1 none z1 | _=>l=[]/\WE F a ρ z1 (λy z2=>bC (pl y) λd=>Q1 (some d) z2) E)) λl z1=>?_
 exact Kd (wB aQ λy z1=>wG λd=>wR)
end
section
variable {α:Type}{m:M α}{z z1:Z}{Q Q':α->Z->Prop}{E:Nat->Z->Prop}
def Wo(h:m z=some (.ok a z1))(q:Q a z1):W m z Q E:=⟨_,h,q⟩
def We(h:m z=some (.er c z1))(q:E c z1):W m z Q E:=⟨_,h,q⟩
end
def bI{T:List Df}{k f ps ns:Nat}{b:Sm}{l:List S}{z:Z}{Q:S->Z->Prop}{E:Nat->Z->Prop}(h:T[f]?=some (.code ps ns b))(hl:l.length=ps)(hn:ps<=ns)(q:WS (fD T (k + 2)) z.isNone b (start ns (l.map gK)) z (λo z1=>match o with
  |.nx _=>Q (.d .bp) (cW z z1)
  |.rt s=>Q s (cW z z1)) λc z1=>E c (cW z z1)):W (aA T (k + 3) f l) z Q E:=(Ka h hl hn).mpr q
theorem ib{b:Bool}{A B:Prop}(ht:b=true->A)(hf:b=false->B):if b=true then A else B:=by
 cases b with
 |true=>exact ht rfl|false=>exact hf rfl
theorem it{b:Bool}{A B:Prop}(h:b=true)(a:A):if b=true then A else B:=by rw[if_pos h];exact a
theorem ie{b:Bool}{A B:Prop}(h:b=false)(a:B):if b=true then A else B:=by rw[h];exact a
theorem ip{c:Prop}[Decidable c]{A B:Prop}(h:c)(a:A):if c then A else B:=by rw[if_pos h];exact a
theorem bD(z:Z):cW z z=z:=by cases z <;> rfl
def sd{s t:S}{z:Z}(h:s=t):s=t/\cW z z=z:=⟨h,bD z⟩
def sb(h:b=c):S.d (.bl b)=S.d (.bl c)/\cW z z=z:=sd (by rw[h])
section
variable {F:FT}{tp:Bool}{z:Z}{E:Nat->Z->Prop}{p:gN}
theorem kX(I:List D->Env->Z->Prop)(xs:List D)(hi:I xs ρ z)(h:∀ x r ρ z,I (x::r) ρ z->bC (bR p x ρ) λρ=>WS F tp b ρ z (λo z1=>match o with
  |.nx ρ=>I r ρ z1
  |.rt s=>Q (.rt s) z1) E) (q:∀ ρ z,I [] ρ z->Q (.nx ρ) z):W (jT (λx ρ=>Zd (Zf (bR p x ρ)) λρ=>ex F tp b ρ) xs ρ) z Q E:=
 DE I xs hi (λx r ρ z hi=>(wG λρ=>oQ).mp (h x r ρ z hi)) q
theorem DF(I:Nat->Env->Z->Prop)(n:Nat)(hi:I n ρ z)(hn:n < Ar)(h:∀ n ρ z,I n ρ z->WE F c ρ z (λx z1=>bC ((pl x).bind ni) λk=>if k then WS F tp b ρ z1 (λo z2=>match o with
  |.nx ρ=>∃ m,m < n/\I m ρ z2
  |.rt s=>Q (.rt s) z2) E else Q (.nx ρ) z1) E):W (uQ (ev F c) (ex F tp b) Ar ρ) z Q E:=by
 refine Kb I (λn ρ z hi=>?_) n Ar hi hn;refine(aQ.mp (h n ρ z hi)).mono (λx z1 h=>?_) λ_ _ h=>h;obtain⟨k,e,h⟩:=c7 h;refine ae e ?_;cases k with
 |true=>exact oQ.mp h|false=>exact h
variable {ρ0:Env}{cond el:Ex}{xs:List D}{Q:List D->Z->Prop}
theorem fI(o:D->D)(h:∀ x∈xs,bC (bR p x ρ0) λρ=>WE F el ρ z (λy z1=>bC (pl y) λd=>d=o x/\z1=z) NE)(q:Q (xs.map o) z):W (turns (eX (ev F .nil) (ev F el) p ρ0) xs) z Q E:=by
 refine(sT (o:=λx=>some (o x)) λx hx=>?_).mpr ?_
 ·refine W.ok (zk.mpr ?_);obtain⟨ρ,e,h⟩:=c7 (h x hx);refine ae e (aQ.mpr ((aQ.mp h).imp λy z1 h=>?_));obtain⟨d,e,rfl,rfl⟩:=c7 h;exact ae e ⟨rfl,rfl⟩
 ·rw[show xs.filterMap (λx=>some (o x))=xs.map o from congrFun (List.filterMap_eq_map (f:=o)) xs];exact q
theorem Ke{c:D->Bool}{o:D->D}:∀ xs:List D,xs.filterMap (λx=>if c x then some (o x) else none)=(xs.filter c).map o
 |[]=>rfl
 |x::r=>by
  rw[QC,Rc];cases hc:c x with
  |false=>exact Ke r|true=>exact congrArg (o x::·) (Ke r)
theorem AS(c:D->Bool)(o:D->D)(h:∀ x∈xs,bC (bR p x ρ0) λρ=>WE F cond ρ z (λy z1=>bC (one y) λs=>s=.d (.bl (c x))/\z1=z/\(c x=true->WE F el ρ z (λy z1=>bC (pl y) λd=>d=o x/\z1=z) NE)) NE)(q:Q ((xs.filter c).map o) z):W (turns (eX (ev F (.cons cond .nil)) (ev F el) p ρ0) xs) z Q E:=by
 refine(sT (o:=λx=>if c x then some (o x) else none) λx hx=>?_).mpr ?_
 ·refine W.ok (zm.mpr ?_);obtain⟨ρ,e,h⟩:=c7 (h x hx);refine ae e (aQ.mpr ((aQ.mp h).imp λy z1 h=>?_));obtain⟨s,e,rfl,rfl,h⟩:=c7 h;refine ae e ?_;show if c x=true then _ else _;cases hc:c x with
  |false=>exact⟨rfl,rfl⟩
  |true =>
   refine aQ.mpr ((aQ.mp (h hc)).imp λy z1 h=>?_);obtain⟨d,e,rfl,rfl⟩:=c7 h;exact ae e ⟨rfl,rfl⟩
 ·rw[Ke];exact q
theorem PB{I:Z->Prop}{P:D->D->Prop}(hi:I z)(h:∀ x∈xs,∀ z,I z->bC (bR p x ρ0) λρ=>WE F el ρ z (λy z1=>bC (pl y) λd=>I z1/\P x d) NE)(q:∀ ys z1,I z1->Rx P xs ys->Q ys z1):W (turns (eX (ev F .nil) (ev F el) p ρ0) xs) z Q E:=by
 refine vD hi (λx hx z hz=>zk.mpr ?_) q;obtain⟨ρ,e,h⟩:=c7 (h x hx z hz);refine ae e (aQ.mpr ((aQ.mp h).imp λy z1 h=>?_));obtain⟨d,e,h⟩:=c7 h;exact ae e ⟨h.1,d,rfl,h.2⟩
end
theorem bg{s:S}{ρ:Env}(h:bM s=true):cV s ρ=ρ:=by
 unfold cV;rw[oh,h];rfl
theorem cu{F:FT}{tp:Bool}{p:gN}{e:Ex}{r:Sm}{ρ:Env}{z:Z}{Q:O->Z->Prop}{E:Nat->Z->Prop}(s:S)(ρ':Env)(he:WE F e ρ z (λl z1=>bC (one l) λt=>t=s/\z1=z) NE)(hb:iS p s (cV s ρ)=some ρ')(q:WS F tp r ρ' z Q E):WS F tp (.seq (.set p e) r) ρ z Q E:=by
 show WE F e ρ z (λl z1=>bC (one l) λs=>bC (iS p s (cV s ρ)) λρ'=>WX F tp r ρ' z1 Q E) E;refine aQ.mpr ((aQ.mp he).imp λl z1 h=>?_);obtain⟨t,e,rfl,rfl⟩:=c7 h;exact ae e (ae hb q)
end Q
namespace K3
abbrev Za:=List (Int × Int)
open PySem L2 Q
def top(i:Nat):Stmt:=ú.main.body.getD i (.Pass ⟨0,0,0,0⟩)
def nums:List (Str × Int):=[(("MOST_PLACES":Str),(6:Int)),(("MOST_TIES":Str),(8:Int)),(("MOST_BOTTOM":Str),(1000:Int))]
abbrev v0:Ex:=.var 0
abbrev v1:Ex:=.var 1
abbrev v2:Ex:=.var 2
abbrev v3:Ex:=.var 3
abbrev v4:Ex:=.var 4
abbrev v5:Ex:=.var 5
abbrev v6:Ex:=.var 6
abbrev v7:Ex:=.var 7
abbrev v8:Ex:=.var 8
abbrev v9:Ex:=.var 9
abbrev v10:Ex:=.var 10
abbrev v11:Ex:=.var 11
abbrev n0:Ex:=.con (.int 0)
abbrev n1:Ex:=.con (.int 1)
abbrev n2:Ex:=.con (.int 2)
abbrev c1(a:Ex):Ex:=.cons a .nil
abbrev c2(a b:Ex):Ex:=.cons a (.cons b .nil)
abbrev c3(a b c:Ex):Ex:=.cons a (.cons b (.cons c .nil))
abbrev c4(a b c d:Ex):Ex:=.cons a (.cons b (.cons c (.cons d .nil)))
abbrev c5(a b c d e:Ex):Ex:=.cons a (.cons b (.cons c (.cons d (.cons e .nil))))
abbrev s1(a:Sm):Sm:=.seq a .nil
abbrev p2(a b:gN):gN:=.tup (.cons a (.cons b .nil))
abbrev eC:Nat:=0
abbrev oR:Nat:=1
abbrev sU:Nat:=2
abbrev sV:Nat:=3
abbrev fJ:Nat:=4
abbrev eD:Nat:=5
abbrev vE:Nat:=6
abbrev oT:Nat:=7
abbrev kY:Nat:=8
abbrev zo:Nat:=9
abbrev gf:Nat:=10
abbrev cG:Nat:=11
abbrev fK:Nat:=12
abbrev eM:Nat:=13
abbrev jl:Nat:=14
abbrev oU:Nat:=15
abbrev lY:Nat:=16
abbrev eQ:Nat:=17
abbrev oV:Nat:=18
abbrev kZ:Nat:=19
abbrev jm:Nat:=20
abbrev gC:Nat:=21
abbrev dH:Nat:=22
abbrev dm:Nat:=23
abbrev j9:Nat:=24
abbrev fM:Nat:=25
abbrev vF:Nat:=26
abbrev DG:Nat:=27
abbrev mH:Nat:=28
abbrev gX:Nat:=29
abbrev oW:Nat:=30
abbrev mI:Nat:=31
abbrev oX:Nat:=32
abbrev mJ:Nat:=33
abbrev ka:Nat:=34
abbrev qY:Nat:=35
abbrev iA:Nat:=36
abbrev cM:Nat:=37
abbrev aH:Nat:=38
abbrev k9:Nat:=39
abbrev km:Nat:=40
abbrev fN:Nat:=41
abbrev lg:Nat:=42
abbrev jn:Nat:=43
abbrev lh:Nat:=44
abbrev ke:Nat:=45
abbrev dI:Nat:=46
abbrev iB:Nat:=47
abbrev bW:Nat:=48
abbrev gj:Nat:=49
abbrev gm:Nat:=50
abbrev Hm:Nat:=51
def eE:Sm:=(.seq (.whl (.cmp .gt v1 n0) (s1 (.set (p2 (.v 0) (.v 1)) (.tup (c2 v1 (.bin .mod v0 v1)))))) (s1 (.ret v0)))
def oY:Sm:=(.seq (.set (.v 2) (.call eC (c2 v0 v1))) (s1 (.ret (.tup (c2 (.bin .fdiv v0 v2) (.bin .fdiv v1 v2))))))
def sW:Sm:=(s1 (.ret (.call oR (c2 (.bin .mul (.idx v0 n0) (.idx v1 n0)) (.bin .mul (.idx v0 n1) (.idx v1 n1))))))
def xP:Sm:=(s1 (.ret (.tup (c2 (.bin .sub (.idx v0 n1) (.idx v0 n0)) (.idx v0 n1)))))
def oZ:Sm:=(s1 (.ret (.and (.isi .int v0) (.not (.isi .bool v0)))))
def kn:Sm:=(s1 (.ret (.and (.call fJ (c1 v0)) (.ch .le .lt n0 v0 v1))))
abbrev Zb:Sm:=s1 (.ret (.con (.bl false)))
def pb:Sm:=(.seq (.iff (.or (.not (.isi .tuple v0)) (.cmp .ne (.bf .len (c1 v0)) n2)) Zb .nil) (.seq (.set (p2 (.v 2) (.v 3)) v0) (s1 (.ret (.and (.call eD (c2 v2 v1)) (.and (.call eD (c2 v3 v1)) (.cmp .lt v2 v3)))))))
def ko:Sm:=(.seq (.iff (.or (.not (.isi .tuple v0)) (.cmp .gt (.bf .len (c1 v0)) (.gint "MOST_TIES" 8))) Zb .nil) (.seq (.iff (.not (.bf .all (c1 (.comp 1 [1] (.v 0) .seq (c1 v0) .nil (.call vE (c2 v0 v1)))))) Zb .nil) (s1 (.ret (.bf .all (c1 (.comp 2 [] (p2 (.v 0) (.v 1)) .zip (c2 v0 (.sl v0 (c1 n1) .nil)) .nil (.cmp .le v0 v1))))))))
def pd:Sm:=(.seq (.iff (.or (.not (.isi .tuple v0)) (.cmp .ne (.bf .len (c1 v0)) n2)) Zb .nil) (.seq (.set (p2 (.v 1) (.v 2)) v0) (s1 (.ret (.and (.call fJ (c1 v1)) (.and (.ch .le .le n1 v1 (.gint "MOST_PLACES" 6)) (.call oT (c2 v2 v1))))))))
def sX:Sm:=(s1 (.ret (.bf .all (c1 (.comp 2 [] (p2 (.v 0) (.v 1)) .zip (c2 v0 (.sl v0 (c1 n1) .nil)) .nil (.cmp .lt v0 v1))))))
def dJ:Sm:=(.seq (.iff (.not (.isi .tuple v0)) Zb .nil) (s1 (.ret (.and (.bf .all (c1 (.comp 1 [1] (.v 0) .seq (c1 v0) .nil (.call eD (c2 v0 v1))))) (.call zo (c1 v0))))))
def jo:Sm:=(s1 (.iff (.not (.call kY (c1 v0))) (s1 (.rais 0)) .nil))
def fO:Sm:=(s1 (.iff (.or (.not (.call gf (c2 v1 (.idx v0 n0)))) (.cmp .eq (.bf .len (c1 v1)) n0)) (s1 (.rais 2)) .nil))
def gE:Sm:=(s1 (.iff (.not (.call eD (c2 v1 (.idx v0 n0)))) (s1 (.rais 3)) .nil))
def fS:Sm:=(s1 (.iff (.not (.call eD (c2 v1 (.bf .len (c1 (.idx v0 n1)))))) (s1 (.rais 4)) .nil))
def pg:Sm:=(s1 (.ret (.tup (c2 (.bf .min (c2 v0 v1)) (.bf .max (c2 v0 v1))))))
def lZ:Sm:=(.seq (.set (p2 (.v 2) (.v 3)) v0) (s1 (.ret (.call oU (c2 (.idx v1 v2) (.idx v1 v3))))))
def jq:Sm:=(s1 (.ret (.ite (.cmp .gt v0 v1) (.bin .sub v0 n1) v0)))
def kq:Sm:=(.seq (.set (p2 (.v 2) (.v 3)) v0) (.seq (.set (.v 4) (.lrng false (c1 v2))) (.seq (.fr (.v 5) .seq (c1 v1) (.seq (.set (p2 (.v 6) (.v 7)) (.idx v3 v5)) (.seq (.set (.v 8) (.idx v4 v6)) (.seq (.set (.v 9) (.idx v4 v7)) (s1 (.set (.v 4) (.comp 1 [8,9] (.v 0) .seq (c1 v4) .nil (.ite (.cmp .eq v0 v2) v1 v0)))))))) (s1 (.ret v4)))))
def iC:Sm:=(.seq (.set (.v 3) (.call oV (c2 v0 v1))) (s1 (.ret (.bf .all (c1 (.comp 1 [2,3] (.v 0) .seq (c1 v2) .nil (.cmp .eq (.idx v2 v0) (.idx v2 (.idx v1 n0)))))))))
def jr:Sm:=(.seq (.iff (.or (.not (.isi .tuple v0)) (.cmp .ne (.bf .len (c1 v0)) n2)) Zb .nil) (.seq (.set (p2 (.v 1) (.v 2)) v0) (.seq (.iff (.or (.not (.call fJ (c1 v1))) (.not (.call fJ (c1 v2)))) Zb .nil) (.seq (.iff (.or (.not (.ch .le .le n1 v2 (.gint "MOST_BOTTOM" 1000))) (.not (.ch .le .le n0 v1 v2))) Zb .nil) (s1 (.ret (.cmp .eq (.call eC (c2 v1 v2)) n1)))))))
def gF:Sm:=(.seq (.exp (.call cG (c1 v0))) (.seq (.iff (.or (.not (.isi .tuple v1)) (.cmp .ne (.bf .len (c1 v1)) (.bf .len (c1 (.idx v0 n1))))) Zb .nil) (s1 (.ret (.bf .all (c1 (.comp 1 [] (.v 0) .seq (c1 v1) .nil (.call jm (c1 v0)))))))))
def dM:Sm:=(s1 (.iff (.not (.call jm (c1 v0))) (s1 (.rais 5)) .nil))
def eW:Sm:=(s1 (.iff (.not (.call gC (c2 v0 v1))) (s1 (.rais 6)) .nil))
def gG:Sm:=(s1 (.ret (.bin .add (.bin .add (.sl v0 .nil (c1 v1)) (.tup (c1 v2))) (.sl v0 (c1 (.bin .add v1 n1)) .nil))))
def dN:Sm:=(.seq (.set (.v 4) (.comp 2 [] (p2 (.v 0) (.v 1)) .enum (c1 (.idx v1 n1)) .nil (.tup (c3 v1 n0 v0)))) (.seq (.set (.v 4) (.bin .add v4 (.comp 2 [3] (p2 (.v 0) (.v 1)) .enum (c1 (.idx v2 n1)) .nil (.tup (c3 (.call lY (c2 v1 v2)) n1 v0))))) (.seq (.iff (.or (.cmp .gt v0 (.gint "MOST_PLACES" 6)) (.cmp .gt (.bf .len (c1 v4)) (.gint "MOST_TIES" 8))) (s1 (.rais 8)) .nil) (.seq (.set (.v 4) (.bf .sorted (c1 v4))) (.seq (.set (.v 5) (.tup (c2 v0 (.bf .tuple (c1 (.comp 3 [] (.tup (.cons (.v 0) (.cons (.v 1) (.cons (.v 2) .nil)))) .seq (c1 v4) .nil v0)))))) (s1 (.ret (.tup (c2 v5 (.bf .tuple (c1 (.comp 3 [] (.tup (.cons (.v 0) (.cons (.v 1) (.cons (.v 2) .nil)))) .seq (c1 v4) .nil (.tup (c2 v1 v2))))))))))))))
def ph:Sm:=(.seq (.exp (.call cG (c1 v0))) (.seq (.exp (.call cG (c1 v1))) (.seq (.set (.v 2) (.comp 1 [0] (.v 0) .rng1 (c1 (.idx v1 n0)) .nil (.bin .add (.idx v1 n0) v0))) (s1 (.ret (.call fM (c4 (.bin .add (.idx v0 n0) (.idx v1 n0)) v0 v1 v2)))))))
def xQ:Sm:=(.seq (.exp (.call cG (c1 v0))) (.seq (.exp (.call cG (c1 v2))) (.seq (.exp (.call eM (c2 v0 v1))) (.seq (.exp (.call eM (c2 v2 v3))) (.seq (.set (.v 4) (.comp 1 [0,3] (.v 0) .rng1 (c1 (.idx v2 n0)) .nil (.bin .add (.idx v1 n0) (.call eQ (c2 v0 v2))))) (.seq (.sti 4 v3 v1) (s1 (.ret (.call fM (c4 (.bin .sub (.bin .add (.idx v0 n0) (.idx v2 n0)) n1) v0 v2 v4))))))))))
def jt:Sm:=(.seq (.set (p2 (.v 4) (.v 5)) v0) (.seq (.set (.v 6) (.bf .len (c1 (.comp 1 [2] (.v 0) .seq (c1 v5) (c1 (.cmp .le v0 v1)) v0)))) (s1 (.ret (.tup (c2 (.tup (c2 v4 (.bin .add (.bin .add (.sl v5 .nil (c1 v6)) (.tup (c1 v2))) (.sl v5 (c1 v6) .nil)))) (.bin .add (.bin .add (.sl v1 .nil (c1 v6)) (.tup (c1 v3))) (.sl v1 (c1 v6) .nil))))))))
def eF:Sm:=(.seq (.set (p2 (.v 3) (.v 4)) v0) (.seq (.set (.v 5) (.comp 1 [2] (.v 0) .rng1 (c1 v3) .nil (.call eQ (c2 v0 v1)))) (.seq (.set (.v 6) (.comp 2 [2] (p2 (.v 0) (.v 1)) .enum (c1 v4) (c1 (.cmp .nmem v2 v1)) v0)) (.seq (.set (.v 7) (.tup (c2 (.bin .sub v3 n1) (.bf .tuple (c1 (.comp 1 [4,5] (.v 0) .seq (c1 v6) .nil (.call lY (c2 (.idx v1 v0) v2)))))))) (s1 (.ret (.tup (c2 v7 (.bf .tuple (c1 (.comp 1 [1] (.v 0) .seq (c1 v6) .nil (.idx v1 v0))))))))))))
def ku:Sm:=(.seq (.exp (.call dm (c2 v0 v1))) (.seq (.exp (.call eM (c2 v0 v2))) (.seq (.set (.v 3) (.comp 2 [2] (p2 (.v 0) (.v 1)) .enum (c1 (.idx v0 n1)) (c1 (.cmp .mem v2 v1)) v0)) (.seq (.set (.v 4) (.comp 1 [0,2] (.v 0) .seq (c1 v3) .nil (.bin .sub (.bf .sum (c1 (.idx (.idx v1 n1) v0))) v2))) (.seq (.iff (.or (.cmp .ne (.bf .len (c1 v4)) n2) (.cmp .eq (.idx v4 n0) (.idx v4 n1))) (s1 (.rais 4)) .nil) (.seq (.set (.v 5) (.call sU (c2 (.idx v1 (.idx v3 n0)) (.idx v1 (.idx v3 n1))))) (.seq (.exp (.call dH (c1 v5))) (.seq (.set (p2 (.v 6) (.v 7)) (.call gX (c3 v0 v1 v2))) (.seq (.set (.v 8) (.call oU (c2 (.call eQ (c2 (.idx v4 n0) v2)) (.call eQ (c2 (.idx v4 n1) v2))))) (s1 (.ret (.call mH (c4 v6 v7 v8 v5)))))))))))))
def ju:Sm:=(.seq (.exp (.call dm (c2 v0 v1))) (.seq (.exp (.call jl (c2 v0 v2))) (.seq (.set (p2 (.v 3) (.v 4)) v0) (.seq (.set (.v 5) (.bin .add v2 n1)) (.seq (.iff (.or (.cmp .eq v5 (.bf .len (c1 v4))) (.cmp .ne (.idx v4 v2) (.idx v4 v5))) (s1 (.rais 4)) .nil) (.seq (.set (.v 6) (.call sV (c1 (.call sU (c2 (.call sV (c1 (.idx v1 v2))) (.call sV (c1 (.idx v1 v5)))))))) (.seq (.exp (.call dH (c1 v6))) (.seq (.set (.v 7) (.call j9 (c3 v1 v2 v6))) (s1 (.ret (.tup (c2 (.tup (c2 v3 (.bin .add (.sl v4 .nil (c1 v5)) (.sl v4 (c1 (.bin .add v5 n1)) .nil)))) (.bin .add (.sl v7 .nil (c1 v5)) (.sl v7 (c1 (.bin .add v5 n1)) .nil))))))))))))))
def iD:Sm:=(.seq (.set (.v 1) (cX (.lst [(.tup [])]) 1e1)) (.seq (.fr (.v 2) .rng1 (c1 (.bf .len (c1 (.idx v0 n1)))) (s1 (.set (.v 1) (.bin .add v1 (.comp 1 [2] (.v 0) .seq (c1 v1) .nil (.bin .add v0 (.tup (c1 v1)))))))) (s1 (.ret (.bf .sorted (c1 v1))))))
def jv:Sm:=(.seq (.exp (.call cG (c1 v0))) (.seq (.exp (.call fK (c2 v0 v1))) (s1 (.ret (.comp 1 [0,1] (.v 0) .seq (c1 (.call oX (c1 v0))) (c1 (.call kZ (c3 v1 v0 v2))) v0)))))
def gH:Sm:=(.seq (.set (.v 1) n1) (.seq (.fr (.v 2) .seq (c1 v0) (s1 (.aug .mul 1 (.idx v2 n1)))) (s1 (.ret v1))))
def l4:Sm:=(.seq (.set (.v 2) n1) (.seq (.fr (p2 (.v 3) (p2 (.v 4) (.v 5))) .enum (c1 v0) (s1 (.aug .mul 2 (.ite (.cmp .mem v3 v1) v4 (.bin .sub v5 v4))))) (s1 (.ret v2))))
def iE:Sm:=(s1 (.ret (.call oR (c2 (.bf .sum (c1 (.comp 1 [0] (.v 0) .seq (c1 v1) .nil (.call qY (c2 v1 v0))))) (.call ka (c1 v0))))))
def sY:Sm:=(.seq (.exp (.call dm (c2 v0 v1))) (.seq (.exp (.call fK (c2 v0 v2))) (s1 (.ret (.call iA (c2 v1 (.call mJ (c2 v0 v2))))))))
def jw:Sm:=(.seq (.iff (.zget 0 1) (.seq (.set (.v 2) (.bin .mod (.zget 0 0) v1)) (.seq (.zset 0 (.bin .fdiv (.zget 0 0) v1)) (s1 (.ret v2)))) .nil) (.seq (.zset 0 (.bin .mod (.bin .add (.bin .mul (.zget 0 0) (.con (.int 48271))) (.con (.int 29))) (.con (.int 2147483647)))) (.seq (.set (.v 3) (.bin .mod (.bin .add (.bin .add (.bin .mul (.zget 0 0) (.zget 0 0)) (.bin .mul (.con (.int 39373)) (.zget 0 0))) (.con (.int 7))) (.con (.int 2147483629)))) (.seq (.set (.v 3) (.bin .mod (.bin .add (.bin .mul v3 v3) (.bin .mul (.con (.int 16807)) v3)) (.con (.int 2147483587)))) (s1 (.ret (.bin .mod (.bin .fdiv v3 (.con (.int 8))) v1)))))))
def iF:Sm:=(.seq (.set (.v 2) (.lrng false (c1 v1))) (.seq (.set (.v 3) (.lst .nil)) (.seq (.whl (.cmp .ne v2 (.lst .nil)) (s1 (.apop 3 2 (.call aH (c2 v0 (.bf .len (c1 v2))))))) (s1 (.ret (.bf .tuple (c1 v3)))))))
def kz:Sm:=(.seq (.set (.v 2) (.idx (cX (.lst [(.int 5),(.int 4),(.int 6),(.int 3),(.int 4),(.int 2),(.int 6),(.int 1)]) 1e1) (.call aH (c2 v0 (.con (.int 8)))))) (.seq (.set (.v 3) (.call k9 (c2 v0 v2))) (.seq (.set (.v 4) (.call aH (c2 v0 (.con (.int 6))))) (.seq (.set (.v 5) (.lst .nil)) (.seq (.fr (.v 6) .rng2 (c2 n1 v2) (s1 (.app 5 (.tup (c2 (.idx v3 v6) (.idx v3 (.idx (.lst (.cons (.bin .sub v6 n1) (c5 (.bin .sub v6 n1) n0 (.bin .fdiv v6 n2) (.bin .sub v6 n1) n0))) v4))))))) (.seq (.iff (.and (.cmp .eq v4 n0) (.cmp .gt v2 n2)) (s1 (.app 5 (.tup (c2 (.idx v3 n0) (.idx v3 (.bin .sub v2 n1)))))) .nil) (.seq (.iff (.cmp .eq v4 (.con (.int 4))) (s1 (.set (.v 5) (.sl v5 (c1 n1) .nil))) .nil) (.seq (.fr (.v 7) .rng1 (c1 (.call aH (c2 v0 (.con (.int 5))))) (.seq (.set (p2 (.v 8) (.v 9)) (.tup (c2 (.call aH (c2 v0 v2)) (.call aH (c2 v0 v2))))) (s1 (.iff (.cmp .ne v8 v9) (s1 (.app 5 (.tup (c2 v8 v9)))) .nil)))) (.seq (.iff (.and (.cmp .ne v5 (.lst .nil)) (.cmp .eq (.call aH (c2 v0 (.con (.int 3)))) n0)) (s1 (.app 5 (.idx v5 (.call aH (c2 v0 (.bf .len (c1 v5))))))) .nil) (.seq (.set (.v 5) (.sl v5 .nil (c1 v1))) (s1 (.ret (.tup (c2 v2 (.bf .tuple (c1 (.bf .sorted (c1 (.comp 2 [] (p2 (.v 0) (.v 1)) .seq (c1 v5) .nil (.tup (c2 (.bf .min (c2 v0 v1)) (.bf .max (c2 v0 v1)))))))))))))))))))))))
def fU:Sm:=(.seq (.set (p2 (.v 2) (.v 3)) (.tup (c2 (.bf .abs (c1 v0)) v1))) (.seq (.whl (.cmp .ne v3 n0) (s1 (.set (p2 (.v 2) (.v 3)) (.tup (c2 v3 (.bin .mod v2 v3)))))) (s1 (.ret (.tup (c2 (.bin .fdiv v0 v2) (.bin .fdiv v1 v2)))))))
def iG:Sm:=(s1 (.ret (.call fN (c2 (.bin .mul (.idx v0 n0) (.idx v1 n0)) (.bin .mul (.idx v0 n1) (.idx v1 n1))))))
def dO:Sm:=(.seq (.iff (.cmp .lt v1 (.bf .len (c1 v0))) (s1 (.ret (.idx v0 v1))) .nil) (s1 (.ret n0)))
def fj:Sm:=(.seq (.set (.v 2) (.call jn (c2 v0 v1))) (.seq (.iff (.cmp .ge v2 (.bin .pow (.con (.int 10)) (.con (.int 18)))) (s1 (.ret (.lst (c2 (.bin .sub v2 (.bin .pow (.con (.int 10)) (.con (.int 18)))) (.con (.bl true)))))) .nil) (s1 (.ret (.lst (c2 (.bin .mod v2 (.con (.int 2147483647))) (.con (.bl false))))))))
def gI:Sm:=(.seq (.set (.v 1) (.call aH (c2 v0 (.con (.int 8))))) (.seq (.iff (.cmp .lt v1 n2) (s1 (.ret (.idx (cX (.lst [(.tup [(.int 0),(.int 1)]),(.tup [(.int 1),(.int 1)])]) 1e1) v1))) .nil) (.seq (.set (.v 2) (.idx (.lst (.cons n2 (c5 (.con (.int 3)) (.con (.int 4)) (.bin .add n1 (.call aH (c2 v0 (.con (.int 12))))) (.bin .add n1 (.call aH (c2 v0 (.con (.int 1000))))) (.con (.int 1000))))) (.bin .sub v1 n2))) (s1 (.ret (.call fN (c2 (.call aH (c2 v0 (.bin .add v2 n1))) v2)))))))
def fV:Sm:=(s1 (.ret (.bf .tuple (c1 (.comp 1 [0] (.v 0) .seq (c1 (.idx v1 n1)) .nil (.call ke (c1 v1)))))))
def iH:Sm:=(.seq (.set (.v 1) (.call km (c2 v0 (.con (.int 4))))) (.seq (.set (.v 2) (.bf .min (c2 (.con (.int 3)) (.idx v1 n0)))) (s1 (.ret (.tup (c2 v2 (.bf .tuple (c1 (.comp 1 [2] (.v 0) .seq (c1 (.idx v1 n1)) (c1 (.cmp .lt (.idx v0 n1) v1)) v0)))))))))
def kA:Sm:=(s1 (.ret (.lrng true (c1 (.idx v0 n0)))))
def cC:Sm:=(.seq (.set (p2 (.v 5) (.v 6)) (.tup (c2 (.call aH (c2 v0 (.idx v1 n0))) (.call aH (c2 v0 (.idx v2 n0)))))) (.seq (.set (p2 (.v 7) (.v 8)) (.call DG (c4 v1 v5 v2 v6))) (.seq (.set (.v 9) (.bf .tuple (c1 (.comp 2 [3,4] (p2 (.v 0) (.v 1)) .seq (c1 v8) .nil (.idx (.idx (.lst (c2 v2 v3)) v0) v1))))) (.seq (.iff (.or (.cmp .isnt (.call kY (c1 v7)) (.con (.bl true))) (.or (.cmp .ne (.bf .sorted (c1 v8)) (.bf .sset (c1 v8))) (.cmp .ne (.bf .len (c1 v8)) (.bin .add (.bf .len (c1 v3)) (.bf .len (c1 v4)))))) Zb .nil) (.seq (.set (.v 10) (.call lg (c2 (.call cM (c3 v1 v3 (.call bW (c1 v1)))) (.call cM (c3 v2 v4 (.call bW (c1 v2))))))) (.seq (.iff (.cmp .ne (.call cM (c3 v7 v9 (.call bW (c1 v7)))) v10) Zb .nil) (.seq (.iff (.cmp .ne (.call cM (c3 v7 v9 (.call bW (c1 v1)))) (.call cM (c3 v1 v3 (.call bW (c1 v1))))) Zb .nil) (.seq (.set (p2 (.v 7) (.v 8)) (.call vF (c2 v1 v2))) (.seq (.set (.v 9) (.bf .tuple (c1 (.comp 2 [3,4] (p2 (.v 0) (.v 1)) .seq (c1 v8) .nil (.idx (.idx (.lst (c2 v2 v3)) v0) v1))))) (.seq (.iff (.cmp .ne (.call cM (c3 v7 v9 (.call bW (c1 v7)))) (cX (.tup [(.int 0),(.int 1)]) 1e1)) Zb .nil) (.seq (.set (.v 11) (.bf .tuple (c1 (.comp 1 [1] (.v 0) .rng1 (c1 (.idx v2 n0)) .nil (.bin .add (.idx v1 n0) v0))))) (s1 (.ret (.cmp .eq (.call cM (c3 v7 v9 v11)) (.call cM (c3 v2 v4 (.call bW (c1 v2))))))))))))))))))
def aX:Sm:=(.seq (.fr (.v 3) .rng1 (c1 (.idx v1 n0)) (.seq (.set (.v 4) (.mad [1,2,3] (.call oW (c3 v0 v1 v2)))) (s1 (.iff (.cmp .isnt v4 (.con .bp)) (.seq (.set (.v 5) (.bf .tuple (c1 (.comp 1 [0,3] (.v 0) .rng1 (c1 (.idx v1 n0)) (c1 (.and (.cmp .ne v0 v2) (.cmp .gt (.call aH (c2 v1 (.con (.int 4)))) n0))) v0)))) (.seq (.set (.v 5) (.orT v5 (.bf .tuple (c1 (.comp 1 [3] (.v 0) .rng1 (c1 (.idx v1 n0)) (c1 (.cmp .ne v0 v1)) v0))))) (.seq (.set (.v 6) (.bf .tuple (c1 (.comp 1 [3] (.v 0) .seq (c1 v5) .nil (.bin .sub v0 (.bf .int (c1 (.cmp .gt v0 v1)))))))) (s1 (.iff (.or (.cmp .ne (.call cM (c3 (.idx v4 n0) (.idx v4 n1) v6)) (.call cM (c3 v1 v2 v5))) (.not (.call gC (c2 (.idx v4 n0) (.idx v4 n1))))) Zb .nil))))) .nil)))) (.seq (.fr (.v 7) .rng1 (c1 (.bf .len (c1 (.idx v1 n1)))) (.seq (.set (.v 4) (.mad [1,2,7] (.call mI (c3 v0 v1 v2)))) (s1 (.iff (.cmp .isnt v4 (.con .bp)) (.seq (.iff (.cmp .ne (.call cM (c3 (.idx v4 n0) (.idx v4 n1) (.call bW (c1 v1)))) (.call cM (c3 v1 v2 (.call bW (c1 v1))))) Zb .nil) (s1 (.iff (.or (.cmp .isnt (.call kY (c1 (.idx v4 n0))) (.con (.bl true))) (.cmp .ne (.bf .len (c1 (.idx v4 n1))) (.bin .sub (.bf .len (c1 v2)) n1))) Zb .nil))) .nil)))) (s1 (.ret (.con (.bl true))))))
def zp:Sm:=(.seq (.fr (.v 1) .rng1 (c1 (.bf .max (c2 n1 (.bf .min (c2 (.bf .len (c1 v0)) (.con (.int 5))))))) (.seq (.newz 2 lh (c2 v0 v1)) (.seq (.set (p2 (.v 3) (.v 4)) (.tup (c2 (.call iB (c1 v2)) (.call iB (c1 v2))))) (.seq (.iff (.not (.call gj (c5 v2 v3 v4 (.call dI (c2 v2 v3)) (.call dI (c2 v2 v4))))) Zb .nil) (.seq (.set (.v 5) (.call km (c2 v2 (.idx (cX (.lst [(.int 5),(.int 8)]) 1e1) (.bf .int (c1 (.cmp .eq v1 n0))))))) (s1 (.iff (.not (.call gm (c3 v2 v5 (.call dI (c2 v2 v5))))) Zb .nil))))))) (s1 (.ret (.con (.bl true)))))
abbrev eV(nm:Str)(k i:Nat)(N:Zk)(b:Sm)(lm:Bool):Row:=⟨nm,N.take k,top i,N,b,lm⟩
def rows:List Row:=[eV "common_divisor" 2 10 ["one","other"] eE false,
 eV "lowest" 2 11 ["top","bottom","divisor"] oY false,
 eV "times" 2 12 ["one","other"] sW false,
 eV "lack" 1 13 ["one"] xP false,
 eV "is_whole" 1 17 ["thing"] oZ false,
 eV "is_below" 2 18 ["thing","many"] kn false,
 eV "is_tie" 2 19 ["thing","many","a","b"] pb false,
 eV "are_ties" 2 20 ["thing","many"] ko false,
 eV "is_web" 1 21 ["thing","many","ties"] pd false,
 eV "rises" 1 22 ["things"] sX false,
 eV "is_rising_below" 2 23 ["thing","many"] dJ false,
 eV "check_web" 1 24 ["thing"] jo false,
 eV "check_places" 2 25 ["web","thing"] fO false,
 eV "check_place" 2 26 ["web","thing"] gE false,
 eV "check_number" 2 27 ["web","thing"] fS false,
 eV "tie_of" 2 28 ["one","other"] pg false,
 eV "renamed" 2 29 ["tie","names","a","b"] lZ false,
 eV "closed_up" 2 30 ["place","gone"] jq false,
 eV "marks_by" 2 31 ["web","lot","many","ties","marks","number","a","b","kept","gone"] kq false,
 eV "are_joined" 3 32 ["web","lot","places","marks"] iC false,
 eV "is_chance" 1 35 ["thing","top","bottom"] jr false,
 eV "are_chances" 2 36 ["web","thing"] gF false,
 eV "check_chance" 1 37 ["thing"] dM false,
 eV "check_chances" 2 38 ["web","thing"] eW false,
 eV "with_chance" 3 39 ["chances","number","chance"] gG false,
 eV "put_together" 4 41 ["many","one","other","names","rows","web"] dN false,
 eV "beside" 2 42 ["one","other","names"] ph false,
 eV "hung" 4 43 ["one","place","other","there","names"] xQ false,
 eV "tie_added" 4 44 ["web","chances","tie","chance","many","ties","at"] jt false,
 eV "place_left_out" 3 45 ["web","chances","place","many","ties","names","kept","fewer"] eF false,
 eV "row_made" 3 46 ["web","chances","place","numbers","ends","chance","fewer","left","tie"] ku false,
 eV "pair_made" 3 47 ["web","chances","number","many","ties","after","chance","left"] ju false,
 eV "all_lots" 1 49 ["web","lots","number"] iD false,
 eV "good_lots" 2 50 ["web","places"] jv false,
 eV "all_bottoms" 1 52 ["chances","found","chance"] gH false,
 eV "lot_top" 2 53 ["chances","lot","found","number","top","bottom"] l4 false,
 eV "lots_share" 2 54 ["chances","lots"] iE false,
 eV "share" 3 55 ["web","chances","places"] sY false,
 eV "_law_take" 2 57 ["_law_state_here","_law_many","_law_found","_law_stirred"] jw false,
 eV "_law_mixed" 2 58 ["_law_state_here","_law_many","_law_left","_law_found"] iF false,
 eV "_law_web" 2 59 ["_law_state_here","_law_most","_law_many","_law_names","_law_way","_law_ties","_law_at","_law_turn","_law_one","_law_other"] kz false,
 eV "_law_divided" 2 60 ["_law_top","_law_bottom","_law_one","_law_other"] fU false,
 eV "_law_times" 2 61 ["_law_one","_law_other"] iG false,
 eV "_law_cell_at" 2 62 ["_law_script","_law_k"] dO false,
 eV "_law_state" 2 63 ["_law_script","_law_k","_law_cell"] fj false,
 eV "_law_chance" 1 64 ["_law_state_here","_law_way","_law_bottom"] gI false,
 eV "_law_chances" 2 65 ["_law_state_here","_law_web_here"] fV false,
 eV "_law_small" 1 66 ["_law_state_here","_law_web_here","_law_many"] iH false,
 eV "_law_all" 1 67 ["_law_web_here"] kA false,
 eV "_law_hung_right" 5 68 ["_law_state_here","_law_one","_law_other","_law_chances_here","_law_more","_law_place","_law_there","_law_web_here","_law_whence","_law_both","_law_due","_law_later"] cC false,
 eV "_law_made_right" 3 70 ["_law_state_here","_law_web_here","_law_chances_here","_law_place","_law_found","_law_rest","_law_there","_law_number"] aX true,
 eV "law" 1 71 ["_law_script","_law_k","_law_state_here","_law_one","_law_other","_law_web_here"] zp false]
abbrev Zc(a b:Nat)(c:Sm):Df:=.code a b c
def T:List Df:=[Zc 2 2 eE,Zc 2 3 oY,Zc 2 2 sW,Zc 1 1 xP,Zc 1 1 oZ,Zc 2 2 kn,Zc 2 4 pb,Zc 2 2 ko,Zc 1 3 pd,Zc 1 1 sX,Zc 2 2 dJ,Zc 1 1 jo,Zc 2 2 fO,Zc 2 2 gE,Zc 2 2 fS,Zc 2 2 pg,Zc 2 4 lZ,Zc 2 2 jq,Zc 2 10 kq,Zc 3 4 iC,Zc 1 3 jr,Zc 2 2 gF,Zc 1 1 dM,Zc 2 2 eW,Zc 3 3 gG,Zc 4 6 dN,Zc 2 3 ph,Zc 4 5 xQ,Zc 4 7 jt,Zc 3 8 eF,Zc 3 9 ku,Zc 3 8 ju,Zc 1 3 iD,Zc 2 2 jv,Zc 1 3 gH,Zc 2 6 l4,Zc 2 2 iE,Zc 3 3 sY,Zc 2 4 jw,Zc 2 4 iF,Zc 2 10 kz,Zc 2 4 fU,Zc 2 2 iG,Zc 2 2 dO,Zc 2 3 fj,Zc 1 3 gI,Zc 2 2 fV,Zc 1 3 iH,Zc 1 1 kA,Zc 5 12 cC,Zc 3 8 aX,Zc 1 6 zp]
def PC:tabOf rows=T:=rfl
end K3
namespace K3
open Q
open L2 (D)
def Kg:D->Bool
 |.int _=>true|_=>false
def gn(k:Nat)(x:D)(z:Z):aA T (k + 3) fJ [.d x] z=some (.ok (.d (.bl (Kg x))) z):=by
 cases z <;> cases x <;> rfl
def aT(x:D)(m:Int):Bool:=match x with
 |.int i=>decide (0<=i)&&decide (i < m)|_=>false
def eR(k:Nat)(x:D)(m:Int)(z:Z):aA T (k + 4) eD [.d x,.d (.int m)] z=some (.ok (.d (.bl (aT x m))) z):=by
 refine W.ok (bI (ps:=2) (ns:=2) (b:=kn) rfl rfl 1e1 (Wo (gn (k:=k) x z) ?_))
 cases x with
 |int i=>exact ib (b:=decide (0<=i)) (λh=>sb (show decide (i < m)=(decide (0<=i)&&decide (i < m)) by rw[h];rfl)) λh=>sb (show false=(decide (0<=i)&&decide (i < m)) by rw[h];rfl)|_=>exact sb rfl
def pj(x:D)(m:Int):Bool:=match x with
 |.tup [a,b]=>aT a m&&(aT b m&&(match a,b with
  |.int i,.int j=>decide (i < j)
  |_,_=>false))
 |_=>false
def fo(h:aT x m=true):∃ i,x=.int i/\0<=i/\i < m:=by
 cases x with
 |int i =>
  unfold aT at h;rw[Á,decide_eq_true_eq,decide_eq_true_eq] at h;exact⟨i,rfl,h⟩
 |_=>cases h
def AU(k:Nat)(x:D)(m:Int)(z:Z):aA T (k + 5) vE [.d x,.d (.int m)] z=some (.ok (.d (.bl (pj x m))) z):=by
 refine W.ok (bI (ps:=2) (ns:=4) (b:=pb) rfl rfl 1e1 ?_)
 cases x with
 |tup l =>
  match l with
  |[a,b] =>
   refine Wo (eR k a m z) (ib (b:=aT a m) (λh1=>Wo (eR k b m z) (ib (b:=aT b m) (λh2=>?_) λh=>?_)) λh=>?_)
   ·obtain⟨i,rfl,_⟩:=fo h1;obtain⟨j,rfl,_⟩:=fo h2;exact sb (show decide (i < j)=(aT (.int i) m&&(aT (.int j) m&&decide (i < j))) by rw[h1,h2];rfl)
   ·exact sb (show false=(aT a m&&(aT b m&&_)) by rw[h1,h];rfl)
   ·exact sb (show false=(aT a m&&_) by rw[h];rfl)
  |[]=>exact sb rfl|[_]=>exact sb rfl|_::_::_::_=>exact sb rfl
 |_=>exact sb rfl
def l5(l:List D)(p:D->Bool):pY .all [.lst (l.map λx=>D.bl (p x))]=some (.d (.bl (l.all p))):=by
 have h:(l.map λx=>D.bl (p x)).mapM ni=some (l.map p):=by
  induction l with
  |nil=>rfl
  |cons x r ih =>
   rw[QS,VP,ih];rfl
 show((l.map λx=>D.bl (p x)).mapM ni).map _=_;rw[h];simp[all_map]
def eS(l:List D)(n:Nat):cutD l (some (n:Int)) none=l.drop n:=by
 have h1:HT.dD l.length 0 (some (n:Int))=min n l.length:=HT.yh l.length 0 n;unfold cutD;rw[h1];show((l.drop (min n l.length)).take (l.length - min n l.length))=_;rcases Vs n l.length with h | h
 ·rw[SE h,R9 (by rw[RV];omega)]
 ·rw[Ux h,UN,List.take_nil,List.drop_of_length_le h]
theorem pz:∀ a b:List D,(fi a b).length<=a.length
 |[],_=>Ñ _|_::_,[]=>Se _|_::r,_::q=>VN (pz r q)
theorem sZ:∀ {a b:List D}{d:D},d∈fi a b->∃ x∈a,∃ y∈b,d=.tup [x,y]
 |x::r,y::q,d,h=>by
  rcases ß.mp h with h | h
  ·exact⟨x,Ë,y,Ë,h⟩
  ·obtain⟨u,hu,v,hv,e⟩:=sZ h;exact⟨u,È _ hu,v,È _ hv,e⟩
def M7:D->Bool
 |.tup [.tup a,.tup b]=>(match jY a,jY b with
  |some ns,some ms=>HT.leB ns ms
  |_,_=>false)
 |_=>false
def pA(l:List D):Bool:=(fi l (l.drop 1)).all M7
def mK(x:D)(m:Int):Bool:=match x with
 |.tup l=>decide (l.length<=8)&&(l.all (λt=>pj t m)&&pA l)|_=>false
def qZ(h:pj x m=true):∃ i j,x=.tup [.int i,.int j]/\0<=i/\i < j/\j < m:=by
 cases x with
 |tup l =>
  match l,h with
  |[a,b],h =>
   unfold pj at h;rw[Á,Á] at h;obtain⟨h1,h2,h3⟩:=h;obtain⟨i,rfl,i1,i2⟩:=fo h1;obtain⟨j,rfl,j1,j2⟩:=fo h2;exact⟨i,j,rfl,i1,of_decide_eq_true h3,j2⟩
 |_=>cases h
def bO(h:n<=1000):n<=most:=ê h 1e1
def vG(k:Nat)(x:D)(m:Int)(z:Z):aA T (k + 6) oT [.d x,.d (.int m)] z=some (.ok (.d (.bl (mK x m))) z):=by
 refine W.ok (bI (ps:=2) (ns:=2) (b:=ko) rfl rfl 1e1 ?_)
 cases x with
 |tup l =>
  refine ib (b:=decide ((8:Int) < (l.length:Int))) (λh=>?_) λh=>?_
  ·refine sb (show false=(decide (l.length<=8)&&_) from ?_);rw[decide_eq_true_eq] at h;rw[decide_eq_false ∅];rfl
  ·rw[decide_eq_false_iff_not] at h;have h8:l.length<=8:=∅
   refine ip (bO ∅) (fI (λx=>.bl (pj x m)) (λx _=>Wo (AU k x m z) ⟨rfl,rfl⟩) ?_)
   refine(ae (l5 l λx=>pj x m) ?_ :);refine ib (b:=!l.all λx=>pj x m) (λh=>?_) λh2=>?_
   ·exact sb (show false=(decide (l.length<=8)&&(l.all (λt=>pj t m)&&pA l)) by rw[î] at h;rw[h,UI,Bool.and_false])
   ·rw[T9] at h2;have ha:=Õ.mp h2;have e1:cutD l (some 1) none=l.drop 1:=eS l 1;refine ip (c:=(fi l (cutD l (some 1) none)).length<=most) (ê (pz _ _) (bO ∅)) (fI (λx=>.bl (M7 x)) (λx hx=>?_) (ae (l5 _ M7) ?_ :))
    ·obtain⟨u,hu,v,hv,rfl⟩:=sZ hx;rw[e1] at hv;obtain⟨i,j,rfl,_⟩:=qZ (ha u hu);obtain⟨i',j',rfl,_⟩:=qZ (ha v (Ru hv));exact⟨rfl,rfl⟩
    ·refine sb (b:=(fi l (cutD l (some 1) none)).all M7) ?_;show _=(decide (l.length<=8)&&(l.all (λt=>pj t m)&&pA l));rw[e1,h2,decide_eq_true h8,RK,RK];rfl
 |_=>exact sb rfl
def Kh(a t:D):Bool:=match a with
 |.int m=>decide (1<=m)&&(decide (m<=6)&&mK t m)|_=>false
def pB(x:D):Bool:=match x with
 |.tup [a,t]=>Kh a t|_=>false
def l6(k:Nat)(x:D)(z:Z):aA T (k + 7) kY [.d x] z=some (.ok (.d (.bl (pB x))) z):=by
 refine W.ok (bI (ps:=1) (ns:=3) (b:=pd) rfl rfl 1e1 ?_)
 cases x with
 |tup l =>
  match l with
  |[a,t] =>
   refine Wo (gn (k + 3) a _) ?_;cases a with
   |int m =>
    refine ib (b:=decide (1<=m)) (λg1=>ib (b:=decide (m<=6)) (λg2=>Wo (vG k t m _) ?_) λg2=>?_) λg1=>?_
    ·exact sb (show mK t m=(decide (1<=m)&&(decide (m<=6)&&mK t m)) by rw[g1,g2];rfl)
    ·exact sb (show false=(decide (1<=m)&&(decide (m<=6)&&mK t m)) by rw[g1,g2];rfl)
    ·exact sb (show false=(decide (1<=m)&&(decide (m<=6)&&mK t m)) by rw[g1];rfl)
   |_=>exact sb rfl
  |[]=>exact sb rfl|[_]=>exact sb rfl|_::_::_::_=>exact sb rfl
 |_=>exact sb rfl
def cN(k:Nat)(z:Z)(h:pB x=true):aA T (k + 8) cG [.d x] z=some (.ok (.d .bp) z):=
 W.ok (bI (ps:=1) (ns:=1) (b:=jo) rfl rfl 1e1 (Wo (l6 k x z) (ie (b:=!pB x) (by rw[h];rfl) (sd rfl))))
def zq(hj:0 < j):dZ .mod (.int i) (.int j)=some (.d (.int (i % j))):=by
 show(if 0 < j then some (S.d (.int (i % j))) else none)=_;rw[if_pos hj]
def GT(n:Nat)(a b:Int):Prop:=0<=b/\((∃ k:Nat,n=2 * k + 1/\b < 2 ^ k)\/∃ k:Nat,n=2 * k/\b < a/\a < 2 ^ k)
def GT.step(h:GT n a b)(hb:0 < b):∃ m,m < n/\GT m b (a % b):=by
 obtain⟨h0,h⟩:=h;have r0:=emod_nonneg a (show b≠0 by omega)
 have r1:=emod_lt_of_pos a hb;rcases h with ⟨k,rfl,hk⟩ | ⟨k,rfl,hba,hk⟩
 ·exact⟨2 * k,Sg _,r0,.inr ⟨k,rfl,r1,hk⟩⟩
 ·cases k with
  |zero=>simp at hk;omega
  |succ k =>
   refine⟨2 * k + 1,∅,r0,.inl ⟨k,rfl,?_⟩⟩
   have e:=Int.emod_add_mul_ediv a b;have q1:1<=a / b:=Int.le_ediv_of_mul_le hb ∅
   have:b * 1<=b * (a / b):=Rn q1 ∅
   have h2:(2:Int) ^ (k + 1)=2 * 2 ^ k:=by rw[Int.pow_succ,Tt]
   rw[h2] at hk;omega
def zr(a b:Int):gcd b (a % b)=gcd a b:=by
 rw[Int.emod_def,Int.gcd_sub_mul_left_right,gcd_comm]
def big(b:Int):Prop:=b < 2 ^ 4000
def s9(h0:0<=b)(h:big b):b.natAbs < gR:=by
 have h:b < 2 ^ 4000:=h;have e:((2 ^ 4000:Nat):Int)=2 ^ 4000:=by rw[TN];rfl
 show b.natAbs < 2 ^ 4000;omega
def jK(h:b<=2 ^ 64):big b:=Vc h 1e1
def gp(k:Nat)(a b:Int)(z:Z)(h0:0 < b)(h1:big b):aA T (k + 3) eC [.d (.int a),.d (.int b)] z=some (.ok (.d (.int (gcd a b))) z):=by
 refine W.ok (bI (ps:=2) (ns:=2) (b:=eE) rfl rfl 1e1 (DF (λn ρ z1=>z1=z/\∃ c d:Int,ρ=[some (.d (.int c)),some (.d (.int d))]/\GT n c d/\gcd c d=gcd a b/\(d=0->0<=c)) (2 * 4000 + 1) ⟨rfl,a,b,rfl,⟨QI h0,.inl ⟨4000,rfl,h1⟩⟩,rfl,λh=>by omega⟩ 1e1 ?_))
 rintro n ρ z1 ⟨rfl,c,d,rfl,g,hg,hc⟩;refine ib (b:=decide (0 < d)) (λhd=>?_) λhd=>?_
 ·rw[decide_eq_true_eq] at hd;obtain⟨m,hm,g'⟩:=g.step hd;refine(ae (zq (i:=c) hd) ?_ :);exact⟨m,hm,rfl,d,c % d,rfl,g',(zr c d).trans hg,λ_=>Int.le_of_lt hd⟩
 ·rw[decide_eq_false_iff_not] at hd;have hz:d=0:=by have:=g.1;omega
  subst hz;rw[Yj] at hg;refine sd (s:=.d (.int c)) ?_;rw[← hg,show((c.natAbs:Nat):Int)=c by have:=hc rfl;omega]
def Gr(t b:Int):Bool:=(decide (1<=b)&&decide (b<=1000))&&((decide (0<=t)&&decide (t<=b))&&(((gcd t b:Nat):Int) == 1))
def Qp:D->D->Bool
 |.int t,.int b=>Gr t b|_,_=>false
def zt:D->Bool
 |.tup [d,e]=>Qp d e|_=>false
def td(h:¬ (1<=u/\u<=1000/\0<=t/\t<=u)):false=Gr t u:=by
 unfold Gr;refine Eq.symm ?_;rw[Bool.eq_false_iff];intro q;rw[Á,Á,Á,Á,decide_eq_true_eq,decide_eq_true_eq,decide_eq_true_eq,decide_eq_true_eq] at q;exact h ⟨q.1.1,q.1.2,q.2.1.1,q.2.1.2⟩
def iI(k:Nat)(x:D)(z:Z):aA T (k + 4) jm [.d x] z=some (.ok (.d (.bl (zt x))) z):=by
 refine W.ok (bI (ps:=1) (ns:=3) (b:=jr) rfl rfl 1e1 ?_)
 cases x with
 |tup l =>
  match l with
  |[a,b] =>
   refine Wo (gn k a z) ?_;cases a with
   |int t =>
    refine Wo (gn k b z) ?_;cases b with
    |int u =>
     refine ib (b:=decide (1<=u)) (λh1=>ib (b:=!decide (u<=1000)) (λh2=>?_) λh2=>ib (b:=decide (0<=t)) (λh3=>ib (b:=!decide (t<=u)) (λh4=>?_) λh4=>?_) λh3=>?_) λh1=>?_
     ·exact sb (td λq=>by rw[î,decide_eq_false_iff_not] at h2;exact h2 q.2.1)
     ·exact sb (td λq=>by rw[î,decide_eq_false_iff_not] at h4;exact h4 q.2.2.2)
     ·rw[T9,decide_eq_true_eq] at h2 h4;rw[decide_eq_true_eq] at h1 h3;refine Wo (gp k t u z ∅ (jK ∅)) (sb (show(((gcd t u:Nat):Int) == 1)=Gr t u from ?_))
      unfold Gr;rw[decide_eq_true h1,decide_eq_true h2,decide_eq_true h3,decide_eq_true h4];rfl
     ·exact sb (td λq=>by rw[decide_eq_false_iff_not] at h3;exact h3 q.2.2.1)
     ·exact sb (td λq=>by rw[decide_eq_false_iff_not] at h1;exact h1 q.1)
    |_=>exact sb rfl
   |_=>exact sb rfl
  |[]=>exact sb rfl|[_]=>exact sb rfl|_::_::_::_=>exact sb rfl
 |_=>exact sb rfl
def AV(n:Nat):D->Bool
 |.tup l=>(l.length == n)&&l.all zt|_=>false
def AW(h:pB x=true):∃ m ts,x=.tup [.int m,.tup ts]/\1<=m/\m<=6/\ts.length<=8/\(∀ t∈ts,pj t m=true)/\pA ts=true:=by
 cases x with
 |tup l =>
  match l,h with
  |[a,t],h =>
   unfold pB Kh at h;cases a with
   |int m =>
    rw[Á,Á,decide_eq_true_eq,decide_eq_true_eq] at h;obtain⟨h1,h2,h3⟩:=h;unfold mK at h3;cases t with
    |tup ts =>
     rw[Á,Á,decide_eq_true_eq,Rp] at h3;exact⟨m,ts,rfl,h1,h2,h3.1,h3.2.1,h3.2.2⟩
    |_=>cases h3
   |_=>cases h
 |_=>cases h
def jx(k:Nat)(hw:pB (.tup [.int m,.tup ts])=true)(x:D)(z:Z):aA T (k + 9) gC [.d (.tup [.int m,.tup ts]),.d x] z=some (.ok (.d (.bl (AV ts.length x))) z):=by
 obtain⟨m',ts',e,_,_,h8,_⟩:=AW hw;cases e;refine W.ok (bI (ps:=2) (ns:=2) (b:=gF) rfl rfl 1e1 (Wo (cN k z hw) ?_))
 cases x with
 |tup l =>
  have e:((l.length:Int) == (ts.length:Int))=(l.length == ts.length):=by rw[Q8,beq_iff_eq,beq_iff_eq];omega
  refine ib (b:=!((l.length:Int) == (ts.length:Int))) (λh=>?_) λh=>?_
  ·rw[e,î] at h;exact sb (show false=((l.length == ts.length)&&_) by rw[h];rfl)
  ·rw[e,T9] at h;refine ip (bO (by rw[beq_iff_eq] at h;omega)) (fI (λx=>.bl (zt x)) (λx _=>Wo (iI (k + 4) x z) ⟨rfl,rfl⟩) (ae (l5 l zt) ?_ :))
   exact sb (b:=l.all zt) (show _=((l.length == ts.length)&&l.all zt) by rw[h];rfl)
 |_=>exact sb rfl
def eG(k:Nat)(hw:pB (.tup [.int m,.tup ts])=true)(z:Z)(h:AV ts.length x=true):aA T (k + 10) dm [.d (.tup [.int m,.tup ts]),.d x] z=some (.ok (.d .bp) z):=
 W.ok (bI (ps:=2) (ns:=2) (b:=eW) rfl rfl 1e1 (Wo (jx k hw x z) (ie (b:=!AV ts.length x) (by rw[h];rfl) (sd rfl))))
def ZI(z:Z):Prop:=∃ n b,z=some (n,b)/\0<=n/\(b=false->n < 2147483647)
def vH{T:List Df}{k f ps ns:Nat}{b:Sm}{l:List S}{z:Z}{Q:S->Z->Prop}{E:Nat->Z->Prop}(hz:ZI z)(h:T[f]?=some (.code ps ns b))(hl:l.length=ps)(hn:ps<=ns)(q:WS (fD T (k + 2)) false b (start ns (l.map gK)) z (λo z1=>match o with
  |.nx _=>Q (.d .bp) z1
  |.rt s=>Q s z1) E):W (aA T (k + 3) f l) z Q E:=by
 obtain⟨n,c,rfl,_⟩:=hz;refine bI h hl hn (q.mono (λo z1 h=>?_) λ_ _ h=>h);cases o <;> exact h
def xR{a:Int}{n:Nat}(h:a.natAbs < n)(hn:n<=2 ^ 64:=by decide):a.natAbs < gR:=Þ h (ê hn 1e1)
def vI{i j:Int}(hi:i.natAbs < 2 ^ 64)(hj:j.natAbs < 2 ^ 64):dZ .mul (.int i) (.int j)=some (.d (.int (i * j))):=by
 show(if i.natAbs < gR/\j.natAbs < gR then some (S.d (.int (i * j))) else none)=_;rw[if_pos ⟨xR hi,xR hj⟩]
def M8{i j:Int}(hj:0 < j)(hb:j.natAbs < 2 ^ 64):dZ .fdiv (.int i) (.int j)=some (.d (.int (i / j))):=by
 show(if 0 < j/\j.natAbs < gR then some (S.d (.int (i / j))) else none)=_;rw[if_pos ⟨hj,xR hb⟩]
def Drawn(m:Int)(s:S)(z1:Z):Prop:=ZI z1/\∃ r:Nat,s=.d (.int r)/\(r:Int) < m
def dA(k:Nat)(m:Int)(hz:ZI z)(m0:0 < m)(m1:m < 2 ^ 32):W (aA T (k + 3) aH [.z,.d (.int m)]) z (Drawn m) NE:=by
 have fin:∀ (a:Int) (z1:Z),ZI z1->Drawn m (.d (.int (a % m))) z1:=λa z1 h=>by
  have h0:=emod_nonneg a (show m≠0 by omega)
  exact⟨h,(a % m).toNat,by rw[Int.toNat_of_nonneg h0],by rw[Int.toNat_of_nonneg h0];exact emod_lt_of_pos _ m0⟩
 refine vH hz (ps:=2) (ns:=4) (b:=jw) rfl rfl 1e1 ?_
 obtain⟨n,b,rfl,n0,n1⟩:=hz;cases b with
 |true =>
  refine(ae (zq (i:=n) m0) ?_ :);refine(ae (M8 (i:=n) m0 ∅) ?_ :)
  exact fin n _ ⟨n / m,true,rfl,V8 n0 ∅,λh=>nomatch h⟩
 |false =>
  have n1:=n1 rfl;have e1:∀ a:Int,0<=a % 2147483647/\a % 2147483647 < 2147483647:=λa=>⟨emod_nonneg _ 1e1,emod_lt_of_pos _ 1e1⟩
  have e2:∀ a:Int,0<=a % 2147483629/\a % 2147483629 < 2147483629:=λa=>⟨emod_nonneg _ 1e1,emod_lt_of_pos _ 1e1⟩
  have s1:∀ a:Int,(a % 2147483647).natAbs < 2 ^ 64:=λa=>by have:=e1 a;omega
  have s2:∀ a:Int,(a % 2147483629).natAbs < 2 ^ 64:=λa=>by have:=e2 a;omega
  refine(ae (vI (i:=n) (j:=48271) ∅ 1e1) ?_ :)
  have a1:=e1 (n * 48271 + 29);refine(ae (vI (s1 (n * 48271 + 29)) (s1 (n * 48271 + 29))) ?_ :);refine(ae (vI (i:=39373) 1e1 (s1 (n * 48271 + 29))) ?_ :)
  refine(ae (vI (s2 _) (s2 _)) ?_ :);refine(ae (vI (i:=16807) 1e1 (s2 _)) ?_ :)
  refine(ae (zq m0) ?_ :);exact fin _ _ ⟨_,false,rfl,a1.1,λ_=>a1.2⟩
def xS(k:Nat)(ns:Zi)(j:Nat)(z:Z):∃ c:Int,aA T (k + 3) jn [.d (.lst (ns.map D.int)),.d (.int j)] z=some (.ok (.d (.int c)) z):=by
 by_cases h:j < ns.length
 ·refine⟨ns[j],W.ok (bI (ps:=2) (ns:=2) (b:=dO) rfl rfl 1e1 (it (b:=decide ((j:Int) < ((ns.map D.int).length:Int))) (by simp[h]) ?_))⟩
  refine(ae (o:=je (.lst (ns.map D.int)) (.int j)) (L2.rQ (v:=.int ns[j]) (by simp[h])) ?_ :)
  exact sd rfl
 ·exact⟨0,W.ok (bI (ps:=2) (ns:=2) (b:=dO) rfl rfl 1e1 (ie (b:=decide ((j:Int) < ((ns.map D.int).length:Int))) (by simp;omega) (sd rfl)))⟩
def DH(k:Nat)(ns:Zi)(j:Nat)(z:Z):∃ (n:Int) (b:Bool),ZI (some (n,b))/\aA T (k + 4) lh [.d (.lst (ns.map D.int)),.d (.int j)] z=some (.ok (.fr [.int n,.bl b]) z):=by
 obtain⟨c,hc⟩:=xS k ns j z;by_cases h:(10 ^ 18:Int)<=c
 ·exact⟨c - 10 ^ 18,true,⟨_,_,rfl,∅,λh=>nomatch h⟩,W.ok (bI (ps:=2) (ns:=3) (b:=fj) rfl rfl 1e1 (Wo hc (it (b:=decide ((10 ^ 18:Int)<=c)) (decide_eq_true h) (sd rfl))))⟩
 ·refine⟨c % 2147483647,false,⟨_,_,rfl,emod_nonneg _ 1e1,λ_=>emod_lt_of_pos _ 1e1⟩,W.ok (bI (ps:=2) (ns:=3) (b:=fj) rfl rfl 1e1 (Wo hc (ie (b:=decide ((10 ^ 18:Int)<=c)) (decide_eq_false h) (sd rfl))))⟩
def gq(h0:0<=m)(h1:m < 100000):uc .rng1 [.int m]=some ((Ö m.toNat).map λ(i:Nat)=>D.int i):=by
 show(if inR m=true then _ else none)=_;rw[if_pos (jf.mpr ⟨∅,h1⟩)]
def ne_nil(h:mW (.lst l)=true):fZ .ne (.lst l) (.lst [])=some (!l.isEmpty):=by
 show(G8 (.lst l) (.lst [])).map (!·)=_;unfold G8;rw[h];cases l <;> rfl
theorem tj:∀ l:Zi,bX (l.map D.int)=true/\da (l.map D.int)=0
 |[]=>⟨rfl,rfl⟩
 |x::r=>by
  obtain⟨h1,h2⟩:=tj r;refine⟨h1,?_⟩;show Yq 0 (da (r.map D.int))=0;rw[h2];rfl
def AX(l:Zi):mW (.lst (l.map D.int))=true:=by
 obtain⟨h1,h2⟩:=tj l;show(bX (l.map D.int)&&decide (da (l.map D.int) + 1<=40))=true;rw[h1,h2];rfl
def vJ(n:Nat):(Ö n).map (λ(i:Nat)=>D.int i)=((Ö n).map λ(i:Nat)=>(i:Int)).map D.int:=by
 rw[Ó];rfl
theorem lj(f:α->β):∀ (l:List α) (i:Nat),(l.map f).eraseIdx i=(l.eraseIdx i).map f
 |[],_=>rfl|x::r,0=>rfl|x::r,i + 1=>congrArg (f x::·) (lj f r i)
theorem fB:∀ (l:List α) (j:Nat) (h:j < l.length),(l[j]::l.eraseIdx j).Perm l
 |x::r,0,_=>.refl _|x::r,j + 1,h=>(XC _ _ _).trans ((fB r j (W9 h)).cons x)
def jL{l:Zi}{j:Nat}(h:j < l.length):(l.map D.int)[j]?=some (.int l[j]):=by rw[Ø,Í h];rfl
def q0{j:Nat}(h:l[j]?=some x):je (.lst l) (.int j)=some x:=L2.rQ h
def mL{j:Nat}(h:l[j]?=some x):je (.tup l) (.int j)=some x:=L2.rQ h
def Gu(k:Nat){m:Int}{z:Z}(hz:ZI z)(m0:1<=m)(m1:m<=100):W (aA T (k + 4) k9 [.z,.d (.int m)]) z (λs z1=>ZI z1/\∃ l:Zi,s=.d (.tup (l.map D.int))/\(l.length:Int)=m/\(∀ x∈l,0<=x/\x < m)/\l.Nodup) NE:=by
 refine vH hz (ps:=2) (ns:=4) (b:=iF) rfl rfl 1e1 ?_
 refine(ae (o:=KQ [.int m]) (gq ∅ ∅) ?_ :)
 refine DF (λn ρ z1=>ZI z1/\∃ left found:Zi,ρ=[some .z,some (.d (.int m)),some (.fr (left.map D.int)),some (.fr (found.map D.int))]/\n=left.length/\(left++found).Nodup/\(∀ x∈left++found,0<=x/\x < m)/\((left.length + found.length:Nat):Int)=m) m.toNat ?_ (by show m.toNat < 20000;omega) ?_
 ·refine⟨hz,(Ö m.toNat).map λ(i:Nat)=>(i:Int),[],?_,by simp,?_,?_,by simp;omega⟩
  ·rw[← vJ];rfl
  ·rw[Ri];exact QF.mpr (VI.imp λh e=>h (Int.ofNat_inj.mp e))
  ·intro x hx;rw[Ri] at hx;obtain⟨i,hi,rfl⟩:=Ç.mp hx;have:=Î.mp hi;omega
 ·rintro n ρ z1 ⟨hz1,left,found,rfl,rfl,nd,hm,hl⟩;refine(ae (ne_nil (AX left)) ?_ :);cases left with
  |nil=>exact⟨hz1,found,rfl,by simpa using hl,λx hx=>hm x (by simpa using hx),by simpa using nd⟩
  |cons x r =>
   have hl2:((r.length + 1 + found.length:Nat):Int)=m:=by simpa using hl
   refine(dA k (((x::r).map D.int).length:Int) hz1 (by simp only[Ä,Ü];omega) (by simp only[Ä,Ü];omega)).imp λs z2 ⟨hz2,j,e,v1⟩=>?_
   subst e;have hj:j < (x::r).length:=by simp only[Ä] at v1;omega
   have hget:((x::r).map D.int)[j]?=some (.int ((x::r)[j])):=jL hj;have ha:uS [some .z,some (.d (.int m)),some (.fr ((x::r).map D.int)),some (.fr (found.map D.int))] 3 2 (found.map D.int) ((x::r).map D.int) j=some (.nx [some .z,some (.d (.int m)),some (.fr (((x::r).map D.int).eraseIdx j)),some (.fr (found.map D.int++[.int ((x::r)[j])]))]):=by
    unfold uS;rw[if_pos ⟨-0,∅,jf.mpr (by simp only[Ü] at hj;omega),by rw[Ä];simp only[most];omega⟩,ä,hget]
    rfl
   refine ae (o:=(pl [S.d (.int j)]).bind yF) (a:=(j:Int)) rfl (ae ha ?_);refine⟨((x::r).eraseIdx j).length,?_,hz2,(x::r).eraseIdx j,found++[(x::r)[j]],?_,rfl,?_,?_,?_⟩
   ·rw[Rg hj];simp
   ·rw[lj,QT];rfl
   ·have hp:(((x::r).eraseIdx j)++(found++[(x::r)[j]])).Perm ((x::r)++found):=by
     have h1:((x::r)[j]::(x::r).eraseIdx j).Perm (x::r):=fB _ _ hj;have h2:(((x::r).eraseIdx j)++(found++[(x::r)[j]])).Perm ((x::r)[j]::((x::r).eraseIdx j++found)):=by
      rw[← SM];exact Wf _ _
     exact h2.trans (h1.append_right found)
    exact hp.nodup_iff.mpr nd
   ·intro y hy;refine hm y ?_;simp only[Uz,Ú] at hy ⊢;rcases hy with hy | hy | hy
    ·exact .inl (List.mem_of_mem_eraseIdx hy)
    ·exact .inr hy
    ·exact .inl (by rw[hy];exact QD hj)
   ·rw[Rg hj,Rk];simp only[Ü,QO] at hl ⊢;omega
def pr(p:Int × Int):D:=.tup [.int p.1,.int p.2]
def ky(p:Int × Int):Zi:=[p.1,p.2]
def Ki(a b c d:Int):MySort.aW [a,b] [c,d]=if a=c then(if b=d then false else decide (b < d)) else decide (a < c):=rfl
def Ch:Za->Prop
 |a::b::r=>HT.leB (ky a) (ky b)=true/\Ch (b::r)|_=>True
def vK(h:MySort.aW (ky p) (ky q)=true):HT.leB (ky p) (ky q)=true:=by
 unfold HT.leB;unfold ky at h ⊢;rw[Ki] at h ⊢;by_cases h1:p.1=q.1
 ·rw[if_pos h1] at h;rw[if_pos h1.symm];by_cases h2:p.2=q.2
  ·rw[if_pos h2] at h;cases h
  ·rw[if_neg h2] at h;rw[if_neg (QQ h2)];simp only[decide_eq_true_eq] at h;simp;omega
 ·rw[if_neg h1] at h;rw[if_neg (QQ h1)];simp only[decide_eq_true_eq] at h;simp;omega
def qh(k:Int × Int):Za->Za
 |[]=>[k]|y::r=>if MySort.aW (ky y) (ky k) then y::qh k r else k::y::r
def pC:Za->Za
 |[]=>[]|k::r=>qh k (pC r)
theorem q9(k:Int × Int):∀ l,(qh k l).Perm (k::l)
 |[]=>.refl _
 |y::r=>by
  unfold qh;split
  ·exact((q9 k r).cons y).trans (.swap _ _ _)
  ·exact .refl _
theorem pD:∀ l,(pC l).Perm l
 |[]=>.refl _|k::r=>(q9 k _).trans ((pD r).cons k)
theorem zu(k:Int × Int):∀ l,Ch l->Ch (qh k l)
 |[],_=>trivial
 |[y],_=>by
  unfold qh;split
  ·rename_i h;exact⟨vK h,trivial⟩
  ·rename_i h;refine⟨?_,trivial⟩;unfold HT.leB;simpa using h
 |y::x::r,h=>by
  obtain⟨h1,h2⟩:=h;have ih:=zu k (x::r) h2;unfold qh;split
  ·rename_i hy;unfold qh at ih ⊢;split at ih
   ·rename_i hx;rw[if_pos hx];exact⟨h1,ih⟩
   ·rename_i hx;rw[if_neg hx];exact⟨vK hy,ih⟩
  ·rename_i hy;refine⟨?_,h1,h2⟩;unfold HT.leB;simpa using hy
theorem vL:∀ l,Ch (pC l)
 |[]=>trivial|k::r=>zu k _ (vL r)
theorem vM(k:Int × Int):∀ l:Za,kL (pr k) (l.map pr)=(qh k l).map pr
 |[]=>rfl
 |y::r=>by
  unfold qh;show(if MySort.aW (ky y) (ky k) then pr y::kL (pr k) (r.map pr) else pr k::pr y::r.map pr)=_;split
  ·rw[vM k r];rfl
  ·rfl
theorem l7:∀ l:Za,a7 (l.map pr)=(pC l).map pr
 |[]=>rfl
 |k::r=>by
  show kL (pr k) (a7 (r.map pr))=_;rw[l7 r,vM];rfl
def Hn(p q:Int × Int):Es (pr p) (pr q)=some (MySort.aW (ky p) (ky q)):=by
 show(if (p.1 == q.1)=true then(if (p.2 == q.2)=true then some false else some (decide (p.2 < q.2))) else some (decide (p.1 < q.1)))=some (if p.1=q.1 then(if p.2=q.2 then false else decide (p.2 < q.2)) else decide (p.1 < q.1));simp only[beq_iff_eq];split
 ·split <;> rfl
 ·rfl
def Gv(p q:Int × Int):cz (pr p) (pr q)=true:=by
 unfold cz;rw[Hn];show(true&&((some (MySort.aW (ky p) (ky q)) == some (MySort.aW (ky p) (ky q)))&&(((p.1 == q.1)&&((p.2 == q.2)&&true)) || !([p.1,p.2] == [q.1,q.2]))))=true;rw[beq_self_eq_true,RK,RK,RL];by_cases h1:p.1=q.1 <;> by_cases h2:p.2=q.2 <;> simp[h1,h2]
def rd(l:Za):cF (l.map pr)=true:=by
 refine Õ.mpr λx hx=>?_;obtain⟨p,_,rfl⟩:=Ç.mp hx;show(true&&(true&&(l.map pr).all (cz (pr p))))=true;refine Õ.mpr λy hy=>?_;obtain⟨q,_,rfl⟩:=Ç.mp hy;exact Gv p q
def rh(h:l.length < 64):pY .sorted [.lst (l.map pr)]=some (.fr ((pC l).map pr)):=by
 show(if (l.map pr).length < 64/\cF (l.map pr)=true then some (S.fr (a7 (l.map pr))) else(Cd (l.map pr)).map S.fr)=_;rw[if_pos ⟨by rw[Ä];exact h,rd l⟩,l7]
theorem vN:∀ {l:Za},Ch l->pA (l.map pr)=true
 |[],_=>rfl|[_],_=>rfl
 |a::b::r,h=>by
  have ih:=vN h.2;show((fi (pr a::pr b::r.map pr) (pr b::r.map pr)).all M7)=true;have e:fi (pr a::pr b::r.map pr) (pr b::r.map pr)=.tup [pr a,pr b]::fi (pr b::r.map pr) (r.map pr):=rfl;rw[e,Rh,Á];exact⟨h.1,ih⟩
def Gw(p:Int × Int):bare (pr p)=true:=rfl
theorem bJ:∀ l:Za,bo (l.map pr)=true
 |[]=>rfl
 |_::r=>by
  show(bare _&&bo (r.map pr))=true;rw[bJ r];rfl
theorem Ho:∀ l:Za,bX (l.map pr)=true/\da (l.map pr)<=1
 |[]=>⟨rfl,-0⟩
 |p::r=>by
  obtain⟨h1,h2⟩:=Ho r;refine⟨?_,?_⟩
  ·show(dY (pr p)&&bX (r.map pr))=true;rw[h1];rfl
  ·show Yq (deep (pr p)) (da (r.map pr))<=1;have:deep (pr p)=1:=rfl;rw[this];exact Nat.max_le.mpr ⟨Ñ _,h2⟩
def zw(l:Za):mW (.lst (l.map pr))=true:=by
 obtain⟨h1,h2⟩:=Ho l;unfold mW;rw[Á,decide_eq_true_eq];refine⟨h1,?_⟩;show da (l.map pr) + 1<=40;omega
def aJ(m:Int)(ps:Za):D:=.tup [.int m,.tup (ps.map pr)]
structure ax(m:Int)(ps:Za):Prop where
 m1:1<=m
 m6:m<=6
 len:ps.length<=8
 tie:∀ p∈ps,0<=p.1/\p.1 < p.2/\p.2 < m
 ch:Ch ps
def ax.DI(g:ax m ps):pB (aJ m ps)=true:=by
 unfold aJ pB Kh mK;simp only[Á,decide_eq_true_eq,Rp,Ä];refine⟨g.m1,g.m6,g.len,λt ht=>?_,vN g.ch⟩;obtain⟨p,hp,rfl⟩:=Ç.mp ht;obtain⟨h1,h2,h3⟩:=g.tie p hp;unfold pr pj aT;simp only[Á,decide_eq_true_eq];omega
def Hq(m:Int)(p:Int × Int):Prop:=0<=p.1/\p.1 < m/\0<=p.2/\p.2 < m/\p.1≠p.2
def Kj(h1:0<=i)(hi:i < 100)(h0:-100 < m)(h:m < 100000):uc .rng2 [.int i,.int m]=some ((Ö (m - i).toNat).map λ(k:Nat)=>D.int (i + k)):=by
 show(if inR i=true/\inR m=true then _ else none)=_;rw[if_pos ⟨jf.mpr ∅,jf.mpr ∅⟩]
def tm{L:List D}{n:Nat}(f:D->Bool)(h:n < L.length)(ha:L.all f=true):∃ x,L[n]?=some x/\f x=true:=
 ⟨L[n],Í h,Õ.mp ha _ (QD h)⟩
def KR(a b:Int):D->Bool
 |.int i=>decide (a<=i)&&decide (i<=b)|_=>false
def xT(h:KR a b x=true):∃ i,x=.int i/\a<=i/\i<=b:=by
 cases x with
 |int i =>
  unfold KR at h;rw[Á,decide_eq_true_eq,decide_eq_true_eq] at h;exact⟨i,rfl,h⟩
 |_=>cases h
def mM(h1:a<=i)(h2:i<=b):KR a b (.int i)=true:=by
 show(decide (a<=i)&&decide (i<=b))=true;rw[decide_eq_true h1,decide_eq_true h2];rfl
def DJ{l:Zi}(nd:l.Nodup){i j:Nat}(hi:i < l.length)(hj:j < l.length)(h:i≠j):l[i]≠l[j]:=λe=>h ((Ys nd).mp e)
def l9(l:List D)(h:0<=n):cutD l none (some n)=l.take n.toNat:=by
 obtain⟨k,rfl⟩:=Rw h;have h1:HT.dD l.length l.length (some (k:Int))=min k l.length:=HT.yh _ _ k;unfold cutD;rw[h1];show(l.drop 0).take (min k l.length - 0)=_;rw[List.drop_zero,Nat.sub_zero,ä];rcases Vs k l.length with h | h
 ·rw[SE h]
 ·rw[Ux h,List.take_length,R9 h]
def nE(h:∀ p∈ps,Hq m p)(hp:Hq m p):∀ q∈ps++[p],Hq m q:=λq hq=>by
 rcases ë.mp hq with hq | hq
 ·exact h q hq
 ·rw[Ú.mp hq];exact hp
def AY{α:Type}{l:List α}{a:α}:(l++[a]).length=l.length + 1:=by rw[Rk];rfl
def DK(a b:Int):(if b < a then b else a)=min a b/\(if b > a then b else a)=max a b:=by
 constructor <;> (split <;> omega)
abbrev xU(mo m:Int)(l:Zi)(wn:Nat)(ps:Za)(o6 o7 o8 o9:Option S):Env:=[some .z,some (.d (.int mo)),some (.d (.int m)),some (.d (.tup (l.map D.int))),some (.d (.int wn)),some (.fr (ps.map pr)),o6,o7,o8,o9]
def tu:xU mo m l wn (ps++[p]) o6 o7 o8 o9=[some .z,some (.d (.int mo)),some (.d (.int m)),some (.d (.tup (l.map D.int))),some (.d (.int wn)),some (.fr (ps.map pr++[pr p])),o6,o7,o8,o9]:=by rw[xU,QT];rfl
theorem rj{P:Int × Int->Prop}:∀ {xs ys:List D},PySem.Paired (λ_ y=>∃ c,y=pr c/\P c) xs ys->∃ cs:Za,ys=cs.map pr/\cs.length=xs.length/\∀ c∈cs,P c
 |[],_,h=>by cases h;exact⟨[],rfl,rfl,λc hc=>nomatch hc⟩
 |x::r,_,h=>by
  cases h with
  |cons h1 h2 =>
   obtain⟨c,rfl,hc⟩:=h1;obtain⟨cs,rfl,hl,ha⟩:=rj h2;refine⟨c::cs,rfl,by rw[Ü,hl];rfl,λd hd=>?_⟩
   rcases ß.mp hd with rfl | hd
   ·exact hc
   ·exact ha d hd
def zzA{p:Int × Int}(h:Hq m p):0<=min p.1 p.2/\min p.1 p.2 < max p.1 p.2/\max p.1 p.2 < m:=by
 obtain⟨a0,a1,b0,b1,hab⟩:=h;omega
def zzB{an:Nat}(a1:1<=an):[D.int (an - 1),.int (an - 1),.int 0,.int ((an:Int) / 2),.int (an - 1),.int 0].all (KR 0 (an - 1))=true:=by
 simp only[Rh,Xk,RL,Á];refine⟨mM ?_ ?_,mM ?_ ?_,mM ?_ ?_,mM ?_ ?_,mM ?_ ?_,mM ?_ ?_⟩ <;> omega
def rk(k:Nat){mo:Int}{z:Z}(hz:ZI z)(h0:0<=mo)(h8:mo<=8):W (aA T (k + 5) km [.z,.d (.int mo)]) z (λs z1=>ZI z1/\∃ m ps,s=.d (aJ m ps)/\ax m ps/\(ps.length:Int)<=mo) NE:=by
 refine vH hz (ps:=2) (ns:=10) (b:=kz) rfl rfl 1e1 ?_
 refine(dA (k + 1) 8 hz 1e1 1e1).imp λs z1 ⟨hz1,n,e,hn⟩=>?_
 subst e;obtain⟨x,ex,hx⟩:=tm (L:=[D.int 5,.int 4,.int 6,.int 3,.int 4,.int 2,.int 6,.int 1]) (n:=n) (KR 1 6) (by simp only[Ü,QO];omega) 1e1
 obtain⟨m,rfl,m1,m6⟩:=xT hx;refine(ae (q0 ex) ?_ :);refine(Gu k hz1 m1 ∅).imp λs z2 ⟨hz2,l,e,ll,lm,nd⟩=>?_
 subst e;refine(dA (k + 1) 6 hz2 1e1 1e1).imp λs z3 ⟨hz3,wn,e,hw⟩=>?_
 subst e;refine(ae (Kj (i:=1) (m:=m) 1e1 1e1 ∅ ∅) ?_ :)
 have hll:1<=l.length:=∅
 refine kX (λxs ρ z=>ZI z/\(∀ x∈xs,∃ a:Nat,x=.int a/\1<=a/\(a:Int) < m)/\∃ (ps:Za) (o6:Option S),ρ=xU mo m l wn ps o6 none none none/\(∀ p∈ps,Hq m p)/\ps.length + xs.length<=6) _ ⟨hz3,λx hx=>?_,[],none,rfl,(λp hp=>nomatch hp),by simp;omega⟩ ?_ ?_
 ·obtain⟨i,hi,rfl⟩:=Ç.mp hx;have:=Î.mp hi;exact⟨1 + i,by rw[Int.natCast_add];rfl,∅,∅⟩
 ·rintro x r ρ z4 ⟨hz4,hx,ps,o6,rfl,hp,hl⟩;obtain⟨an,rfl,a1,a2⟩:=hx x Ë;obtain⟨y,ey,hy⟩:=tm (L:=[D.int (an - 1),.int (an - 1),.int 0,.int ((an:Int) / 2),.int (an - 1),.int 0]) (n:=wn) (KR 0 (an - 1)) (by simp only[Ü,QO];omega) (zzB a1)
  obtain⟨v,rfl,v0,v1⟩:=xT hy;obtain⟨v,rfl⟩:=Rw v0;have ha:an < l.length:=∅
  have hvl:v < l.length:=∅
  refine(ae (mL (jL ha)) ?_ :);refine(ae (q0 ey) ?_ :);refine(ae (mL (jL hvl)) ?_ :);refine ip ⟨rfl,by rw[Ä];simp only[most,Ü] at hl ⊢;omega⟩ ?_
  have h1:=lm _ (QD ha);have h2:=lm _ (QD hvl);exact⟨hz4,λx hx'=>hx x (È _ hx'),ps++[(l[an],l[v])],_,(tu (p:=(l[an],l[v]))).symm,nE hp ⟨h1.1,h1.2,h2.1,h2.2,DJ nd ha hvl ∅⟩,by rw[AY];simp only[Ü] at hl;omega⟩
 ·rintro ρ z4 ⟨hz4,_,ps,o6,rfl,hp,hl⟩;have hl':ps.length<=6:=hl;refine DD (λρ z5=>z5=z4/\∃ ps:Za,ρ=xU mo m l wn ps o6 none none none/\(∀ p∈ps,Hq m p)/\ps.length<=7) ?_ ?_
  ·refine ib (b:=(wn:Int) == 0) (λh1=>ib (b:=decide (2 < m)) (λh2=>?_) λh2=>⟨rfl,ps,rfl,hp,∅⟩) λh1=>⟨rfl,ps,rfl,hp,∅⟩
   rw[decide_eq_true_eq] at h2;have i2:m.toNat - 1 < l.length:=∅
   have e2:m - 1=((m.toNat - 1:Nat):Int):=∅
   refine(ae (mL (j:=0) (jL hll)) ?_ :);refine(ae (o:=je (.tup (l.map D.int)) (.int (m - 1))) (a:=.int l[m.toNat - 1]) (by rw[e2];exact mL (jL i2)) ?_ :)
   refine ip ⟨rfl,by rw[Ä];simp only[most];omega⟩ ?_
   have h3:=lm _ (QD hll);have h4:=lm _ (QD i2);exact⟨rfl,ps++[(l[0],l[m.toNat - 1])],(tu (p:=(l[0],l[m.toNat - 1]))).symm,nE hp ⟨h3.1,h3.2,h4.1,h4.2,DJ nd hll i2 ∅⟩,by rw[AY];omega⟩
  ·rintro ρ z5 ⟨rfl,ps,rfl,hp,hl⟩;refine DD (λρ z6=>z6=z5/\∃ (ps:Za) (o6:Option S),ρ=xU mo m l wn ps o6 none none none/\(∀ p∈ps,Hq m p)/\ps.length<=7) ?_ ?_
   ·refine ib (b:=(wn:Int) == 4) (λh1=>⟨rfl,ps.drop 1,jZ (bM (.fr (cutD (ps.map pr) (some 1) none))) o6,?_,λp hp'=>hp p (Ru hp'),by rw[RV];omega⟩) λh1=>⟨rfl,ps,o6,rfl,hp,hl⟩
    have e:(ps.drop 1).map pr=cutD (ps.map pr) (some 1) none:=by rw[VE];exact(eS _ 1).symm
    exact Eq.symm (congrArg (λx=>[some S.z,some (.d (.int mo)),some (.d (.int m)),some (.d (.tup (l.map D.int))),some (.d (.int wn)),some (.fr x),jZ (bM (.fr (cutD (ps.map pr) (some 1) none))) o6,none,none,none]) e)
   ·rintro ρ z6 ⟨rfl,ps,o6,rfl,hp,hl⟩;refine(dA (k + 1) 5 hz4 1e1 1e1).imp λs z5 ⟨hz5,t,e,ht⟩=>?_
    subst e;refine(ae (gq (m:=t) ∅ ∅) ?_ :)
    refine kX (λxs ρ z=>ZI z/\∃ (ps:Za) (o6 o7 o8 o9:Option S),ρ=xU mo m l wn ps o6 o7 o8 o9/\(∀ p∈ps,Hq m p)/\ps.length + xs.length<=11) _ ⟨hz5,ps,_,_,_,_,rfl,hp,by simp;omega⟩ ?_ ?_
    ·rintro x r ρ z2 ⟨hz2,ps,o6,o7,o8,o9,rfl,hp,hl⟩;refine(dA (k + 1) m hz2 ∅ ∅).imp λs z3 ⟨hz3,a,e,a1⟩=>?_
     subst e;refine(dA (k + 1) m hz3 ∅ ∅).imp λs z4 ⟨hz4,b,e,b1⟩=>?_
     subst e;refine ib (b:=!((a:Int) == (b:Int))) (λhab=>?_) λhab=>⟨hz4,ps,_,_,_,_,rfl,hp,by simp only[Ü] at hl;omega⟩
     refine ip ⟨rfl,by rw[Ä];simp only[most,Ü] at hl ⊢;omega⟩ ?_
     exact⟨hz4,ps++[((a:Int),(b:Int))],_,_,_,_,(tu (p:=((a:Int),(b:Int)))).symm,nE hp ⟨∅,a1,∅,b1,by simpa using hab⟩,by rw[AY];simp only[Ü] at hl;omega⟩
    ·rintro ρ z2 ⟨hz2,ps,o6,o7,o8,o9,rfl,hp,hl⟩;refine DD (λρ z3=>ZI z3/\∃ ps:Za,ρ=xU mo m l wn ps o6 o7 o8 o9/\(∀ p∈ps,Hq m p)/\ps.length<=12) ?_ ?_
     ·have hl:ps.length<=11:=hl;refine(ae (ne_nil (zw ps)) ?_ :);cases ps with
      |nil=>exact⟨hz2,[],rfl,hp,by simp⟩
      |cons p r =>
       refine(dA (k + 1) 3 hz2 1e1 1e1).imp λs z3 ⟨hz3,a,e,a1⟩=>?_
       subst e;refine ib (b:=(a:Int) == 0) (λha=>?_) λha=>⟨hz3,p::r,rfl,hp,∅⟩
       have hll:(((p::r).map pr).length:Int)=((p::r).length:Nat):=by rw[Ä]
       refine(dA (k + 1) (((p::r).map pr).length:Int) hz3 (by rw[hll];simp only[Ü];omega) (by rw[hll];omega)).imp λs z4 ⟨hz4,j,e,b1⟩=>?_
       subst e;have hj:j < (p::r).length:=by rw[hll] at b1;omega
       refine(ae (q0 (l:=(p::r).map pr) (x:=pr (p::r)[j]) (by rw[Ø,Í hj];rfl)) ?_ :)
       refine ip ⟨rfl,by rw[Ä];simp only[most];omega⟩ ?_
       exact⟨hz4,(p::r)++[(p::r)[j]],(tu (p:=(p::r)[j])).symm,nE hp (hp _ (QD hj)),by rw[AY];omega⟩
     ·rintro ρ z3 ⟨hz3,ps,rfl,hp,hl⟩;have e1:cutD (ps.map pr) none (some mo)=(ps.take mo.toNat).map pr:=by rw[l9 _ h0,VC]
      have mm:(cutD (ps.map pr) none (some mo)).map (λx=>match x with | .tup [.int a,.int b]=>pr (min a b,max a b) | x=>x)=((ps.take mo.toNat).map λp=>(min p.1 p.2,max p.1 p.2)).map pr:=by
       rw[e1,Ó,Ó];rfl
      refine ip (c:=(cutD (ps.map pr) none (some mo)).length<=most) (by rw[e1,Ä,QP];simp only[most];omega) (fI (λx=>match x with | .tup [.int a,.int b]=>pr (min a b,max a b) | x=>x) (λd hd=>?_) ?_)
      ·rw[e1] at hd;obtain⟨p,hp',rfl⟩:=Ç.mp hd;exact⟨by show D.tup [.int _,.int _]=pr (min p.1 p.2,max p.1 p.2);rw[(DK p.1 p.2).1,(DK p.1 p.2).2];rfl,rfl⟩
      ·rw[mm];refine(ae (rh (l:=(ps.take mo.toNat).map λp=>(min p.1 p.2,max p.1 p.2)) (by rw[Ä,QP];omega)) ?_ :)
       have hperm:=pD ((ps.take mo.toNat).map λp=>(min p.1 p.2,max p.1 p.2));have hlen:=hperm.length_eq;rw[Ä,QP] at hlen;refine⟨hz3,m,_,rfl,⟨m1,m6,∅,λq hq=>?_,vL _⟩,∅⟩
       obtain⟨p,hp',rfl⟩:=Ç.mp (hperm.mem_iff.mp hq);exact zzA (hp p (R1 hp'))
def zx(hj:0 < j)(hb:big j):dZ .fdiv (.int i) (.int j)=some (.d (.int (i / j))):=by
 show(if 0 < j/\j.natAbs < gR then some (S.d (.int (i / j))) else none)=_;rw[if_pos ⟨hj,s9 ∅ hb⟩]
def zy(i0:0<=i)(hi:big i)(j0:0<=j)(hj:big j):dZ .mul (.int i) (.int j)=some (.d (.int (i * j))):=by
 show(if i.natAbs < gR/\j.natAbs < gR then some (S.d (.int (i * j))) else none)=_;rw[if_pos ⟨s9 i0 hi,s9 j0 hj⟩]
def eO(h:0 < b):0 < ((gcd t b:Nat):Int):=by
 have:=Int.gcd_pos_of_ne_zero_right (a:=t) (b:=b) ∅
 omega
def nF(h:0 < b)(hb:big b):big (gcd t b:Int):=Vc (Int.le_of_dvd h (Yu t b)) hb
def aI(t b:Int):Int × Int:=(t / gcd t b,b / gcd t b)
def rq(k:Nat)(t b:Int)(z:Z)(h0:0 < b)(h1:big b):aA T (k + 4) oR [.d (.int t),.d (.int b)] z=some (.ok (.d (pr (aI t b))) z):=by
 refine W.ok (bI (ps:=2) (ns:=3) (b:=oY) rfl rfl 1e1 (Wo (gp k t b z h0 h1) ?_))
 refine(ae (zx (i:=t) (eO (t:=t) h0) (nF h0 h1)) ?_ :);refine(ae (zx (i:=b) (eO (t:=t) h0) (nF h0 h1)) ?_ :);exact sd rfl
def pE(k:Nat)(t b:Int)(z:Z)(h0:0 < b)(h1:big b):aA T (k + 3) fN [.d (.int t),.d (.int b)] z=some (.ok (.d (pr (aI t b))) z):=by
 refine W.ok (bI (ps:=2) (ns:=4) (b:=fU) rfl rfl 1e1 (DF (λn ρ z1=>z1=z/\∃ c d:Int,ρ=[some (.d (.int t)),some (.d (.int b)),some (.d (.int c)),some (.d (.int d))]/\GT n c d/\gcd c d=gcd t b/\(d=0->0<=c)) (2 * 4000 + 1) ⟨rfl,_,b,rfl,⟨QI h0,.inl ⟨4000,rfl,h1⟩⟩,?_,λh=>by omega⟩ 1e1 ?_))
 ·show gcd (if t < 0 then -t else t) b=_;split
  ·rw[Int.neg_gcd]
  ·rfl
 ·rintro n ρ z1 ⟨rfl,c,d,rfl,g,hg,hc⟩;refine ib (b:=!(d == 0)) (λhd=>?_) λhd=>?_
  ·rw[î,beq_eq_false_iff_ne] at hd;have hd':0 < d:=by have:=g.1;omega
   obtain⟨m,hm,g'⟩:=g.step hd';refine(ae (zq (i:=c) hd') ?_ :);exact⟨m,hm,rfl,d,c % d,rfl,g',(zr c d).trans hg,λ_=>Int.le_of_lt hd'⟩
  ·rw[T9,beq_iff_eq] at hd;subst hd;rw[Yj] at hg;have e:c=((gcd t b:Nat):Int):=by have:=hc rfl;omega
   subst e;refine(ae (zx (i:=t) (eO (t:=t) h0) (nF h0 h1)) ?_ :);refine(ae (zx (i:=b) (eO (t:=t) h0) (nF h0 h1)) ?_ :);exact sd rfl
structure Bd(n:Nat)(c:Int × Int):Prop where
 t0:0<=c.1
 tb:c.1<=c.2
 b0:0 < c.2
 bb:c.2<=2 ^ n
def lp(h:n<=3999)(hi:i<=2 ^ n):big i:=by
 refine Vc hi ?_;have h2:(2:Nat) ^ n < 2 ^ 4000:=XB 1e1 ∅
 have e:((2 ^ n:Nat):Int) < ((2 ^ 4000:Nat):Int):=Ut.mpr h2
 rwa [TN,TN] at e
def Bd.t(h:Bd n c)(hn:n<=3999):big c.1:=lp hn (Q6 h.tb h.bb)
def Bd.b(h:Bd n c)(hn:n<=3999):big c.2:=lp hn h.bb
def Bd.mul(hc:Bd n c)(hd:Bd m d):Bd (n + m) (c.1 * d.1,c.2 * d.2):=⟨Vi hc.t0 hd.t0,Uw hc.tb hd.tb hd.t0 (QI hc.b0),SK hc.b0 hd.b0,by
 rw[Xi];exact Uw hc.bb hd.bb (QI hd.b0) (Q6 (QI hc.b0) hc.bb)⟩
def vO(k:Nat)(hc:Bd n c)(hd:Bd m d)(hn:n + m<=3999)(z:Z):aA T (k + 5) sU [.d (pr c),.d (pr d)] z=some (.ok (.d (pr (aI (c.1 * d.1) (c.2 * d.2)))) z):=by
 have hm:=hc.mul hd;refine W.ok (bI (ps:=2) (ns:=2) (b:=sW) rfl rfl 1e1 ?_)
 refine(ae (zy hc.t0 (hc.t ∅) hd.t0 (hd.t ∅)) ?_ :)
 refine(ae (zy (QI hc.b0) (hc.b ∅) (QI hd.b0) (hd.b ∅)) ?_ :)
 exact Wo (rq k _ _ z hm.b0 (hm.b ∅)) (sd rfl)
def tw(k:Nat)(c:Int × Int)(z:Z):aA T (k + 3) sV [.d (pr c)] z=some (.ok (.d (pr (c.2 - c.1,c.2))) z):=
 W.ok (bI (ps:=1) (ns:=1) (b:=xP) rfl rfl 1e1 (sd rfl))
def jM(h0:0 < b):t=gcd t b * (aI t b).1/\b=gcd t b * (aI t b).2:=by
 constructor
 ·exact(XD (YJ t b)).symm
 ·exact(XD (Yu t b)).symm
def zz(h0:0 < b):gcd (aI t b).1 (aI t b).2=1:=Int.gcd_ediv_gcd_ediv_gcd_of_ne_zero_right ∅
def jN(h0:0 < b):0 < (aI t b).2:=by
 have g0:=eO (t:=t) h0;obtain⟨_,e⟩:=jM (t:=t) h0;refine Int.pos_of_mul_pos_right (a:=gcd t b) ?_ g0;omega
def Gx(h0:0 < b)(h1:0<=t)(h2:t<=b):0<=(aI t b).1/\(aI t b).1<=(aI t b).2/\(aI t b).2<=b:=by
 have g0:=eO (t:=t) h0;have p0:=jN (t:=t) h0;obtain⟨e1,e2⟩:=jM (t:=t) h0;refine⟨V8 h1 (QI g0),Int.le_of_mul_le_mul_left (a:=gcd t b) ∅ g0,?_⟩
 have:1 * (aI t b).2<=(gcd t b:Int) * (aI t b).2:=Int.mul_le_mul_of_nonneg_right ∅ ∅
 omega
def Kk(h:gcd a b=1)(hd:b∣a * d):b∣d:=by
 have h1:Nat.Coprime b.natAbs a.natAbs:=by rw[Nat.coprime_comm];exact h
 exact Xq.mp (h1.dvd_of_dvd_mul_left (by rw[← Int.natAbs_mul];exact Xq.mpr hd))
def c8(c:Int × Int):Prop:=1<=c.2/\c.2<=1000/\0<=c.1/\c.1<=c.2/\gcd c.1 c.2=1
def c8.ch(h:c8 c):zt (pr c)=true:=by
 obtain⟨h1,h2,h3,h4,h5⟩:=h;show Gr c.1 c.2=true;unfold Gr;rw[h5,decide_eq_true h1,decide_eq_true h2,decide_eq_true h3,decide_eq_true h4];rfl
def Gy(h0:0 < b)(hb:b<=1000)(h1:0<=t)(h2:t<=b):c8 (aI t b):=by
 obtain⟨y0,yx,xb⟩:=Gx h0 h1 h2;have:=jN (t:=t) h0;exact⟨∅,∅,y0,yx,zz h0⟩
def tx(k:Nat)(hz:ZI z):W (aA T (k + 4) ke [.z]) z (λs z1=>ZI z1/\∃ c,s=.d (pr c)/\c8 c) NE:=by
 refine vH hz (ps:=1) (ns:=3) (b:=gI) rfl rfl 1e1 ?_
 refine(dA k 8 hz 1e1 1e1).imp λs z1 ⟨hz1,v,e,v1⟩=>?_
 subst e;refine ib (b:=decide ((v:Int) < 2)) (λh2=>?_) λh2=>?_
 ·rw[decide_eq_true_eq] at h2;have:v=0\/v=1:=∅
  rcases this with rfl | rfl
  ·exact⟨hz1,(0,1),rfl,-0,-0,-0,-0,-0⟩
  ·exact⟨hz1,(1,1),rfl,-0,-0,-0,-0,-0⟩
 ·rw[decide_eq_false_iff_not] at h2;refine(dA k 12 hz1 1e1 1e1).imp λs z2 ⟨hz2,a,e,a1⟩=>?_
  subst e;refine(dA k 1000 hz2 1e1 1e1).imp λs z3 ⟨hz3,b,e,b1⟩=>?_
  subst e;obtain⟨x,ex,hx⟩:=tm (L:=[D.int 2,.int 3,.int 4,.int (1 + a),.int (1 + b),.int 1000]) (n:=v - 2) (KR 1 1000) (by simp only[Ü,QO];omega) (by
   simp only[Rh,Xk,RL,Á];refine⟨rfl,rfl,rfl,mM ?_ ?_,mM ?_ ?_,rfl⟩ <;> omega)
  obtain⟨u,rfl,u1,u2⟩:=xT hx;have e2:(v:Int) - 2=((v - 2:Nat):Int):=∅
  refine(ae (o:=je (.lst [D.int 2,.int 3,.int 4,.int (1 + a),.int (1 + b),.int 1000]) (.int ((v:Int) - 2))) (a:=.int u) (by rw[e2];exact q0 ex) ?_ :)
  refine(dA k (u + 1) hz3 ∅ ∅).imp λs z4 ⟨hz4,t,e,t1⟩=>?_
  subst e;exact Wo (pE k _ _ _ ∅ (jK ∅)) ⟨hz4,aI t u,rfl,Gy ∅ u2 ∅ ∅⟩
def gJ(k:Nat){m:Int}{ts:List D}{z:Z}(hz:ZI z)(hl:ts.length<=8):W (aA T (k + 5) dI [.z,.d (.tup [.int m,.tup ts])]) z (λs z1=>ZI z1/\∃ cs:Za,s=.d (.tup (cs.map pr))/\cs.length=ts.length/\∀ c∈cs,c8 c) NE:=by
 refine vH hz (ps:=2) (ns:=2) (b:=fV) rfl rfl 1e1 (ip (bO ∅) (PB (I:=ZI) (P:=λ_ y=>∃ c,y=pr c/\c8 c) hz (λx hx z1 hz1=>?_) λys z1 hz1 hp=>?_))
 ·refine(tx k hz1).imp λs z2 ⟨hz2,c,e,hc⟩=>?_;subst e;exact⟨hz2,c,rfl,hc⟩
 ·obtain⟨cs,rfl,hl,ha⟩:=rj hp;exact⟨hz1,cs,rfl,hl,ha⟩
def tE{cs:Za}{n:Nat}(h:cs.length=n)(ha:∀ c∈cs,c8 c):AV n (.tup (cs.map pr))=true:=by
 unfold AV;rw[Á,beq_iff_eq,Ä,Rp];refine⟨h,λd hd=>?_⟩;obtain⟨c,hc,rfl⟩:=Ç.mp hd;exact(ha c hc).ch
def NO:D->Bool
 |.tup [.int a,.int b]=>decide (a < b)|_=>false
def pF(l:List D):Bool:=(fi l (l.drop 1)).all NO
def M9(m:Int):D->Bool
 |.tup l=>(l.all (λx=>aT x m)&&pF l)&&!l.isEmpty|_=>false
def short:D->Bool
 |.tup l=>decide (l.length<=1000)|_=>true
def DL(k:Nat)(h:∀ x∈l,aT x m=true)(hl:l.length<=1000)(z:Z):aA T (k + 3) zo [.d (.tup l)] z=some (.ok (.d (.bl (pF l))) z):=by
 have e1:cutD l (some 1) none=l.drop 1:=eS l 1;refine W.ok (bI (ps:=1) (ns:=1) (b:=sX) rfl rfl 1e1 (ip (c:=(fi l (cutD l (some 1) none)).length<=most) (ê (pz _ _) (bO hl)) (fI (λx=>.bl (NO x)) (λx hx=>?_) (ae (l5 _ NO) ?_ :))))
 ·obtain⟨u,hu,v,hv,rfl⟩:=sZ hx;rw[e1] at hv;obtain⟨i,rfl,_⟩:=fo (h u hu);obtain⟨j,rfl,_⟩:=fo (h v (Ru hv));exact⟨rfl,rfl⟩
 ·exact sb (b:=(fi l (cutD l (some 1) none)).all NO) (by rw[e1];rfl)
def tF(k:Nat)(m:Int)(hs:short x=true)(z:Z):aA T (k + 5) gf [.d x,.d (.int m)] z=some (.ok (.d (.bl (match x with | .tup l=>l.all (λx=>aT x m)&&pF l | _=>false))) z):=by
 refine W.ok (bI (ps:=2) (ns:=2) (b:=dJ) rfl rfl 1e1 ?_)
 cases x with
 |tup l =>
  have hl:l.length<=1000:=of_decide_eq_true hs;refine ip (bO hl) (fI (λx=>.bl (aT x m)) (λx _=>Wo (eR k x m z) ⟨rfl,rfl⟩) (ae (l5 l λx=>aT x m) ?_ :));refine ib (b:=l.all λx=>aT x m) (λh=>?_) λh=>sb (show false=(l.all (λx=>aT x m)&&pF l) by rw[h];rfl)
  exact Wo (DL (k + 1) (Õ.mp h) hl z) (sb (show pF l=(l.all (λx=>aT x m)&&pF l) by rw[h];rfl))
 |_=>exact sb rfl
def iV(k:Nat)(z:Z)(h:M9 m x=true)(hs:short x=true):aA T (k + 6) fK [.d (.tup [.int m,t]),.d x] z=some (.ok (.d .bp) z):=by
 refine W.ok (bI (ps:=2) (ns:=2) (b:=fO) rfl rfl 1e1 (Wo (tF k m hs z) ?_))
 cases x with
 |tup l =>
  have h:((l.all (λx=>aT x m)&&pF l)&&!l.isEmpty)=true:=h;rw[Á] at h;refine ie (b:=!(l.all (λx=>aT x m)&&pF l)) (by rw[h.1];rfl) ?_
  cases l with
  |nil=>cases h.2
  |cons y r=>exact sd rfl
 |_=>cases h
def aj(n:Nat):D:=.int n
structure bU(m:Int)(l:List Nat):Prop where
 ne:l≠[]
 up:l.Pairwise (· < ·)
 lt:∀ p∈l,(p:Int) < m
theorem DM:∀ {l:Zh},l.Pairwise (· < ·)->pF (l.map aj)=true
 |[],_=>rfl|[_],_=>rfl
 |a::b::r,h=>by
  have ih:=DM (List.Pairwise.of_cons h);show(decide ((a:Int) < (b:Int))&&pF ((b::r).map aj))=true;rw[ih,decide_eq_true (by have:=(Th.mp h).1 b Ë;omega)];rfl
def bU.P4(g:bU m l):M9 m (.tup (l.map aj))=true:=by
 show(((l.map aj).all (λx=>aT x m)&&pF (l.map aj))&&!(l.map aj).isEmpty)=true;rw[DM g.up,RL,Á];refine⟨Õ.mpr λx hx=>?_,?_⟩
 ·obtain⟨p,hp,rfl⟩:=Ç.mp hx;have:=g.lt p hp;show(decide (0<=(p:Int))&&decide ((p:Int) < m))=true;rw[decide_eq_true this,decide_eq_true ∅];rfl
 ·cases l with
  |nil=>exact absurd rfl g.ne|cons _ _=>rfl
def bU.len(g:bU m l)(h6:m<=6):l.length<=6:=by
 have:l.Sublist (Ö 6):=by
  have e:l=(Ö 6).filter λx=>l.contains x:=by
   refine Td (le:=(· < ·)) ?_ g.up (RS _ RH) ?_
   ·intro a b _ _ h1 h2;omega
   ·refine(RB (g.up.imp λh e=>by omega) (RS _ S0)).mpr λa=>?_
    rw[Uy,UW,Qu];exact⟨λh=>⟨by have:=g.lt a h;omega,h⟩,λh=>h.2⟩
  rw[e];exact US
 simpa using this.length_le
def DN:∀ {ys:List D}{l:Zh},ys.Sublist (l.map aj)->∃ l':Zh,ys=l'.map aj/\l'.Sublist l:=λ{ys l} h=>by
 obtain⟨l',h1,h2⟩:=List.sublist_map_iff.mp h;exact⟨l',h2,h1⟩
section
variable (ps:Za)
abbrev tA(n:Nat):Nat:=(ps.getD n (0,0)).1.toNat
abbrev tB(n:Nat):Nat:=(ps.getD n (0,0)).2.toNat
def fW(mk:Zi)(n:Nat):Zi:=mk.map λx=>if x=mk.getD (tB ps n) 0 then mk.getD (tA ps n) 0 else x
def jy(m:Nat)(aS:Zh):Zi:=aS.foldl (fW ps) ((Ö m).map λ(i:Nat)=>(i:Int))
def Hr(mk:Zi)(pl:Zh):Bool:=pl.all λp=>mk.getD p 0 == mk.getD (pl.getD 0 0) 0
def ay(m:Nat)(pl aS:Zh):Bool:=Hr (jy ps m aS) pl
variable {ps}
def pG(mk:Zi)(n:Nat):(fW ps mk n).length=mk.length:=Ä _
def step_get(h:x < mk.length):(fW ps mk n).getD x 0=if mk.getD x 0=mk.getD (tB ps n) 0 then mk.getD (tA ps n) 0 else mk.getD x 0:=by
 unfold fW;rw[Æ,Ø,Í h];simp[Æ,Í h]
def AZ:(jy ps m aS).length=m:=by
 unfold jy;have:∀ (l:Zh) (mk:Zi),(l.foldl (fW ps) mk).length=mk.length:=by
  intro l
  induction l with
  |nil=>intro mk;rfl|cons n r ih=>intro mk;rw[List.foldl_cons,ih,pG]
 rw[this];simp
theorem xV(hr:∀ n < ps.length,tA ps n < m/\tB ps n < m):∀ (aS:Zh) (mk:Zi),mk.length=m->(∀ n∈aS,n < ps.length) ->
 (∀ x y,x < m->y < m->mk.getD x 0=mk.getD y 0->(aS.foldl (fW ps) mk).getD x 0=(aS.foldl (fW ps) mk).getD y 0)/\(∀ n∈aS,(aS.foldl (fW ps) mk).getD (tA ps n) 0=(aS.foldl (fW ps) mk).getD (tB ps n) 0) /\
 ∀ f:Nat->Int,(∀ x y,x < m->y < m->mk.getD x 0=mk.getD y 0->f x=f y)->(∀ n∈aS,f (tA ps n)=f (tB ps n))->∀ x y,x < m->y < m->(aS.foldl (fW ps) mk).getD x 0=(aS.foldl (fW ps) mk).getD y 0->f x=f y:=by
 intro aS
 induction aS with
 |nil=>exact λmk _ _=>⟨λ_ _ _ _ h=>h,(λ_ h=>nomatch h),λf h _=>h⟩
 |cons n r ih =>
  intro mk hl hn;obtain⟨ha,hb⟩:=hr n (hn n Ë);obtain⟨i1,i2,i3⟩:=ih (fW ps mk n) (by rw[pG];exact hl) λk hk=>hn k (È _ hk)
  have st:∀ x,x < m->(fW ps mk n).getD x 0=if mk.getD x 0=mk.getD (tB ps n) 0 then mk.getD (tA ps n) 0 else mk.getD x 0:=λx hx=>step_get ∅
  refine⟨λx y hx hy h=>i1 x y hx hy (by rw[st x hx,st y hy,h]),λk hk=>?_,λf h1 h2=>?_⟩
  ·rcases ß.mp hk with rfl | hk
   ·refine i1 _ _ ha hb ?_;rw[st _ ha,st _ hb,if_pos rfl];split <;> rfl
   ·exact i2 k hk
  ·refine i3 f (λx y hx hy h=>?_) λk hk=>h2 k (È _ hk);have e:=h2 n Ë;rw[st x hx,st y hy] at h;split at h
   ·rename_i hxb;have fx:=h1 _ _ hx hb hxb;split at h
    ·rename_i hyb;rw[fx,h1 _ _ hy hb hyb]
    ·rw[fx,← e];exact h1 _ _ ha hy h
   ·split at h
    ·rename_i hyb;rw[h1 _ _ hy hb hyb,← e];exact h1 _ _ hx ha h
    ·exact h1 _ _ hx hy h
def rz(h:x < m):(((Ö m).map λ(i:Nat)=>(i:Int))).getD x 0=(x:Int):=by
 rw[Æ,Ø,Sh h];rfl
def fX{m:Nat}(hr:∀ n < ps.length,tA ps n < m/\tB ps n < m){pl aS:Zh}(hp:∀ p∈pl,p < m)(hl:∀ n∈aS,n < ps.length):ay ps m pl aS=true↔∀ f:Nat->Int,(∀ n∈aS,f (tA ps n)=f (tB ps n))->∀ p∈pl,f p=f (pl.getD 0 0):=by
 obtain⟨_,h2,h3⟩:=xV hr aS ((Ö m).map λ(i:Nat)=>(i:Int)) (by simp) hl
 unfold ay Hr;rw[Rp];have h0:∀ p∈pl,pl.getD 0 0 < m:=λp hp'=>by
  cases pl with
  |nil=>cases hp'
  |cons q r=>exact hp q Ë
 constructor
 ·intro h f hf p hp';refine h3 f (λx y hx hy e=>?_) hf p _ (hp p hp') (h0 p hp') (beq_iff_eq.mp (h p hp'));rw[rz hx,rz hy] at e;rw[Int.ofNat_inj.mp e]
 ·intro h p hp';rw[beq_iff_eq];exact h (λx=>(jy ps m aS).getD x 0) h2 p hp'
def good_mono{m:Nat}(hr:∀ n < ps.length,tA ps n < m/\tB ps n < m){pl a b:Zh}(hp:∀ p∈pl,p < m)(hb:∀ n∈b,n < ps.length)(hab:∀ n∈a,n∈b)(h:ay ps m pl a=true):ay ps m pl b=true:=
 (fX hr hp hb).mpr λf hf=>(fX hr hp λn hn=>hb n (hab n hn)).mp h f λn hn=>hf n (hab n hn)
end
section
variable (g:Zh->Bool) (c:Nat->Int × Int)
def aU:Zh->Zh->Int
 |[],h=>if g h then 1 else 0|n::r,h=>(c n).1 * aU r (n::h) + ((c n).2 - (c n).1) * aU r h
def cH(ns:Zh):Int:=(ns.map λn=>(c n).2).foldr (· * ·) 1
variable {g c}
def a9(n:Nat)(r:Zh):cH c (n::r)=(c n).2 * cH c r:=rfl
def eH(h:a.Perm b):cH c a=cH c b:=by
 induction h with
 |nil=>rfl|cons x _ ih=>rw[a9,a9,ih]|swap x y l=>rw[a9,a9,a9,a9,← VO,← VO,Tt (c y).2]|trans _ _ h1 h2=>rw[h1,h2]
def tG(N:Nat)(g:Zh->Bool):Prop:=∀ a b:Zh,(∀ n∈a,n < N)->(∀ n∈b,n < N)->(∀ n,n∈a↔n∈b)->g a=g b
theorem gY(hg:tG N g):∀ (ns a b:Zh),(∀ n∈ns,n < N)->(∀ n∈a,n < N)->(∀ n∈b,n < N)->(∀ n,n∈a↔n∈b)->aU g c ns a=aU g c ns b
 |[],a,b,_,ha,hb,h=>by unfold aU;rw[hg a b ha hb h]
 |n::r,a,b,hn,ha,hb,h=>by
  have hr:∀ k∈r,k < N:=λk hk=>hn k (È _ hk);have hc:∀ {l:Zh},(∀ n∈l,n < N)->∀ k∈n::l,k < N:=λhl k hk=>by
   rcases ß.mp hk with rfl | hk
   ·exact hn _ Ë
   ·exact hl k hk
  unfold aU;rw[gY hg r a b hr ha hb h,gY hg r (n::a) (n::b) hr (hc ha) (hc hb) λk=>by rw[ü,ü,h k]]
theorem dP(hg:tG N g)(h:a.Perm b):∀ held:Zh,(∀ n∈a,n < N)->(∀ n∈held,n < N)->aU g c a held=aU g c b held:=by
 induction h with
 |nil=>exact λ_ _ _=>rfl
 |cons x h ih =>
  intro held ha hh;have hr:=λk hk=>ha k (È _ hk);unfold aU;rw[ih held hr hh,ih (x::held) hr λk hk=>by
   rcases ß.mp hk with rfl | hk
   ·exact ha _ Ë
   ·exact hh k hk]
 |swap x y l =>
  intro held ha hh;have hl:∀ k∈l,k < N:=λk hk=>ha k (È _ (È _ hk));have hx:=ha x (È _ Ë);have hy:=ha y Ë;have hxy:∀ k∈[x,y]++held,k < N:=λk hk=>by
   simp only[T3,RN,ü] at hk;rcases hk with rfl | rfl | hk
   ·exact hx
   ·exact hy
   ·exact hh k hk
  have e:=gY (c:=c) hg l (x::y::held) (y::x::held) hl hxy (λk hk=>hxy k (by simp only[T3,RN,ü] at hk ⊢;rcases hk with h | h | h <;> simp[h])) λk=>by simp only[ü];constructor <;> (rintro (h | h | h) <;> simp[h])
  simp only[aU];rw[e];generalize aU g c l (y::x::held)=t1;generalize aU g c l (y::held)=t2;generalize aU g c l (x::held)=t3;generalize aU g c l held=t4;generalize (c x).1=p;generalize (c x).2=q;generalize (c y).1=u;generalize (c y).2=v
  grind
 |trans h1 h2 i1 i2=>exact λheld ha hh=>(i1 held ha hh).trans (i2 held (λk hk=>ha k (h1.mem_iff.mpr hk)) hh)
def dh:Nat->List Zh
 |0=>[[]]|j + 1=>dh j++(dh j).map (·++[j])
def vP(c:Nat->Int × Int)(j:Nat)(aS:Zh):Int:=(Ö j).foldl (λa n=>a * (if n∈aS then(c n).1 else(c n).2 - (c n).1)) 1
def gZ:vP c (j + 1) aS=vP c j aS * (if j∈aS then(c j).1 else(c j).2 - (c j).1):=by
 unfold vP;rw[YG,List.foldl_append];rfl
def Gz(h:j<=k):vP c j (aS++[k])=vP c j aS:=by
 induction j with
 |zero=>rfl
 |succ j ih =>
  rw[gZ,gZ,ih ∅]
  have:j∈aS++[k]↔j∈aS:=by rw[Uz,Ú];constructor <;> (intro h;first | (rcases h with h | h;exact h;omega) | exact .inl h)
  simp only[this]
theorem lq:∀ {j:Nat}{aS:Zh},aS∈dh j->∀ n∈aS,n < j
 |0,aS,h,n,hn=>by rw[Ú.mp h] at hn;cases hn
 |j + 1,aS,h,n,hn=>by
  rcases ë.mp h with h | h
  ·exact Ry (lq h n hn)
  ·obtain⟨l,hl,rfl⟩:=Ç.mp h;rcases ë.mp hn with hn | hn
   ·exact Ry (lq hl n hn)
   ·rw[Ú.mp hn];exact Sg j
def desc:Nat->Zh
 |0=>[]|j + 1=>j::desc j
def f6(l:List Zh)(f:Zh->Int):Int:=(l.map f).foldr (· + ·) 0
def DO:f6 (a++b) f=f6 a f + f6 b f:=by
 unfold f6;rw[QT]
 induction a with
 |nil=>simp|cons x r ih=>simp only[QS,T3,YH,ih,Int.add_assoc]
theorem vQ(e:∀ x∈a,h x=k * f x):f6 a h=k * f6 a f:=by
 unfold f6
 induction a with
 |nil=>simp|cons x r ih=>simp only[QS,YH,ih λy hy=>e y (È _ hy),e x Ë,Int.mul_add]
def DP:f6 (a.map t) f=f6 a λx=>f (t x):=by
 unfold f6;rw[Ó];rfl
theorem pH(hg:tG N g):∀ (j:Nat) (held:Zh),j<=N->(∀ n∈held,n < N)->f6 (dh j) (λaS=>if g (aS++held) then vP c j aS else 0)=aU g c (desc j) held
 |0,held,_,_=>by
  show(if g ([]++held) then vP c 0 [] else 0) + 0=_;rw[Int.add_zero];rfl
 |j + 1,held,hj,hh=>by
  have hc:∀ k∈j::held,k < N:=λk hk=>by
   rcases ß.mp hk with rfl | hk
   ·omega
   ·exact hh k hk
  show f6 (dh j++(dh j).map (·++[j])) _=(c j).1 * aU g c (desc j) (j::held) + ((c j).2 - (c j).1) * aU g c (desc j) held;rw[DO,DP,← pH hg j held ∅ hh,← pH hg j (j::held) ∅ hc,Int.add_comm]
  congr 1
  ·refine vQ λaS hl=>?_;have lt:=lq hl;have e:g (aS++[j]++held)=g (aS++j::held):=by rw[SM];rfl
   rw[e];split
   ·rw[gZ,Gz (Ñ j),if_pos (by simp),Tt]
   ·rw[mul_zero]
  ·refine vQ λaS hl=>?_;have lt:=lq hl;split
   ·rw[gZ,if_neg (λh=>Qt _ (lt j h)),Tt]
   ·rw[mul_zero]
theorem rA:∀ n:Nat,(desc n).Perm (Ö n)
 |0=>.refl _
 |n + 1=>by
  rw[YG];exact((rA n).cons n).trans (Wf n (Ö n)).symm
end
def PD{it:It}{e:Ex}{l:List S}{ρ:Env}(h:mC l=true):uR it e l ρ=oj it e l ρ:=by unfold uR;rw[h,oh];rfl
theorem cI:∀ l:Zh,bo (l.map aj)=true
 |[]=>rfl|_::r=>cI r
structure Row(x:D)(aS:List Nat):Prop where
 sq:kh x=some (aS.map aj)
 br:Cg x=true
def Row.t(aS:Zh):Row (.tup (aS.map aj)) aS:=⟨rfl,cI aS⟩
def Row.ba(h:Row x aS):mC [.d x]=true:=by
 show(Cg x&&true)=true;rw[h.br];rfl
def xW{mk:Zi}{a:Int}(h0:0<=a)(h:a.toNat < mk.length):je (.lst (mk.map D.int)) (.int a)=some (.int (mk.getD a.toNat 0)):=by
 obtain⟨n,rfl⟩:=Rw h0;rw[ä] at h ⊢;rw[Æ,Í h];exact q0 (jL h)
def xX{ps:Za}{n:Nat}(h:n < ps.length):je (.tup (ps.map pr)) (.int n)=some (pr (ps.getD n (0,0))):=by
 rw[Æ,Í h];exact mL (by rw[Ø,Í h];rfl)
def getD_mem{ps:Za}{n:Nat}(h:n < ps.length):ps.getD n (0,0)∈ps:=by
 rw[Æ,Í h];exact QD h
def ax.pI{m:Int}{ps:Za}(g:ax m ps):∀ n < ps.length,tA ps n < m.toNat/\tB ps n < m.toNat:=λn hn=>by
 have:=g.tie _ (getD_mem hn);unfold tA tB;omega
def Na(a b:Int):D->D
 |.int v=>.int (if v=b then a else v)|x=>x
def GA{F:FT}{z:Z}{mk:Zi}(a b:Int){Q:List D->Z->Prop}{E:Nat->Z->Prop}(q:Q ((mk.map λx=>if x=b then a else x).map D.int) z):W (turns (eX (ev F .nil) (ev F (.ite (.cmp .eq (.var 0) (.var 2)) (.var 1) (.var 0))) (.v 0) [none,some (.d (.int a)),some (.d (.int b))]) (mk.map D.int)) z Q E:=by
 refine fI (Na a b) (λx hx=>?_) ?_
 ·obtain⟨v,_,rfl⟩:=Ç.mp hx;refine ib (b:=v == b) (λh=>⟨?_,rfl⟩) λh=>⟨?_,rfl⟩
  ·show D.int a=.int (if v=b then a else v);rw[if_pos (beq_iff_eq.mp h)]
  ·show D.int v=.int (if v=b then a else v);rw[if_neg (by simpa using h)]
 ·have e:(mk.map D.int).map (Na a b)=(mk.map λx=>if x=b then a else x).map D.int:=by rw[Ó,Ó];rfl
  rw[e];exact q
def vR(k:Nat){m:Int}{ps:Za}(g:ax m ps){x:D}{aS:Zh}(hx:Row x aS)(hl:∀ n∈aS,n < ps.length)(z:Z):aA T (k + 3) oV [.d (aJ m ps),.d x] z=some (.ok (.fr ((jy ps m.toNat aS).map D.int)) z):=by
 have m6:=g.m6;have m1:=g.m1;refine W.ok (bI (ps:=2) (ns:=10) (b:=kq) rfl rfl 1e1 ?_)
 refine(ae (o:=KQ [.int m]) (gq ∅ ∅) ?_ :)
 refine ae (o:=kh x) hx.sq ?_;refine kX (λxs ρ z1=>z1=z/\∃ (rest:Zh) (mk:Zi) (o5 o6 o7 o8 o9:Option S),xs=rest.map aj/\(∀ n∈rest,n < ps.length)/\mk.length=m.toNat/\rest.foldl (fW ps) mk=jy ps m.toNat aS/\ρ=[some (.d (aJ m ps)),some (.d x),some (.d (.int m)),some (.d (.tup (ps.map pr))),some (.fr (mk.map D.int)),o5,o6,o7,o8,o9]) _ ⟨rfl,aS,(Ö m.toNat).map λ(i:Nat)=>(i:Int),none,none,none,none,none,rfl,hl,by simp,rfl,(PD hx.ba).trans ?_⟩ ?_ ?_
 ·rw[← vJ];rfl
 ·rintro y r ρ z1 ⟨rfl,rest,mk,o5,o6,o7,o8,o9,e,hr,hm,hf,rfl⟩;cases rest with
  |nil=>cases e
  |cons n rest =>
   cases e;have hn:=hr n Ë;have ht:=g.tie _ (getD_mem hn);refine(ae (xX hn) ?_ :);refine(ae (xW (mk:=mk) ht.1 ∅) ?_ :)
   refine(ae (xW (mk:=mk) (a:=(ps.getD n (0,0)).2) ∅ ∅) ?_ :)
   refine ip (by rw[Ä];simp only[most];omega) (GA _ _ ?_)
   exact⟨rfl,rest,fW ps mk n,_,_,_,_,_,rfl,λk hk=>hr k (È _ hk),by rw[pG];exact hm,hf,rfl⟩
 ·rintro ρ z1 ⟨rfl,rest,mk,o5,o6,o7,o8,o9,e,hr,hm,hf,rfl⟩;cases rest with
  |nil=>exact sd (by rw[← hf];rfl)|cons _ _=>cases e
section
variable {m:Int}{ps:Za}{pl aS:Zh}
def Hs{mk:Zi}{p:Nat}(h:p < mk.length):je (.lst (mk.map D.int)) (.int p)=some (.int (mk.getD p 0)):=xW (a:=(p:Int)) ∅ (by rw[ä];exact h)
def Kl(h:pl≠[]):je (.tup (pl.map aj)) (.int 0)=some (aj (pl.getD 0 0)):=by
 cases pl with
 |nil=>exact absurd rfl h|cons p r=>exact mL (j:=0) rfl
def bU.p0(hp:bU m pl):pl.getD 0 0 < m.toNat:=by
 have h:=hp.ne;have h2:=hp.lt;cases pl with
 |nil=>exact absurd rfl h|cons p r=>have:=h2 p Ë;show p < _;omega
def NP(mk:Zi)(p0:Nat):D->Bool
 |.int p=>mk.getD p.toNat 0 == mk.getD p0 0|_=>false
def GB(l:Zh):(l.map aj).all (NP mk p0)=l.all λp=>mk.getD p 0 == mk.getD p0 0:=by rw[all_map];rfl
def qi(k:Nat)(g:ax m ps)(hp:bU m pl){x:D}(hx:Row x aS)(hl:∀ n∈aS,n < ps.length)(z:Z):aA T (k + 4) kZ [.d (aJ m ps),.d x,.d (.tup (pl.map aj))] z=some (.ok (.d (.bl (ay ps m.toNat pl aS))) z):=by
 have hlen:=hp.len g.m6;refine W.ok (bI (ps:=3) (ns:=4) (b:=iC) rfl rfl 1e1 (Wo (vR k g hx hl z) ?_))
 have ml:(jy ps m.toNat aS).length=m.toNat:=AZ;generalize hmk:jy ps m.toNat aS=mk at ml;refine ip (by rw[Ä];simp only[most];omega) (fI (λx=>.bl (NP mk (pl.getD 0 0) x)) (λy hy=>?_) (ae (l5 _ (NP mk (pl.getD 0 0))) ?_ :))
 ·obtain⟨p,hp',rfl⟩:=Ç.mp hy;have:=hp.lt p hp';refine(ae (Hs (mk:=mk) (p:=p) ∅) ?_ :)
  refine(ae (Kl hp.ne) ?_ :);refine(ae (Hs (mk:=mk) (by rw[ml];exact hp.p0)) ?_ :)
  exact⟨rfl,rfl⟩
 ·refine sb (b:=(pl.map aj).all (NP mk (pl.getD 0 0))) ?_;rw[GB,← hmk];rfl
end
def dE(l:Zh):D:=.tup (l.map aj)
theorem pJ:∀ {j:Nat}{aS:Zh},aS∈dh j->aS.length<=j
 |0,aS,h=>by rw[Ú.mp h];exact Ñ _
 |j + 1,aS,h=>by
  rcases ë.mp h with h | h
  ·exact Nat.le_succ_of_le (pJ h)
  ·obtain⟨l,hl,rfl⟩:=Ç.mp h;rw[AY];exact VN (pJ hl)
theorem lu:∀ j:Nat,(dh j).length=2 ^ j
 |0=>rfl
 |j + 1=>by
  show(dh j++(dh j).map (·++[j])).length=_;rw[Rk,Ä,lu j,Nat.pow_succ];omega
def zB(h:j<=8):2 ^ j<=256:=UK (n:=2) 1e1 h
def add_l(h:a.length + b.length<=1000):dZ .add (.lst a) (.lst b)=some (.fr (a++b)):=by
 show(if a.length + b.length<=most then some (S.fr (a++b)) else none)=_;rw[if_pos (bO h)]
def rB(h:a.length + b.length<=1000):dZ .add (.tup a) (.tup b)=some (.d (.tup (a++b))):=by
 show(if a.length + b.length<=most then some (S.d (.tup (a++b))) else none)=_;rw[if_pos (bO h)]
def Nb(j:Nat):D->D
 |.tup l=>.tup (l++[aj j])|x=>x
def DQ:((dh j).map dE).map (Nb j)=((dh j).map (·++[j])).map dE:=by
 rw[Ó,Ó];refine QB λl _=>?_;show D.tup (l.map aj++[aj j])=.tup ((l++[j]).map aj);rw[QT];rfl
def GC{n:Nat}(h:n < 100000):uc .rng1 [.int n]=some ((Ro 0 n).map aj):=by
 rw[gq ∅ ∅,ä,Sx];rfl
abbrev cf(cs:Za)(n:Nat):Int × Int:=cs.getD n (0,1)
def eZ(cs:Za):Int:=(cs.map (·.2)).foldr (· * ·) 1
def GD:cH (cf cs) (Ö cs.length)=eZ cs:=by
 unfold cH eZ
 congr 1
 refine TV (by simp) λi h1 h2=>?_
 have hi:i < cs.length:=by simpa using h1
 simp[Æ,Í hi]
theorem nG:∀ {cs:Za},(∀ c∈cs,c8 c)->0 < eZ cs/\eZ cs<=2 ^ (10 * cs.length)
 |[],_=>by decide
 |c::r,h=>by
  obtain⟨h1,h2⟩:=nG λd hd=>h d (È _ hd);obtain⟨c1,c2,_⟩:=h c Ë;refine⟨SK (show(0:Int) < c.2 by omega) h1,?_⟩
  show c.2 * eZ r<=_;rw[Ü,mul_add,Xi,Tt];exact Uw h2 ∅ ∅ (by have:=Q6 (QI h1) h2;exact this)
def c8.w(h:c8 c)(b:Prop)[Decidable b]:0<=(if b then c.1 else c.2 - c.1)/\(if b then c.1 else c.2 - c.1)<=1000:=by
 obtain⟨c1,c2,c3,c4,_⟩:=h;split <;> omega
def dQ(ha:∀ c∈cs,c8 c)(h:n < cs.length):c8 (cf cs n):=ha _ (by rw[cf,Æ,Í h];exact QD h)
theorem DR(ha:∀ c∈cs,c8 c):∀ {j:Nat},j<=cs.length->0<=vP (cf cs) j aS/\vP (cf cs) j aS<=2 ^ (10 * j)
 |0,_=>by show(0:Int)<=1/\(1:Int)<=1;omega
 |j + 1,h=>by
  obtain⟨h1,h2⟩:=DR (aS:=aS) ha (j:=j) ∅
  obtain⟨w1,w2⟩:=(dQ ha (n:=j) ∅).w (j∈aS)
  rw[gZ];refine⟨Vi h1 w1,?_⟩;rw[mul_add,Xi];exact Uw h2 ∅ w1 (by have:=Q6 h1 h2;exact this)
theorem vS(n:Nat):∀ l:Zh,memD (aj n) (l.map aj)=decide (n∈l)
 |[]=>rfl
 |x::r=>by
  show((x:Int) == (n:Int) || memD (aj n) (r.map aj))=_;rw[vS n r,Q8,QL,beq_iff_eq,decide_eq_true_eq,decide_eq_true_eq,ü];constructor
  ·rintro (h | h)
   ·exact .inl ∅
   ·exact .inr h
  ·rintro (h | h)
   ·exact .inl ∅
   ·exact .inr h
def A0(l:Zh):Aq (l.map aj)=true:=by
 have e:l.map aj=(l.map λ(n:Nat)=>(n:Int)).map D.int:=by rw[Ó];rfl
 obtain⟨h1,h2⟩:=tj (l.map λ(n:Nat)=>(n:Int));unfold Aq;rw[e,h1,h2];rfl
def GF{n:Nat}{l:Zh}:uM (aj n) (l.map aj)=some (decide (n∈l)):=by
 unfold uM;rw[A0,vS];rfl
def kC{n:Nat}(h:n < cs.length):je (.tup (cs.map pr)) (.int n)=some (pr (cf cs n)):=by
 rw[cf,Æ,Í h];exact mL (by rw[Ø,Í h];rfl)
section
variable {m:Int}{ps cs:Za}{pl:Zh}
def eT(g:ax m ps)(hp:bU m pl):tG ps.length (ay ps m.toNat pl):=λa b ha hb h=>by
 have hm:∀ p∈pl,p < m.toNat:=λp q=>by have:=hp.lt p q;omega
 rw[Q8];exact⟨good_mono g.pI hm hb λn hn=>(h n).mp hn,good_mono g.pI hm ha λn hn=>(h n).mpr hn⟩
def bq(m:Int)(ps cs:Za)(pl:Zh):Int × Int:=aI (f6 (dh ps.length) λaS=>if ay ps m.toNat pl aS then vP (cf cs) ps.length aS else 0) (eZ cs)
def bE(g:ax m ps)(hp:bU m pl)(hc:cs.length=ps.length):bq m ps cs pl=aI (aU (ay ps m.toNat pl) (cf cs) (Ö ps.length) []) (cH (cf cs) (Ö ps.length)):=by
 have hg:=eT g hp;have h1:=pH (c:=cf cs) hg ps.length [] (Ñ _) (λ_ h=>nomatch h);simp only[Ri] at h1;have hd:=rA ps.length;unfold bq;rw[h1,dP hg hd [] (λn hn=>Î.mp (hd.mem_iff.mp hn)) (λ_ h=>nomatch h),← hc,GD]
end
def frees(K:Nat)(held lack:Zh):Zh:=(Ö K).filter λn=>!(held.contains n || lack.contains n)
def fq:n∈frees K held lack↔n < K/\n ∉ held/\n ∉ lack:=by
 unfold frees;rw[Uy,UW,î,Xs,Xp,Xp,decide_eq_false_iff_not,decide_eq_false_iff_not]
def pK:(frees K held lack).Nodup:=RS _ S0
def pL(h1:n < K)(h2:n ∉ lack)(h3:n ∉ held):(frees K held lack).Perm (n::frees K held (lack++[n])):=by
 refine(RB pK (Q7.mpr ⟨λh=>(fq.mp h).2.2 (é _ (Ú.mpr rfl)),pK⟩)).mpr λk=>?_;rw[ü,fq,fq,Uz,Ú];constructor
 ·rintro ⟨a,b,c⟩;by_cases e:k=n
  ·exact .inl e
  ·exact .inr ⟨a,b,λh=>h.elim c e⟩
 ·rintro (rfl | ⟨a,b,c⟩)
  ·exact⟨h1,h3,h2⟩
  ·exact⟨a,b,λh=>c (.inl h)⟩
section
variable {g:Zh->Bool}{c:Nat->Int × Int}
theorem xY:∀ (ns held:Zh),(∀ n∈ns,c8 (c n))->0<=aU g c ns held/\aU g c ns held<=cH c ns
 |[],held,_=>by
  unfold aU;show _/\_<=1;split <;> decide
 |n::r,held,h=>by
  obtain⟨c1,c2,c3,c4,_⟩:=h n Ë;have hr:=λk hk=>h k (È _ hk);obtain⟨a0,a1⟩:=xY r (n::held) hr;obtain⟨b0,b1⟩:=xY r held hr;unfold aU;rw[a9];have p1:=Vi c3 a0;have p2:=Vi (show 0<=(c n).2 - (c n).1 by omega) b0
  have q1:=Rn a1 c3;have q2:=Rn b1 (show 0<=(c n).2 - (c n).1 by omega)
  refine⟨∅,?_⟩
  have e:(c n).2 * cH c r=(c n).1 * cH c r + ((c n).2 - (c n).1) * cH c r:=by rw[← Int.add_mul];congr 1;omega
  omega
theorem dR:∀ {ns:Zh},(∀ n∈ns,c8 (c n))->0 < cH c ns/\cH c ns<=2 ^ (10 * ns.length)
 |[],_=>by show(0:Int) < 1/\(1:Int)<=1;omega
 |n::r,h=>by
  obtain⟨h1,h2⟩:=dR λk hk=>h k (È _ hk);obtain⟨c1,c2,_⟩:=h n Ë;rw[a9];refine⟨SK ∅ h1,?_⟩
  rw[Ü,mul_add,Xi,Tt];exact Uw h2 ∅ ∅ (Q6 (QI h1) h2)
end
structure Fr(v:Int × Int)(t b:Int):Prop where
 t0:0<=v.1
 b0:0 < v.2
 one:gcd v.1 v.2=1
 eq:v.1 * b=v.2 * t
def Fr.bd(h:Fr v t b)(hb:0 < b)(ht:t<=b)(hn:b<=2 ^ n):Bd n v:=by
 refine⟨h.t0,?_,h.b0,?_⟩
 ·refine Int.le_of_mul_le_mul_right (a:=b) ?_ hb;rw[h.eq];exact Rn ht (QI h.b0)
 ·exact Q6 (Int.le_of_dvd hb (Kk h.one ⟨t,h.eq⟩)) hn
def A1(h0:0 < b):(aI t b).1 * b=(aI t b).2 * t:=by
 obtain⟨e1,e2⟩:=jM (t:=t) h0;generalize (aI t b).1=x at *
 generalize (aI t b).2=y at *
 generalize ((gcd t b:Nat):Int)=k at *
 rw[e1,e2]
 grind
def Fr.low(hb:0 < b)(ht:0<=t):Fr (aI t b) t b:=⟨V8 ht (QI (eO hb)),jN hb,zz hb,A1 hb⟩
def kf(k:Nat):List Zh:=(TS.sN k).map (TS.jc k 0)
def rC(h:k<=8):dh k=(Ö (2 ^ k)).map (TS.jc k 0):=by
 have:∀ k,k < 9->dh k=(Ö (2 ^ k)).map (TS.jc k 0):=by decide +kernel
 exact this k ∅
def ma(h:k<=8):(kf k).Perm (dh k):=by
 have:∀ k,k < 9->(TS.sN k).isPerm (Ö (2 ^ k))=true:=by decide +kernel
 rw[rC h];exact(List.isPerm_iff.mp (this k ∅)).map _
def Km(h:k<=8):(dh k).map dE=b8 k:=by
 rw[rC h];unfold b8;rw[Ó];rfl
def vT(h:k<=8):pY .sorted [.lst ((dh k).map dE)]=some (.fr ((kf k).map dE)):=by
 have h1:∀ k,k < 9->cF (b8 k)=false:=by decide +kernel
 have h2:∀ k,k < 9->((Ö 9).find? λj=>jS (b8 k) (b8 j))=some k:=by decide +kernel
 rw[Km h];show(if (b8 k).length < 64/\cF (b8 k)=true then some (S.fr (a7 (b8 k))) else(Cd (b8 k)).map S.fr)=_;rw[if_neg (λq=>by rw[h1 k ∅] at q;cases q.2)]
 have e:Cd (b8 k)=some (uN k):=by
  show(((Ö 9).find? λj=>jS (b8 k) (b8 j)).map uN)=_;rw[h2 k ∅];rfl
 rw[e];show some (S.fr (uN k))=some (S.fr ((kf k).map dE));rw[kf,Ó];rfl
def DS{i:Nat}(hi:T[i]?=some (.code 1 3 iD))(k:Nat){m:Int}{ts:List D}(h8:ts.length<=8)(z:Z):aA T (k + 3) i [.d (.tup [.int m,.tup ts])] z=some (.ok (.fr ((kf ts.length).map dE)) z):=by
 refine W.ok (bI (ps:=1) (ns:=3) (b:=iD) hi rfl 1e1 ?_)
 refine(ae (GC (n:=ts.length) ∅) ?_ :)
 refine kX (λxs ρ z1=>z1=z/\∃ (j r:Nat) (o2:Option S),j + r=ts.length/\xs=(Ro j r).map aj/\ρ=[some (.d (.tup [.int m,.tup ts])),some (.fr ((dh j).map dE)),o2]) _ ⟨rfl,0,ts.length,none,Wv _,rfl,rfl⟩ ?_ ?_
 ·rintro x r ρ z1 ⟨rfl,j,r',o2,hj,e,rfl⟩;cases r' with
  |zero=>cases e
  |succ r' =>
   rw[SR] at e;cases e;have hp:=zB (j:=j) ∅
   refine ip (by rw[Ä,lu];simp only[most];omega) (fI (Nb j) (λy hy=>?_) ?_)
   ·obtain⟨l,hl,rfl⟩:=Ç.mp hy;have:=pJ hl;refine(ae (rB (a:=l.map aj) (b:=[aj j]) (by rw[Ä];show _ + 1<=_;omega)) ?_ :)
    exact⟨rfl,rfl⟩
   ·rw[DQ];refine(ae (add_l (a:=(dh j).map dE) (b:=((dh j).map (·++[j])).map dE) (by rw[Ä,Ä,Ä,lu];omega)) ?_ :)
    refine⟨rfl,j + 1,r',some (.d (aj j)),∅,rfl,?_⟩
    exact congrArg (λl=>[some (S.d (.tup [.int m,.tup ts])),some (.fr l),some (.d (aj j))]) QT.symm
 ·rintro ρ z1 ⟨rfl,j,r',o2,hj,e,rfl⟩;cases r' with
  |zero =>
   have hj:j=ts.length:=hj;subst hj;refine(ae (vT h8) ?_ :);exact sd rfl
  |succ r'=>rw[SR] at e;cases e
def vU(k:Nat){m:Int}{ts:List D}(h8:ts.length<=8)(z:Z):aA T (k + 3) oX [.d (.tup [.int m,.tup ts])] z=some (.ok (.fr ((kf ts.length).map dE)) z):=DS rfl k h8 z
def mO:D->Zh
 |.tup l=>l.map λx=>match x with | .int i=>i.toNat | _=>0
 |_=>[]
def lx(l:Zh):mO (dE l)=l:=by
 show(l.map aj).map _=l;rw[Ó];exact map_id l
def GG(h:k<=8)(hl:aS∈kf k):∀ n∈aS,n < k:=lq ((ma h).mem_iff.mp hl)
def vV(h:k<=8):(kf k).length<=256:=by rw[(ma h).length_eq,lu];exact zB h
section
variable {m:Int}{ps cs:Za}{pl:Zh}
abbrev xZ(m:Int)(ps:Za)(pl:Zh):List Zh:=(kf ps.length).filter (ay ps m.toNat pl)
def tH(k:Nat)(g:ax m ps)(hp:bU m pl)(z:Z):aA T (k + 9) mJ [.d (aJ m ps),.d (.tup (pl.map aj))] z=some (.ok (.fr ((xZ m ps pl).map dE)) z):=by
 have h8:=g.len;have h6:=hp.len g.m6;refine W.ok (bI (ps:=2) (ns:=2) (b:=jv) rfl rfl 1e1 (Wo (cN k z g.DI) (Wo (iV (k + 2) (t:=.tup (ps.map pr)) z hp.P4 (decide_eq_true (by rw[Ä];omega))) (Wo (vU (k + 5) (m:=m) (ts:=ps.map pr) (by rw[Ä];exact h8) z) ?_))))
 rw[Ä];refine ip (by rw[Ä];exact bO (ê (vV h8) 1e1)) (AS (λx=>ay ps m.toNat pl (mO x)) id (λx hx=>?_) ?_)
 ·obtain⟨l,hl,rfl⟩:=Ç.mp hx;refine Wo (qi (k + 4) g hp (Row.t l) (GG h8 hl) z) ⟨?_,rfl,λ_=>⟨rfl,rfl⟩⟩;rw[lx]
 ·refine sd ?_;rw[map_id,SX];have:(kf ps.length).filter ((λx=>ay ps m.toNat pl (mO x)) ∘ dE)=xZ m ps pl:=List.filter_congr λl _=>by show ay ps m.toNat pl (mO (dE l))=_;rw[lx]
  rw[this]
def x6(k:Nat)(hl:cs.length<=8)(ha:∀ c∈cs,c8 c)(aS:Zh)(z:Z):aA T (k + 3) qY [.d (.tup (cs.map pr)),.d (dE aS)] z=some (.ok (.d (.int (vP (cf cs) cs.length aS))) z):=by
 refine W.ok (bI (ps:=2) (ns:=6) (b:=l4) rfl rfl 1e1 ?_)
 refine kX (λxs ρ z1=>z1=z/\∃ (j:Nat) (o3 o4 o5:Option S),j<=cs.length/\xs=d7 ((cs.drop j).map pr) j/\ρ=[some (.d (.tup (cs.map pr))),some (.d (dE aS)),some (.d (.int (vP (cf cs) j aS))),o3,o4,o5]) _ ⟨rfl,0,none,none,none,Se _,rfl,(PD (by show(bo _&&true)=true;rw[bJ];rfl)).trans rfl⟩ ?_ ?_
 ·rintro x r ρ z1 ⟨rfl,j,o3,o4,o5,hj,e,rfl⟩;by_cases h:j < cs.length
  ·rw[RJ h] at e;cases e;have ec:cs[j]=cf cs j:=by rw[cf,Æ,Í h];rfl
   rw[ec];obtain⟨a1,a2⟩:=DR (aS:=aS) ha (j:=j) ∅
   refine(ae (GF (n:=j) (l:=aS)) ?_ :);have fin:∀ w:Int,0<=w->w<=1000->w=(if j∈aS then(cf cs j).1 else(cf cs j).2 - (cf cs j).1)->dZ .mul (.int (vP (cf cs) j aS)) (.int w)=some (.d (.int (vP (cf cs) (j + 1) aS))):=λw w0 w1 e=>by
    rw[zy a1 (lp (n:=10 * j) ∅ a2) w0 (jK ∅),gZ,e]
   obtain⟨w1,w2⟩:=(dQ ha h).w (j∈aS);refine ib (b:=decide (j∈aS)) (λhm=>?_) λhm=>?_
   ·rw[decide_eq_true_eq] at hm;rw[if_pos hm] at w1 w2;refine(ae (fin _ w1 w2 (by rw[if_pos hm])) ?_ :)
    exact⟨rfl,j + 1,_,_,_,h,rfl,rfl⟩
   ·rw[decide_eq_false_iff_not] at hm;rw[if_neg hm] at w1 w2;refine(ae (fin _ w1 w2 (by rw[if_neg hm])) ?_ :)
    exact⟨rfl,j + 1,_,_,_,h,rfl,rfl⟩
  ·rw[WQ ∅] at e;cases e
 ·rintro ρ z1 ⟨rfl,j,o3,o4,o5,hj,e,rfl⟩;by_cases h:j < cs.length
  ·rw[RJ h] at e;cases e
  ·have hj:j=cs.length:=∅
   subst hj;exact sd rfl
def pM(k:Nat)(hl:cs.length<=8)(ha:∀ c∈cs,c8 c)(z:Z):aA T (k + 3) ka [.d (.tup (cs.map pr))] z=some (.ok (.d (.int (eZ cs))) z):=by
 obtain⟨b0,b1⟩:=nG ha;refine W.ok (bI (ps:=1) (ns:=3) (b:=gH) rfl rfl 1e1 ?_)
 refine kX (λxs ρ z2=>z2=z/\∃ (rest:Za) (b:Int) (o:Option S),xs=rest.map pr/\(∀ c∈rest,c8 c)/\0 < b/\b * eZ rest=eZ cs/\ρ=[some (.d (.tup (cs.map pr))),some (.d (.int b)),o]) _ ⟨rfl,cs,1,none,rfl,ha,-0,Int.one_mul _,(PD (by show(bo _&&true)=true;rw[bJ];rfl)).trans rfl⟩ ?_ ?_
 ·rintro x r ρ z2 ⟨rfl,rest,b,o,e,hr,hb,ht,rfl⟩;cases rest with
  |nil=>cases e
  |cons c rest =>
   cases e;have hc':=hr c Ë;have hr':∀ c∈rest,c8 c:=λd hd=>hr d (È _ hd);have ht':b * (c.2 * eZ rest)=eZ cs:=ht;have p0:=(nG hr').1;have hle:b<=eZ cs:=by
    rw[← ht'];have h1:0 < c.2 * eZ rest:=SK (by have:=hc'.1;omega) p0
    have:b * 1<=b * (c.2 * eZ rest):=Rn ∅ ∅
    omega
   refine(ae (zy (i:=b) (j:=c.2) ∅ (lp (n:=10 * cs.length) ∅ (Q6 hle b1)) (by have:=hc'.1;omega) (jK (by have:=hc'.2.1;omega))) ?_ :)
   exact⟨rfl,rest,b * c.2,_,rfl,hr',SK hb (by have:=hc'.1;omega),by rw[VO];exact ht',rfl⟩
 ·rintro ρ z2 ⟨rfl,rest,b,o,e,hr,hb,ht,rfl⟩;cases rest with
  |cons _ _=>cases e
  |nil =>
   have ht:b * 1=eZ cs:=ht;rw[mul_one] at ht;subst ht;exact sd rfl
theorem sum_ints(f:Zh->Int):∀ ls:List Zh,sj ((ls.map dE).map λx=>.int (f (mO x)))=some (f6 ls f)
 |[]=>rfl
 |l::r=>by
  show(sj ((r.map dE).map λx=>.int (f (mO x)))).map (f (mO (dE l)) + ·)=_;rw[sum_ints f r,lx];rfl
def qj(k:Nat)(hl:cs.length<=8)(ha:∀ c∈cs,c8 c)(hls:ls.length<=256)(z:Z):aA T (k + 5) iA [.d (.tup (cs.map pr)),.d (.lst (ls.map dE))] z=some (.ok (.d (pr (aI (f6 ls (vP (cf cs) cs.length)) (eZ cs)))) z):=by
 obtain⟨b0,b1⟩:=nG ha;refine W.ok (bI (ps:=2) (ns:=2) (b:=iE) rfl rfl 1e1 ?_)
 refine ip (by rw[Ä];exact bO ∅) (fI (λx=>.int (vP (cf cs) cs.length (mO x))) (λx hx=>?_) ?_)
 ·obtain⟨l,_,rfl⟩:=Ç.mp hx;refine Wo (x6 (k + 1) hl ha l z) ⟨?_,rfl⟩;rw[lx]
 ·refine(ae (o:=pY .sum [.lst _]) (a:=.d (.int (f6 ls (vP (cf cs) cs.length)))) (by show(((kh (.lst _)).bind sj).map _)=_;show(sj _).map _=_;rw[sum_ints];rfl) ?_ :)
  exact Wo (pM (k + 1) hl ha z) (Wo (rq k _ _ z b0 (lp (n:=10 * cs.length) ∅ b1)) (sd rfl))
def A2(h:a.Perm b):f6 a f=f6 b f:=by
 unfold f6;exact(h.map f).foldr_eq' (λx _ y _ z=>by omega) 0
theorem rD(g:Zh->Bool)(f:Zh->Int):∀ a:List Zh,f6 (a.filter g) f=f6 a λl=>if g l then f l else 0
 |[]=>rfl
 |x::r=>by
  have ih:=rD g f r;show _=(if g x=true then f x else 0) + f6 r _;rw[Rc,← ih];cases g x with
  |true=>rfl|false=>show _=0 + _;rw[Int.zero_add];rfl
def ql(k:Nat)(g:ax m ps)(hc:cs.length=ps.length)(ha:∀ c∈cs,c8 c)(z:Z):aA T (k + 5) iA [.d (.tup (cs.map pr)),.d (.lst ((xZ m ps pl).map dE))] z=some (.ok (.d (pr (bq m ps cs pl))) z):=by
 have h8:=g.len;rw[qj k ∅ ha (ê (RQ _ _) (vV h8)) z,rD,A2 (ma h8),hc]
 rfl
def vW(g:ax m ps)(hp:bU m pl)(hc:cs.length=ps.length)(ha:∀ c∈cs,c8 c):Bd 80 (bq m ps cs pl):=by
 have h8:=g.len;have hcf:∀ n∈Ö ps.length,c8 (cf cs n):=λn hn=>dQ ha (by rw[hc];exact Î.mp hn)
 obtain⟨b0,b1⟩:=dR hcf;obtain⟨t0,t1⟩:=xY (g:=ay ps m.toNat pl) _ [] hcf;rw[bE g hp hc];refine(Fr.low b0 t0).bd b0 t1 (Q6 b1 ?_);rw[ï]
 exact_mod_cast UK (n:=2) 1e1 (show 10 * ps.length<=80 by omega)
def cw(k:Nat)(g:ax m ps)(hp:bU m pl)(hc:cs.length=ps.length)(ha:∀ c∈cs,c8 c)(z:Z):aA T (k + 11) cM [.d (aJ m ps),.d (.tup (cs.map pr)),.d (.tup (pl.map aj))] z=some (.ok (.d (pr (bq m ps cs pl))) z):=by
 have h6:=hp.len g.m6;exact W.ok (bI (ps:=3) (ns:=3) (b:=sY) rfl rfl 1e1 (Wo (eG k (m:=m) (ts:=ps.map pr) g.DI z (tE (by rw[Ä];exact hc) ha)) (Wo (iV (k + 4) (t:=.tup (ps.map pr)) z hp.P4 (decide_eq_true (by rw[Ä];omega))) (Wo (tH (k + 1) g hp z) (Wo (ql (k + 5) g hc ha z) (sd rfl))))))
end
structure Bs(n:Nat)(c:Int × Int):Prop where
 t:c.1.natAbs<=2 ^ n
 b0:0 < c.2
 b:c.2.natAbs<=2 ^ n
def pN(h:n<=3999)(hi:i<=2 ^ n):i < gR:=Sy hi (XB 1e1 ∅)
def Ht(h:n<=3999)(hi:i.natAbs<=2 ^ n)(hj:j.natAbs<=2 ^ n):dZ .mul (.int i) (.int j)=some (.d (.int (i * j))):=by
 show(if i.natAbs < gR/\j.natAbs < gR then some (S.d (.int (i * j))) else none)=_;rw[if_pos ⟨pN h hi,pN h hj⟩]
def GH{n m:Nat}{i j:Int}(hi:i.natAbs<=2 ^ n)(hj:j.natAbs<=2 ^ m):(i * j).natAbs<=2 ^ (n + m):=by
 rw[Int.natAbs_mul,Nat.pow_add];exact Nat.mul_le_mul hi hj
def GI(h:n<=3999)(hi:i.natAbs<=2 ^ n):big i:=by
 have:=pN h hi;show i < 2 ^ 4000;have e:((gR:Nat):Int)=2 ^ 4000:=by unfold gR;exact TN 2 4000
 rw[← e];omega
def Bd.s(h:Bd n c):Bs n c:=by
 have e:((2 ^ n:Nat):Int)=2 ^ n:=TN 2 n;have h1:=h.t0;have h2:=h.tb;have h3:=h.b0;have h4:=h.bb;rw[← e] at h4;exact⟨∅,h3,∅⟩
section
variable {g:Zh->Bool}{c c':Nat->Int × Int}
theorem fu:∀ (ns held:Zh),(∀ n∈ns,c n=c' n)->aU g c ns held=aU g c' ns held
 |[],_,_=>rfl
 |n::r,held,h=>by
  unfold aU;rw[h n Ë,fu r held λk hk=>h k (È _ hk),fu r (n::held) λk hk=>h k (È _ hk)]
def kD{ns:Zh}(h:∀ n∈ns,c n=c' n):cH c ns=cH c' ns:=by
 unfold cH;rw[QB λn hn=>by rw[h n hn]]
end
def jz{p q:Int × Int}:HT.leB (ky p) (ky q)=true↔p.1 < q.1\/(p.1=q.1/\p.2<=q.2):=by
 unfold HT.leB ky;rw[Ki];by_cases h1:q.1=p.1
 ·rw[if_pos h1];by_cases h2:q.2=p.2
  ·rw[if_pos h2];simp;omega
  ·rw[if_neg h2];simp;omega
 ·rw[if_neg h1];simp;omega
theorem vX:∀ {l:Za},Ch l->l.Pairwise λp q=>HT.leB (ky p) (ky q)=true
 |[],_=>.nil|[a],_=>Ub _ _
 |a::b::r,h=>by
  have ih:=vX h.2;refine .cons (λq hq=>?_) ih;rcases ß.mp hq with rfl | hq
  ·exact h.1
  ·have h1:=jz.mp h.1;have h2:=jz.mp (Tv ih hq);rw[jz];omega
theorem zC:∀ {l:Za},l.Pairwise (λp q=>HT.leB (ky p) (ky q)=true)->Ch l
 |[],_=>trivial|[a],_=>trivial|a::b::r,h=>⟨Tv h Ë,zC h.of_cons⟩
def ax.cut{m:Int}{ps:Za}(g:ax m ps)(n:Nat):ax m (ps.eraseIdx n):=
 ⟨g.m1,g.m6,ê (List.length_eraseIdx_le ..) g.len,λp hp=>g.tie p ((UB _ _).mem hp),zC ((vX g.ch).sublist (UB _ _))⟩
section
variable {g g':Zh->Bool}{c c':Nat->Int × Int}
theorem iJ{old:Nat->Nat}{base:Zh}{K:Nat}(hg:∀ l:Zh,(∀ j∈l,j < K)->g' l=g (l.map old++base))(hc:∀ j,c' j=c (old j)):∀ js h:Zh,(∀ j∈js,j < K)->(∀ j∈h,j < K)->aU g' c' js h=aU g c (js.map old) (h.map old++base)
 |[],h,_,hh=>by unfold aU;rw[hg h hh];rfl
 |j::r,h,hj,hh=>by
  have hr:=λk hk=>hj k (È _ hk);have i1:=iJ hg hc r (j::h) hr λk hk=>by
   rcases ß.mp hk with rfl | hk
   ·exact hj _ Ë
   ·exact hh k hk
  have i2:=iJ hg hc r h hr hh;show(c' j).1 * aU g' c' r (j::h) + ((c' j).2 - (c' j).1) * aU g' c' r h=(c (old j)).1 * aU g c (r.map old) (old j::(h.map old++base)) + ((c (old j)).2 - (c (old j)).1) * aU g c (r.map old) (h.map old++base);rw[i1,i2,hc j];rfl
def jA{old:Nat->Nat}(hc:∀ j,c' j=c (old j))(js:Zh):cH c' js=cH c (js.map old):=by
 unfold cH;rw[Ó];exact congrArg (List.foldr _ _) (QB λj _=>by rw[hc j];rfl)
theorem ly{N n i:Nat}(hs:tG N g)(hi:i < N)(he:∀ l:Zh,(∀ k∈l,k < N)->n∈l->g (i::l)=g l):∀ r h:Zh,(∀ k∈r,k < N)->(∀ k∈h,k < N)->n∈h->aU g c r (i::h)=aU g c r h
 |[],h,_,hh,hn=>by unfold aU;rw[he h hh hn]
 |k::r,h,hr,hh,hn=>by
  have hr':=λj hj=>hr j (È _ hj);have hk:=hr k Ë;have hkh:∀ j∈k::h,j < N:=λj hj=>by
   rcases ß.mp hj with rfl | hj
   ·exact hk
   ·exact hh j hj
  have i1:=ly hs hi he r (k::h) hr' hkh (È _ hn);have i2:=ly hs hi he r h hr' hh hn;have e:aU g c r (k::i::h)=aU g c r (i::k::h):=gY hs r _ _ hr' (λj hj=>by
   rcases ß.mp hj with rfl | hj
   ·exact hk
   ·rcases ß.mp hj with rfl | hj
    ·exact hi
    ·exact hh j hj) (λj hj=>by
   rcases ß.mp hj with rfl | hj
   ·exact hi
   ·exact hkh j hj) λj=>by simp only[ü];exact⟨λq=>by rcases q with q | q | q <;> simp[q],λq=>by rcases q with q | q | q <;> simp[q]⟩
  unfold aU;rw[e,i1,i2]
end
abbrev pf(ps:Za)(i:Nat):Int × Int:=ps.getD i (0,0)
section
variable {m:Int}{ps cs:Za}{pl:Zh}
theorem jO(g:ax m ps)(hp:bU m pl){aS:Zh}(hl:∀ n∈aS,n < ps.length):ay ps m.toNat pl aS=true↔∀ f:Nat->Int,(∀ n∈aS,f (tA ps n)=f (tB ps n))->∀ p∈pl,∀ q∈pl,f p=f q:=by
 rw[fX g.pI (λp q=>by have:=hp.lt p q;omega) hl]
 refine⟨λh f hf p h1 q h2=>(h f hf p h1).trans (h f hf q h2).symm,λh f hf p h1=>h f hf p h1 _ ?_⟩;cases pl with
 |nil=>cases h1
 |cons a r=>exact Ë
def tJ{α:Type}{l:List α}{d:α}{n j:Nat}:(l.eraseIdx n).getD j d=l.getD (if j < n then j else j + 1) d:=by
 rw[Æ,Æ,List.getElem?_eraseIdx];by_cases h:j < n
 ·rw[if_pos h,if_pos h]
 ·rw[if_neg h,if_neg h]
def DT(g:ax m ps)(hp:bU m pl){n:Nat}(hn:n < ps.length){aS:Zh}(hl:∀ j∈aS,j < (ps.eraseIdx n).length):ay (ps.eraseIdx n) m.toNat pl aS=ay ps m.toNat pl (aS.map (λj=>if j < n then j else j + 1)++[]):=by
 rw[Ri];have hlen:(ps.eraseIdx n).length=ps.length - 1:=Rg hn;have hlo:∀ i∈aS.map (λj=>if j < n then j else j + 1),i < ps.length:=λi hi=>by
  obtain⟨j,hj,rfl⟩:=Ç.mp hi;have:=hl j hj;split <;> omega
 have eA:∀ j,tA (ps.eraseIdx n) j=tA ps (if j < n then j else j + 1):=λj=>by unfold tA;rw[tJ]
 have eB:∀ j,tB (ps.eraseIdx n) j=tB ps (if j < n then j else j + 1):=λj=>by unfold tB;rw[tJ]
 rw[Q8,jO (g.cut n) hp hl,jO g hp hlo];refine⟨λh f hf=>h f λj hj=>?_,λh f hf=>h f λi hi=>?_⟩
 ·rw[eA,eB];exact hf _ (Ç.mpr ⟨j,hj,rfl⟩)
 ·obtain⟨j,hj,rfl⟩:=Ç.mp hi;rw[← eA,← eB];exact hf j hj
def pO(g:ax m ps)(hp:bU m pl){n i:Nat}(hi:i < ps.length)(e:pf ps i=pf ps n){l:Zh}(hl:∀ k∈l,k < ps.length)(hn:n∈l):ay ps m.toNat pl (i::l)=ay ps m.toNat pl l:=by
 have hil:∀ k∈i::l,k < ps.length:=λk hk=>by
  rcases ß.mp hk with rfl | hk
  ·exact hi
  ·exact hl k hk
 rw[Q8,jO g hp hil,jO g hp hl];refine⟨λh f hf=>h f λk hk=>?_,λh f hf=>h f λk hk=>hf k (È _ hk)⟩;rcases ß.mp hk with rfl | hk
 ·have:=hf n hn;show f ((pf ps k).1.toNat)=f ((pf ps k).2.toNat);rw[e];exact this
 ·exact hf k hk
theorem vY{c:Nat->Int × Int}:∀ a b:Zh,cH c (a++b)=cH c a * cH c b
 |[],b=>(Int.one_mul _).symm
 |x::a,b=>by
  show(c x).2 * cH c (a++b)=(c x).2 * cH c a * cH c b;rw[vY a b,VO]
def A3{n:Nat}(hn:n < ps.length):((Ö (ps.eraseIdx n).length).map λj=>if j < n then j else j + 1).Perm (frees ps.length [] [n]):=by
 rw[Rg hn];refine(RB ?_ pK).mpr λi=>?_
 ·refine Wg _ (λa b h=>?_) RH;split <;> split <;> omega
 ·rw[fq,mem_map];constructor
  ·rintro ⟨j,hj,rfl⟩;have:=Î.mp hj;refine⟨by split <;> omega,(λh=>nomatch h),λh=>?_⟩
   have:=Ú.mp h;split at this <;> omega
  ·rintro ⟨h1,_,h3⟩;have h3:i≠n:=λe=>h3 (Ú.mpr e);by_cases h:i < n
   ·exact⟨i,Î.mpr ∅,if_pos h⟩
   ·exact⟨i - 1,Î.mpr ∅,by rw[if_neg ∅];omega⟩
end
abbrev pq(ps:Za)(i:Nat):Int × Int:=ps.getD i (0,0)
def md(h:i < ps.length):ps[i]?=some (pq ps i):=by
 unfold pq;rw[Æ,Í h];rfl
def pP(h:i < ps.length):pq ps i∈ps:=ð (md h)
def DU{i:Nat}(h:i < ps.length):je (.tup (ps.map pr)) (.int i)=some (pr (pq ps i)):=mL (by rw[Ø,md h];rfl)
def DV{n:Nat}(h:n < 100000):uc .rng1 [.int n]=some ((Ro 0 n).map aj):=by
 rw[gq ∅ ∅,ä,Sx];rfl
def Kn(h:a.length + b.length<=1000):dZ .add (.lst a) (.lst b)=some (.fr (a++b)):=by
 show(if a.length + b.length<=most then some (S.fr (a++b)) else none)=_;rw[if_pos (bO h)]
def dq:d7 (ps.map pr) 0=(Ö ps.length).map λi=>.tup [aj i,pr (pq ps i)]:=by
 have:∀ (l:Za) (j:Nat),d7 (l.map pr) j=(Ö l.length).map λi=>.tup [aj (j + i),pr (pq l i)]:=by
  intro l
  induction l with
  |nil=>intro _;rfl
  |cons p r ih =>
   intro j;rw[Ü,List.range_succ_eq_map];show .tup [.int j,pr p]::d7 (r.map pr) (j + 1)=D.tup [aj (j + 0),pr p]::((Ö r.length).map Nat.succ).map _;rw[ih (j + 1),Ó];refine congr (congrArg _ rfl) (QB λi _=>?_);show D.tup [aj (j + 1 + i),_]=D.tup [aj (j + (i + 1)),_];rw[show j + 1 + i=j + (i + 1) by omega];rfl
 rw[this ps 0];exact QB λi _=>by rw[Wv]
abbrev nl(f:Nat->Nat)(M:Nat):List D:=(Ö M).map λi=>aj (f i)
def DW{M:Nat}{p:Int}(h0:0<=p)(h:p.toNat < M):je (.lst (nl f M)) (.int p)=some (aj (f p.toNat)):=by
 obtain⟨n,rfl⟩:=Rw h0;rw[ä] at h ⊢;exact q0 (by rw[Ø,Sh h];rfl)
abbrev mm(f:Nat->Nat)(p:Int × Int):Int × Int:=(((min (f p.1.toNat) (f p.2.toNat):Nat):Int),((max (f p.1.toNat) (f p.2.toNat):Nat):Int))
abbrev Q3:=(Int × Int) × Nat × Nat
def qD(t:Q3):D:=.tup [pr t.1,aj t.2.1,aj t.2.2]
theorem tK:∀ l:List Q3,bo (l.map qD)=true
 |[]=>rfl|_::r=>tK r
def Ko(p q:Q3):cz (qD p) (qD q)=true:=by
 have e:Es (qD p) (qD q)=some (MySort.aW [p.1.1,p.1.2,(p.2.1:Int),(p.2.2:Int)] [q.1.1,q.1.2,(q.2.1:Int),(q.2.2:Int)]):=by
  show(if ((p.1.1 == q.1.1)&&((p.1.2 == q.1.2)&&true))=true then(if ((p.2.1:Int) == q.2.1)=true then(if ((p.2.2:Int) == q.2.2)=true then some false else some (decide ((p.2.2:Int) < q.2.2))) else some (decide ((p.2.1:Int) < q.2.1))) else Es (pr p.1) (pr q.1))=some (if p.1.1=q.1.1 then(if p.1.2=q.1.2 then(if (p.2.1:Int)=q.2.1 then(if (p.2.2:Int)=q.2.2 then false else decide ((p.2.2:Int) < q.2.2)) else decide ((p.2.1:Int) < q.2.1)) else decide (p.1.2 < q.1.2)) else decide (p.1.1 < q.1.1));rw[Hn];unfold ky;rw[Ki];by_cases h1:p.1.1=q.1.1 <;> by_cases h2:p.1.2=q.1.2 <;> by_cases h3:(p.2.1:Int)=q.2.1 <;> by_cases h4:(p.2.2:Int)=q.2.2 <;> simp[h1,h2,h3,h4]
 unfold cz;rw[e];show(true&&((some (MySort.aW [p.1.1,p.1.2,(p.2.1:Int),(p.2.2:Int)] [q.1.1,q.1.2,(q.2.1:Int),(q.2.2:Int)]) == some (MySort.aW [p.1.1,p.1.2,(p.2.1:Int),(p.2.2:Int)] [q.1.1,q.1.2,(q.2.1:Int),(q.2.2:Int)]))&&((((p.1.1 == q.1.1)&&((p.1.2 == q.1.2)&&true))&&(((p.2.1:Int) == q.2.1)&&(((p.2.2:Int) == q.2.2)&&true))) || !([p.1.1,p.1.2,(p.2.1:Int),(p.2.2:Int)] == [q.1.1,q.1.2,(q.2.1:Int),(q.2.2:Int)]))))=true;rw[beq_self_eq_true,RK,RK,RL,RL];by_cases h1:p.1.1=q.1.1 <;> by_cases h2:p.1.2=q.1.2 <;> by_cases h3:(p.2.1:Int)=q.2.1 <;> by_cases h4:(p.2.2:Int)=q.2.2 <;> simp[h1,h2,h3,h4]
def DX{l:List Q3}(h:l.length < 64):pY .sorted [.lst (l.map qD)]=some (.fr (a7 (l.map qD))):=by
 have ok:cF (l.map qD)=true:=by
  refine Õ.mpr λx hx=>?_;obtain⟨p,_,rfl⟩:=Ç.mp hx;show(true&&(true&&(l.map qD).all (cz (qD p))))=true;refine Õ.mpr λy hy=>?_;obtain⟨q,_,rfl⟩:=Ç.mp hy;exact Ko p q
 show(if (l.map qD).length < 64/\cF (l.map qD)=true then some (S.fr (a7 (l.map qD))) else(Cd (l.map qD)).map S.fr)=_;rw[if_pos ⟨by rw[Ä];exact h,ok⟩]
theorem fk(k:D):∀ l,(kL k l).Perm (k::l)
 |[]=>.refl _
 |y::r=>by
  unfold kL;split
  ·exact((fk k r).cons y).trans (.swap _ _ _)
  ·exact .refl _
theorem bF:∀ l,(a7 l).Perm l
 |[]=>.refl _|k::r=>(fk k _).trans ((bF r).cons k)
def f3:D->D
 |.tup [a,_,_]=>a|x=>x
def g3:D->D
 |.tup [_,b,c]=>.tup [b,c]|x=>x
def rws(f:Nat->Nat)(ps qs:Za):List Q3:=((Ö ps.length).map λi=>(pq ps i,0,i))++(Ö qs.length).map λi=>(mm f (pq qs i),1,i)
def iK:(rws f ps qs).length=ps.length + qs.length:=by unfold rws;simp
def outD(M:Int)(l:List Q3):D:=.tup [.tup [.int M,.tup ((a7 (l.map qD)).map f3)],.tup ((a7 (l.map qD)).map g3)]
def tL{l:List Q3}{x:D}(h:x∈a7 (l.map qD)):∃ t,x=qD t:=by
 obtain⟨t,_,e⟩:=Ç.mp ((bF _).mem_iff.mp h);exact⟨t,e.symm⟩
def zD{l:List Q3}:(a7 (l.map qD)).length=l.length:=by rw[(bF _).length_eq,Ä]
def vZ{l:List Q3}:bo ((a7 (l.map qD)).map f3)=true/\bo ((a7 (l.map qD)).map g3)=true/\bo (a7 (l.map qD))=true:=by
 have all:∀ xs:List D,(∀ x∈xs,∃ t,x=qD t)->bo (xs.map f3)=true/\bo (xs.map g3)=true/\bo xs=true:=by
  intro xs
  induction xs with
  |nil=>intro _;exact⟨rfl,rfl,rfl⟩
  |cons x r ih =>
   intro h;obtain⟨t,rfl⟩:=h x Ë;exact ih λy hy=>h y (È _ hy)
 exact all _ λx hx=>tL hx
def Kp:Sm->Sm
 |.seq _ r=>r|s=>s
def iM(k p b:Nat)(z:Z):aA T (k + 3) eQ [.d (aj p),.d (aj b)] z=some (.ok (.d (aj (if b < p then p - 1 else p))) z):=by
 refine W.ok (bI (ps:=2) (ns:=2) (b:=jq) rfl rfl 1e1 ?_)
 refine ib (b:=decide ((b:Int) < p)) (λh=>?_) λh=>?_
 ·have h:=of_decide_eq_true h;refine sd ?_;show S.d (.int ((p:Int) - 1))=S.d (.int ((if b < p then p - 1 else p:Nat):Int));rw[if_pos ∅,show(((p - 1:Nat)):Int)=(p:Int) - 1 by omega]
 ·have h:=of_decide_eq_false h;refine sd ?_;rw[if_neg ∅];rfl
def zF(k x y:Nat)(z:Z):aA T (k + 3) oU [.d (aj x),.d (aj y)] z=some (.ok (.d (pr (((min x y:Nat):Int),((max x y:Nat):Int)))) z):=by
 refine W.ok (bI (ps:=2) (ns:=2) (b:=pg) rfl rfl 1e1 ?_)
 refine sd ?_;show S.d (.tup [.int (if (y:Int) < x then(y:Int) else x),.int (if (y:Int) > x then(y:Int) else x)])=S.d (.tup [.int ((min x y:Nat):Int),.int ((max x y:Nat):Int)]);rw[show(if (y:Int) < x then(y:Int) else x)=((min x y:Nat):Int) by split <;> omega,show(if (y:Int) > x then(y:Int) else x)=((max x y:Nat):Int) by split <;> omega]
def mP(k:Nat){M:Nat}(h1:0<=p.1)(h2:p.1.toNat < M)(h3:0<=p.2)(h4:p.2.toNat < M)(z:Z):aA T (k + 4) lY [.d (pr p),.d (.lst (nl f M))] z=some (.ok (.d (pr (mm f p))) z):=by
 refine W.ok (bI (ps:=2) (ns:=4) (b:=lZ) rfl rfl 1e1 ?_)
 refine(ae (DW (f:=f) h1 h2) ?_ :);refine(ae (DW (f:=f) h3 h4) ?_ :);exact Wo (zF k _ _ z) (sd rfl)
def e0:D->D
 |.tup [i,t]=>.tup [t,.int 0,i]|x=>x
def DY:D->Nat
 |.tup [.int i,_]=>i.toNat|_=>0
section
variable {m1 m2 M:Int}{ps qs:Za}{f:Nat->Nat}
def ax.lo(g:ax m2 qs)(h:i < qs.length):0<=(pq qs i).1/\(pq qs i).1.toNat < m2.toNat/\0<=(pq qs i).2/\(pq qs i).2.toNat < m2.toNat:=by
 have:=g.tie _ (pP h);omega
abbrev mX(M:Int)(ps qs:Za):Bool:=decide (6 < M) || decide (8 < ps.length + qs.length)
abbrev DZ(M m1 m2:Int)(ps qs:Za)(f:Nat->Nat)(o4 o5:Option S):Env:=[some (.d (.int M)),some (.d (aJ m1 ps)),some (.d (aJ m2 qs)),some (.d (.lst (nl f m2.toNat))),o4,o5]
def zG(k:Nat)(g1:ax m1 ps)(g2:ax m2 qs)(z:Z)(hE:mX M ps qs=true->E 8 z)(hQ:mX M ps qs=false->Q (.d (outD M (rws f ps qs))) z):W (aA T (k + 6) fM [.d (.int M),.d (aJ m1 ps),.d (aJ m2 qs),.d (.lst (nl f m2.toNat))]) z Q E:=by
 have h8:=g1.len;have h8':=g2.len;refine bI (ps:=4) (ns:=6) (b:=dN) rfl rfl 1e1 ?_
 refine(cu (.fr (((Ö ps.length).map λi=>((pq ps i,0,i):Q3)).map qD)) (DZ M m1 m2 ps qs f (some (.fr (((Ö ps.length).map λi=>((pq ps i,0,i):Q3)).map qD))) none) ?_ ?_ ?_ :)
 ·refine ip (by show(d7 (ps.map pr) 0).length<=most;rw[dq,Ä,ï];exact bO ∅) ?_
  refine fI e0 (λx hx=>?_) ?_
  ·rw[dq] at hx;obtain⟨i,_,rfl⟩:=Ç.mp hx;exact⟨rfl,rfl⟩
  ·rw[dq,Ó,Ó];exact⟨rfl,rfl⟩
 ·rw[bg (show bM (.fr (((Ö ps.length).map λi=>((pq ps i,0,i):Q3)).map qD))=true from tK _)];rfl
 refine(cu (.fr ((rws f ps qs).map qD)) (DZ M m1 m2 ps qs f (some (.fr ((rws f ps qs).map qD))) none) ?_ ?_ ?_ :)
 ·refine ip (by show(d7 (qs.map pr) 0).length<=most;rw[dq,Ä,ï];exact bO ∅) ?_
  refine fI (λx=>qD (mm f (pq qs (DY x)),1,DY x)) (λx hx=>?_) ?_
  ·rw[dq] at hx;obtain⟨i,hi,rfl⟩:=Ç.mp hx;have hi:=Î.mp hi;obtain⟨j1,j2,j3,j4⟩:=g2.lo hi;have eo:DY (.tup [aj i,pr (pq qs i)])=i:=ä i;refine Wo (mP (k + 1) j1 j2 j3 j4 z) ⟨?_,rfl⟩;rw[eo];rfl
  ·rw[dq];refine(ae (Kn (a:=((Ö ps.length).map λi=>((pq ps i,0,i):Q3)).map qD) (b:=((Ö qs.length).map λi=>D.tup [aj i,pr (pq qs i)]).map λx=>qD (mm f (pq qs (DY x)),1,DY x)) (by simp only[Ä,ï];omega)) ?_ :)
   refine⟨?_,rfl⟩;unfold rws;simp only[QT,Ó];rfl
 ·rw[bg (show bM (.fr ((rws f ps qs).map qD))=true from tK _)];rfl
 have rl:((rws f ps qs).map qD).length=ps.length + qs.length:=by rw[Ä,iK]
 have rest:mX M ps qs=false->WS (fD T (k + 3 + 2)) z.isNone (Kp (Kp (Kp dN))) (DZ M m1 m2 ps qs f (some (.fr ((rws f ps qs).map qD))) none) z (λo z1=>match o with
  |.nx _=>Q (.d .bp) (cW z z1)
  |.rt s=>Q s (cW z z1)) λc z1=>E c (cW z z1):=λhb=>by
  refine(cu (.fr (a7 ((rws f ps qs).map qD))) (DZ M m1 m2 ps qs f (some (.fr (a7 ((rws f ps qs).map qD)))) none) ?_ ?_ ?_ :)
  ·refine(ae (DX (l:=rws f ps qs) (by rw[iK];omega)) ?_ :)
   exact⟨rfl,rfl⟩
  ·rw[bg (show bM (.fr (a7 ((rws f ps qs).map qD)))=true from vZ.2.2)];rfl
  refine(cu (.d (.tup [.int M,.tup ((a7 ((rws f ps qs).map qD)).map f3)])) (DZ M m1 m2 ps qs f (some (.fr (a7 ((rws f ps qs).map qD)))) (some (.d (.tup [.int M,.tup ((a7 ((rws f ps qs).map qD)).map f3)])))) ?_ ?_ ?_ :)
  ·refine ip (by rw[zD,iK];exact bO ∅) (fI f3 (λx hx=>?_) ?_)
   ·obtain⟨t,rfl⟩:=tL hx;exact⟨rfl,rfl⟩
   ·exact⟨rfl,rfl⟩
  ·rw[bg (show bM (.d (.tup [.int M,.tup ((a7 ((rws f ps qs).map qD)).map f3)]))=true from by show(true&&(bo _&&true))=true;rw[vZ.1];rfl)];rfl
  refine ip (by rw[zD,iK];exact bO ∅) (fI g3 (λx hx=>?_) ?_)
  ·obtain⟨t,rfl⟩:=tL hx;exact⟨rfl,rfl⟩
  ·show Q _ (cW z z);rw[bD];exact hQ hb
 refine ib (b:=decide (6 < M)) (λh=>?_) λh=>?_
 ·show E 8 (cW z z);rw[bD];exact hE (by unfold mX;rw[h];rfl)
 ·refine ib (b:=decide ((8:Int) < (((rws f ps qs).map qD).length:Int))) (λh2=>?_) λh2=>?_
  ·show E 8 (cW z z);rw[bD];refine hE ?_;have h2:=of_decide_eq_true h2;rw[rl] at h2;unfold mX;rw[h,decide_eq_true ∅];rfl
  ·refine rest ?_;have h2:=of_decide_eq_false h2;rw[rl] at h2;unfold mX;rw[h,decide_eq_false ∅];rfl
end
def fY(k:Nat)(z:Z)(h:aT x m=true):aA T (k + 5) eM [.d (.tup [.int m,t]),.d x] z=some (.ok (.d .bp) z):=
 W.ok (bI (ps:=2) (ns:=2) (b:=gE) rfl rfl 1e1 (Wo (eR k x m z) (ie (b:=!aT x m) (by rw[h];rfl) (sd rfl))))
def x8{n:Nat}{m:Int}(h:(n:Int) < m):aT (.int n) m=true:=by
 show(decide (0<=(n:Int))&&decide ((n:Int) < m))=true;rw[decide_eq_true ∅,decide_eq_true h];rfl
abbrev Kq(m1:Int):Nat->Nat:=λi=>m1.toNat + i
abbrev qo(m1:Int)(p t:Nat):Nat->Nat:=λi=>if i=t then p else m1.toNat + (if t < i then i - 1 else i)
def Kr{m1:Int}{p t M:Nat}(h:t < M):oi (nl (λi=>m1.toNat + (if t < i then i - 1 else i)) M) (t:Int) (aj p)=some (nl (qo m1 p t) M):=by
 have hl:(nl (λi=>m1.toNat + (if t < i then i - 1 else i)) M).length=M:=by rw[Ä,ï]
 have hx:L2.En (nl (λi=>m1.toNat + (if t < i then i - 1 else i)) M).length (t:Int)=some t:=by
  rw[hl];unfold L2.En;simp;omega
 unfold oi;rw[hx];refine congrArg some (TV (by rw[QE,Ä,Ä]) λi h1 h2=>?_)
 rw[List.getElem_set];split
 ·rename_i e;subst e;rw[V0,Ua];show aj p=aj (if t=t then p else _);rw[if_pos rfl]
 ·rename_i e;simp only[V0,Ua];show _=aj (if i=t then p else _);rw[if_neg (c:=i=t) (λh=>e h.symm)]
def D0{M:Nat}:bo (nl f M)=true:=by
 have:∀ l:Zh,bo (l.map λi=>aj (f i))=true:=by
  intro l
  induction l with
  |nil=>rfl|cons a r ih=>exact ih
 exact this _
section
variable {m1 m2:Int}{ps qs:Za}
def x9(k:Nat)(g1:ax m1 ps)(g2:ax m2 qs)(z:Z)(hE:mX (m1 + m2) ps qs=true->E 8 z)(hQ:mX (m1 + m2) ps qs=false->Q (.d (outD (m1 + m2) (rws (Kq m1) ps qs))) z):W (aA T (k + 9) vF [.d (aJ m1 ps),.d (aJ m2 qs)]) z Q E:=by
 have a1:=g1.m1;have a2:=g2.m1;have a6:=g2.m6;refine bI (ps:=2) (ns:=3) (b:=ph) rfl rfl 1e1 (Wo (cN k z g1.DI) (Wo (cN k z g2.DI) ?_))
 refine(ae (gq (m:=m2) ∅ ∅) ?_ :)
 refine ip (by rw[Ä,ï];exact bO ∅) (fI (λx=>match x with | .int i=>aj (Kq m1 i.toNat) | x=>x) (λx hx=>?_) ?_)
 ·obtain⟨i,_,rfl⟩:=Ç.mp hx;refine⟨?_,rfl⟩;show D.int (m1 + (i:Int))=D.int ((m1.toNat + i:Nat):Int);rw[show((m1.toNat + i:Nat):Int)=m1 + i by omega]
 ·rw[Ó];refine(zG (k + 2) (f:=Kq m1) g1 g2 z (λh=>?_) λh=>?_ :)
  ·show E 8 (cW z z);rw[bD];exact hE h
  ·show Q _ (cW z z);rw[bD];exact hQ h
def D1(k:Nat)(g1:ax m1 ps)(g2:ax m2 qs){p t:Nat}(hp:(p:Int) < m1)(ht:(t:Int) < m2)(z:Z)(hE:mX (m1 + m2 - 1) ps qs=true->E 8 z)(hQ:mX (m1 + m2 - 1) ps qs=false->Q (.d (outD (m1 + m2 - 1) (rws (qo m1 p t) ps qs))) z):W (aA T (k + 9) DG [.d (aJ m1 ps),.d (aj p),.d (aJ m2 qs),.d (aj t)]) z Q E:=by
 have a1:=g1.m1;have a2:=g2.m1;have a6:=g2.m6;refine bI (ps:=4) (ns:=5) (b:=xQ) rfl rfl 1e1 (Wo (cN k z g1.DI) (Wo (cN k z g2.DI) (Wo (fY (k + 3) z (x8 hp)) (Wo (fY (k + 3) z (x8 ht)) ?_))))
 refine(ae (gq (m:=m2) ∅ ∅) ?_ :)
 refine ip (by rw[Ä,ï];exact bO ∅) (fI (λx=>match x with | .int i=>aj (m1.toNat + (if t < i.toNat then i.toNat - 1 else i.toNat)) | x=>x) (λx hx=>?_) ?_)
 ·obtain⟨i,_,rfl⟩:=Ç.mp hx;refine Wo (iM (k + 5) i t z) ⟨?_,rfl⟩;show D.int (m1 + ((if t < i then i - 1 else i:Nat):Int))=D.int ((m1.toNat + (if t < i then i - 1 else i):Nat):Int);rw[show((m1.toNat + (if t < i then i - 1 else i):Nat):Int)=m1 + ((if t < i then i - 1 else i:Nat):Int) by omega]
 ·rw[Ó];refine(ae (Kr (m1:=m1) (p:=p) (t:=t) (M:=m2.toNat) ∅) ?_ :)
  refine(zG (k + 2) (f:=qo m1 p t) g1 g2 z (λh=>?_) λh=>?_ :)
  ·show E 8 (cW z z);rw[bD];exact hE h
  ·show Q _ (cW z z);rw[bD];exact hQ h
end
section
variable {n1:Nat}{c:Nat->Int × Int}{a b:Zh->Bool}
abbrev lo1(n1:Nat)(h:Zh):Zh:=h.filter λx=>decide (x < n1)
abbrev D2(n1:Nat)(h:Zh):Zh:=(h.filter λx=>decide (n1<=x)).map λx=>x - n1
theorem tM{p:Zh->Bool}{f:Nat->Bool}:∀ ks h h':Zh,h.filter f=h'.filter f->aU (λl=>p (l.filter f)) c ks h=aU (λl=>p (l.filter f)) c ks h'
 |[],h,h',e=>by unfold aU;rw[e]
 |k::r,h,h',e=>by
  unfold aU;rw[tM r h h' e,tM r (k::h) (k::h') (by rw[Rc,Rc,e])]
theorem jB{p q:Zh->Bool}:∀ js ks h:Zh,(∀ j∈js,j < n1)->(∀ k∈ks,n1<=k) ->
 aU (λl=>p (l.filter λx=>decide (x < n1))&&q (l.filter λx=>decide (n1<=x))) c (js++ks) h=aU (λl=>p (l.filter λx=>decide (x < n1))) c js h * aU (λl=>q (l.filter λx=>decide (n1<=x))) c ks h
 |[],[],h,_,_=>by
  show(if (p (h.filter λx=>decide (x < n1))&&q (h.filter λx=>decide (n1<=x)))=true then(1:Int) else 0)=(if p (h.filter λx=>decide (x < n1))=true then(1:Int) else 0) * (if q (h.filter λx=>decide (n1<=x))=true then(1:Int) else 0);cases p (h.filter λx=>decide (x < n1)) <;> cases q (h.filter λx=>decide (n1<=x)) <;> rfl
 |[],k::r,h,hj,hk=>by
  have i1:=jB (p:=p) (q:=q) [] r (k::h) hj λx hx=>hk x (È _ hx);have i2:=jB (p:=p) (q:=q) [] r h hj λx hx=>hk x (È _ hx);have e:aU (λl=>p (l.filter λx=>decide (x < n1))) c [] (k::h)=aU (λl=>p (l.filter λx=>decide (x < n1))) c [] h:=tM [] _ _ (by rw[Rc,if_neg (by have:=hk k Ë;simp;omega)])
  rw[RN] at i1 i2 ⊢;show(c k).1 * aU _ c r (k::h) + ((c k).2 - (c k).1) * aU _ c r h=_ * ((c k).1 * aU _ c r (k::h) + ((c k).2 - (c k).1) * aU _ c r h);rw[i1,i2,e]
  grind
 |j::r,ks,h,hj,hk=>by
  have i1:=jB (p:=p) (q:=q) r ks (j::h) (λx hx=>hj x (È _ hx)) hk;have i2:=jB (p:=p) (q:=q) r ks h (λx hx=>hj x (È _ hx)) hk;have e:aU (λl=>q (l.filter λx=>decide (n1<=x))) c ks (j::h)=aU (λl=>q (l.filter λx=>decide (n1<=x))) c ks h:=tM ks _ _ (by rw[Rc,if_neg (by have:=hj j Ë;simp;omega)])
  show(c j).1 * aU _ c (r++ks) (j::h) + ((c j).2 - (c j).1) * aU _ c (r++ks) h=((c j).1 * aU _ c r (j::h) + ((c j).2 - (c j).1) * aU _ c r h) * _;rw[i1,i2,e]
  grind
end
section
variable {m1 m2:Int}{ps qs cs ds:Za}{f:Nat->Nat}{L:List Q3}
abbrev rE(n1:Nat)(t:Q3):Nat:=if t.2.1=0 then t.2.2 else n1 + t.2.2
abbrev cO(L:List Q3):Za:=L.map (·.1)
abbrev mY(cs ds:Za)(L:List Q3):Za:=L.map λt=>if t.2.1=0 then cf cs t.2.2 else cf ds t.2.2
abbrev tN(ps qs:Za)(L:List Q3)(j:Nat):Nat:=rE ps.length (L.getD j ((0,0),1,qs.length))
def me(hL:L.Perm (rws f ps qs))(h:t∈L):(∃ i,i < ps.length/\t=(pq ps i,0,i))\/∃ i,i < qs.length/\t=(mm f (pq qs i),1,i):=by
 have h:=hL.mem_iff.mp h;unfold rws at h;rcases ë.mp h with h | h
 ·obtain⟨i,hi,rfl⟩:=Ç.mp h;exact .inl ⟨i,Î.mp hi,rfl⟩
 ·obtain⟨i,hi,rfl⟩:=Ç.mp h;exact .inr ⟨i,Î.mp hi,rfl⟩
def codes(hL:L.Perm (rws f ps qs)):((Ö L.length).map (tN ps qs L)).Perm (Ö ps.length++(Ö qs.length).map λi=>ps.length + i):=by
 have e:(Ö L.length).map (tN ps qs L)=L.map (rE ps.length):=TV (by simp) λi h1 h2=>by
  have hi:i < L.length:=by simpa using h2
  simp[tN,Æ,Í hi]
 rw[e];refine(hL.map _).trans ?_;unfold rws;rw[QT,Ó,Ó];refine List.Perm.of_eq (congr (congrArg _ ?_) ?_)
 ·exact(QB λi _=>rfl).trans (Tg _)
 ·exact QB λi _=>rfl
def Hu(hL:L.Perm (rws f ps qs)):L.length=ps.length + qs.length:=by rw[hL.length_eq,iK]
abbrev cQ(n1:Nat)(cs ds:Za)(x:Nat):Int × Int:=if x < n1 then cf cs x else cf ds (x - n1)
def Hv(hL:L.Perm (rws f ps qs))(hd:ds.length=qs.length)(j:Nat):cf (mY cs ds L) j=cQ ps.length cs ds (tN ps qs L j):=by
 by_cases hj:j < L.length
 ·have e:L.getD j ((0,0),1,qs.length)=L[j]:=by rw[Æ,Í hj];rfl
  have e2:cf (mY cs ds L) j=if L[j].2.1=0 then cf cs L[j].2.2 else cf ds L[j].2.2:=by
   show(L.map _).getD j (0,1)=_;rw[Æ,Ø,Í hj];rfl
  rw[e2];unfold cQ tN rE;rw[e];rcases me hL (QD hj) with ⟨i,hi,h⟩ | ⟨i,hi,h⟩
  ·rw[h];show cf cs i=if (if (0:Nat)=0 then i else _) < ps.length then _ else _;rw[if_pos rfl,if_pos hi]
  ·rw[h];show cf ds i=if (if (1:Nat)=0 then i else ps.length + i) < ps.length then _ else _;rw[if_neg (c:=(1:Nat)=0) 1e1,if_neg ∅,Qx]
 ·have e:L.getD j ((0,0),1,qs.length)=((0,0),1,qs.length):=by rw[Æ,UA ∅];rfl
  have e2:cf (mY cs ds L) j=(0,1):=by
   show(L.map _).getD j (0,1)=_;rw[Æ,UA (by rw[Ä];omega)];rfl
  rw[e2];unfold cQ tN rE;rw[e];show _=if (if (1:Nat)=0 then _ else ps.length + qs.length) < ps.length then _ else _;rw[if_neg (c:=(1:Nat)=0) 1e1,if_neg ∅,Qx]
  show _=ds.getD qs.length (0,1);rw[Æ,UA ∅];rfl
def lz(hL:L.Perm (rws f ps qs))(hd:ds.length=qs.length)(sa:tG ps.length a)(sb:tG qs.length b)(hg:∀ aS:Zh,(∀ j∈aS,j < L.length)->good aS=(a (lo1 ps.length (aS.map (tN ps qs L)))&&b (D2 ps.length (aS.map (tN ps qs L))))) :
 aU good (cf (mY cs ds L)) (Ö L.length) []=aU a (cf cs) (Ö ps.length) [] * aU b (cf ds) (Ö qs.length) []:=by
 have hN:=Hu hL
 let q:Zh->Bool:=λl=>b (l.map λx=>x - ps.length)
 let g:Zh->Bool:=λl=>a (l.filter λx=>decide (x < ps.length))&&q (l.filter λx=>decide (ps.length<=x))
 have s1:aU good (cf (mY cs ds L)) (Ö L.length) []=aU g (cQ ps.length cs ds) ((Ö L.length).map (tN ps qs L)) []:=
  iJ (K:=L.length) (base:=[]) (λl hl=>by rw[hg l hl,Ri]) (Hv hL hd) _ [] (λj hj=>Î.mp hj) λ_ h=>nomatch h
 have sg:tG (ps.length + qs.length) g:=λu v hu hv e=>by
  show(a _&&b _)=(a _&&b _);rw[sa (lo1 ps.length u) (lo1 ps.length v) (λn hn=>of_decide_eq_true (æ.mp hn).2) (λn hn=>of_decide_eq_true (æ.mp hn).2) λn=>by rw[Uy,Uy,e n],
   sb (D2 ps.length u) (D2 ps.length v) (λn hn=>?_) (λn hn=>?_) λn=>?_]
  ·obtain⟨x,hx,rfl⟩:=Ç.mp hn;have h1:=hu x (æ.mp hx).1;have h2:=of_decide_eq_true (æ.mp hx).2;omega
  ·obtain⟨x,hx,rfl⟩:=Ç.mp hn;have h1:=hv x (æ.mp hx).1;have h2:=of_decide_eq_true (æ.mp hx).2;omega
  ·simp only[mem_map,Uy,e]
 have pm:=codes (qs:=qs) hL;have s2:=dP (c:=cQ ps.length cs ds) sg pm [] (λn hn=>by
  rcases ë.mp (pm.mem_iff.mp hn) with h | h
  ·have:=Î.mp h;omega
  ·obtain⟨i,hi,rfl⟩:=Ç.mp h;have:=Î.mp hi;omega) λ_ h=>nomatch h
 rw[s1,s2,jB (p:=a) (q:=q) _ _ [] (λj hj=>Î.mp hj) λk hk=>by
  obtain⟨i,_,rfl⟩:=Ç.mp hk;omega]
 have t1:aU (λl=>a (l.filter λx=>decide (x < ps.length))) (cQ ps.length cs ds) (Ö ps.length) []=aU a (cf cs) (Ö ps.length) []:=by
  rw[fu (c':=cf cs) _ [] λn hn=>by unfold cQ;rw[if_pos (Î.mp hn)]]
  have:=iJ (g':=λl=>a (l.filter λx=>decide (x < ps.length))) (g:=a) (c':=cf cs) (c:=cf cs) (old:=λx=>x) (base:=[]) (K:=ps.length) (λl hl=>by rw[Tg,Ri,Si.mpr λx hx=>decide_eq_true (hl x hx)]) (λ_=>rfl) (Ö ps.length) [] (λj hj=>Î.mp hj) λ_ h=>nomatch h
  rw[this,Tg];rfl
 have t2:aU b (cf ds) (Ö qs.length) []=aU (λl=>q (l.filter λx=>decide (ps.length<=x))) (cQ ps.length cs ds) ((Ö qs.length).map λi=>ps.length + i) []:=
  iJ (base:=[]) (K:=qs.length) (λl hl=>by
   rw[Ri,Si.mpr λx hx=>by
    obtain⟨i,_,rfl⟩:=Ç.mp hx;exact decide_eq_true ∅]
   show b l=b ((l.map λi=>ps.length + i).map λx=>x - ps.length);rw[Ó,show((λx=>x - ps.length) ∘ λi=>ps.length + i)=(λx:Nat=>x) from funext λx=>Qx ..,Tg]) (λj=>by
   show cf ds j=if ps.length + j < ps.length then _ else _;rw[if_neg ∅,Qx]) _ [] (λj hj=>Î.mp hj) λ_ h=>nomatch h
 rw[t1,t2]
def mf(hL:L.Perm (rws f ps qs))(hd:ds.length=qs.length):cH (cf (mY cs ds L)) (Ö L.length)=cH (cf cs) (Ö ps.length) * cH (cf ds) (Ö qs.length):=by
 rw[jA (Hv hL hd),eH (codes (qs:=qs) hL),vY];refine congr (congrArg _ ?_) ?_
 ·exact kD λn hn=>by unfold cQ;rw[if_pos (Î.mp hn)]
 ·refine(jA (c':=cf ds) (c:=cQ ps.length cs ds) (old:=λi=>ps.length + i) (λj=>?_) _).symm;show cf ds j=if ps.length + j < ps.length then _ else _;rw[if_neg ∅,Qx]
end
def qk(t:Q3):Zi:=[t.1.1,t.1.2,(t.2.1:Int),(t.2.2:Int)]
def qp(k:Q3):List Q3->List Q3
 |[]=>[k]|y::r=>if MySort.aW (qk y) (qk k) then y::qp k r else k::y::r
def eU:List Q3->List Q3
 |[]=>[]|k::r=>qp k (eU r)
theorem rF(k:Q3):∀ l,(qp k l).Perm (k::l)
 |[]=>.refl _
 |y::r=>by
  unfold qp;split
  ·exact((rF k r).cons y).trans (.swap _ _ _)
  ·exact .refl _
theorem bt:∀ l,(eU l).Perm l
 |[]=>.refl _|k::r=>(rF k _).trans ((bt r).cons k)
theorem D3(k:Q3):∀ l:List Q3,kL (qD k) (l.map qD)=(qp k l).map qD
 |[]=>rfl
 |y::r=>by
  unfold qp;show(if MySort.aW (qk y) (qk k) then qD y::kL (qD k) (r.map qD) else qD k::qD y::r.map qD)=_;split
  ·rw[D3 k r];rfl
  ·rfl
theorem tO:∀ l:List Q3,a7 (l.map qD)=(eU l).map qD
 |[]=>rfl
 |k::r=>by
  show kL (qD k) (a7 (r.map qD))=_;rw[tO r,D3];rfl
def lB:MySort.aW (a::l) (b::r)=true↔a < b\/(a=b/\MySort.aW l r=true):=by
 show(if a=b then MySort.aW l r else decide (a < b))=true↔_;by_cases h:a=b
 ·rw[if_pos h];exact⟨λx=>.inr ⟨h,x⟩,λx=>x.elim (λy=>absurd h (Int.ne_of_lt y)) (·.2)⟩
 ·rw[if_neg h,decide_eq_true_eq];exact⟨.inl,λx=>x.elim (λy=>y) λy=>absurd y.1 h⟩
def zH:MySort.aW (qk p) (qk q)=true↔p.1.1 < q.1.1\/(p.1.1=q.1.1/\(p.1.2 < q.1.2\/(p.1.2=q.1.2/\((p.2.1:Int) < q.2.1\/((p.2.1:Int)=q.2.1/\((p.2.2:Int) < q.2.2\/((p.2.2:Int)=q.2.2/\MySort.aW [] []=true))))))):=by
 unfold qk;rw[lB,lB,lB,lB]
def Hw(h:MySort.aW (qk p) (qk q)=true):HT.leB (ky p.1) (ky q.1)=true:=jz.mpr ((zH.mp h).imp_right λx=>⟨x.1,x.2.elim QI λy=>Int.le_of_eq y.1⟩)
def Hx(h:¬ MySort.aW (qk p) (qk q)=true):HT.leB (ky q.1) (ky p.1)=true:=by
 rw[jz];have h1:¬ p.1.1 < q.1.1:=λx=>h (zH.mpr (.inl x));have h2:¬ (p.1.1=q.1.1/\p.1.2 < q.1.2):=λx=>h (zH.mpr (.inr ⟨x.1,.inl x.2⟩));clear h;omega
theorem zI(k:Q3):∀ l:List Q3,Ch (l.map (·.1))->Ch ((qp k l).map (·.1))
 |[],_=>trivial
 |[y],_=>by
  unfold qp;split
  ·rename_i h;exact⟨Hw h,trivial⟩
  ·rename_i h;exact⟨Hx h,trivial⟩
 |y::x::r,h=>by
  obtain⟨h1,h2⟩:=h;have ih:=zI k (x::r) h2;unfold qp;split
  ·rename_i hy;unfold qp at ih ⊢;split at ih
   ·rename_i hx;rw[if_pos hx];exact⟨h1,ih⟩
   ·rename_i hx;rw[if_neg hx];exact⟨Hw hy,ih⟩
  ·rename_i hy;exact⟨Hx hy,h1,h2⟩
theorem pQ:∀ l:List Q3,Ch ((eU l).map (·.1))
 |[]=>trivial|k::r=>zI k _ (pQ r)
section
variable {m1 m2 M:Int}{ps qs cs ds:Za}{f:Nat->Nat}{L:List Q3}
def iN(hL:L.Perm (rws f ps qs)){aS:Zh}(hl:∀ j∈aS,j < L.length)(F:Nat->Int):(∀ n∈aS,F (tA (cO L) n)=F (tB (cO L) n)) ↔
 (∀ i∈lo1 ps.length (aS.map (tN ps qs L)),F (tA ps i)=F (tB ps i))/\∀ i∈D2 ps.length (aS.map (tN ps qs L)),F (f (tA qs i))=F (f (tB qs i)):=by
 have key:∀ n,n < L.length->(∃ i,i < ps.length/\tN ps qs L n=i/\tA (cO L) n=tA ps i/\tB (cO L) n=tB ps i) \/
   ∃ i,i < qs.length/\tN ps qs L n=ps.length + i/\tA (cO L) n=min (f (tA qs i)) (f (tB qs i))/\tB (cO L) n=max (f (tA qs i)) (f (tB qs i)):=λn hn=>by
  have e:L.getD n ((0,0),1,qs.length)=L[n]:=by rw[Æ,Í hn];rfl
  have e2:(cO L).getD n (0,0)=L[n].1:=by rw[Æ,Ø,Í hn];rfl
  rcases me hL (QD hn) with ⟨i,hi,h⟩ | ⟨i,hi,h⟩
  ·refine .inl ⟨i,hi,?_,?_,?_⟩
   ·show rE ps.length (L.getD n _)=i;rw[e,h];exact if_pos rfl
   ·show((cO L).getD n (0,0)).1.toNat=_;rw[e2,h]
   ·show((cO L).getD n (0,0)).2.toNat=_;rw[e2,h]
  ·refine .inr ⟨i,hi,?_,?_,?_⟩
   ·show rE ps.length (L.getD n _)=_;rw[e,h];exact if_neg (show ¬ (1:Nat)=0 by decide)
   ·show((cO L).getD n (0,0)).1.toNat=_;rw[e2,h];exact ä _
   ·show((cO L).getD n (0,0)).2.toNat=_;rw[e2,h];exact ä _
 have mmF:∀ x y:Nat,F (min x y)=F (max x y)↔F x=F y:=λx y=>by
  rcases Vs x y with h | h
  ·rw[SE h,Tf h]
  ·rw[Ux h,V6 h];exact eq_comm
 constructor
 ·refine λh=>⟨λi hi=>?_,λi hi=>?_⟩
  ·obtain⟨h1,h2⟩:=æ.mp hi;obtain⟨n,hn,e⟩:=Ç.mp h1;have h2:=of_decide_eq_true h2;rcases key n (hl n hn) with ⟨i',k1,k2,k3,k4⟩ | ⟨i',k1,k2,k3,k4⟩
   ·have:i=i':=∅
    subst this;rw[← k3,← k4];exact h n hn
   ·omega
  ·obtain⟨x,hx,rfl⟩:=Ç.mp hi;obtain⟨h1,h2⟩:=æ.mp hx;obtain⟨n,hn,e⟩:=Ç.mp h1;have h2:=of_decide_eq_true h2;rcases key n (hl n hn) with ⟨i',k1,k2,k3,k4⟩ | ⟨i',k1,k2,k3,k4⟩
   ·omega
   ·have:x - ps.length=i':=∅
    rw[this,← mmF,← k3,← k4];exact h n hn
 ·rintro ⟨h1,h2⟩ n hn;rcases key n (hl n hn) with ⟨i,k1,k2,k3,k4⟩ | ⟨i,k1,k2,k3,k4⟩
  ·rw[k3,k4];exact h1 i (æ.mpr ⟨Ç.mpr ⟨n,hn,k2⟩,decide_eq_true k1⟩)
  ·rw[k3,k4,mmF];exact h2 i (Ç.mpr ⟨ps.length + i,æ.mpr ⟨Ç.mpr ⟨n,hn,k2⟩,decide_eq_true ∅⟩,Qx ..⟩)
def wa{aS:Zh}:∀ i∈lo1 ps.length (aS.map (tN ps qs L)),i < ps.length:=λi hi=>of_decide_eq_true (æ.mp hi).2
def D4(hL:L.Perm (rws f ps qs)){aS:Zh}(hl:∀ j∈aS,j < L.length):∀ i∈D2 ps.length (aS.map (tN ps qs L)),i < qs.length:=λi hi=>by
 obtain⟨x,hx,rfl⟩:=Ç.mp hi;obtain⟨h1,h2⟩:=æ.mp hx;have h2:=of_decide_eq_true h2;obtain⟨n,hn,rfl⟩:=Ç.mp h1;have:=(codes (qs:=qs) hL).mem_iff.mp (Ç.mpr ⟨n,Î.mpr (hl n hn),rfl⟩);rcases ë.mp this with h | h
 ·have:=Î.mp h;omega
 ·obtain⟨i,hi,e⟩:=Ç.mp h;have:=Î.mp hi;omega
def Nc{a b:Nat}{M:Int}(ne:a≠b)(ha:(a:Int) < M)(hb:(b:Int) < M):0<=((min a b:Nat):Int)/\((min a b:Nat):Int) < ((max a b:Nat):Int)/\((max a b:Nat):Int) < M:=∅
def ax.rows(hL:L.Perm (rws f ps qs))(ch:Ch (cO L))(g1:ax m1 ps)(g2:ax m2 qs)(hM:m1<=M)(h6:M<=6)(h8:ps.length + qs.length<=8)(hf:∀ i:Nat,(i:Int) < m2->(f i:Int) < M)(inj:∀ i j:Nat,(i:Int) < m2->(j:Int) < m2->f i=f j->i=j):ax M (cO L):=
 ⟨by have:=g1.m1;omega,h6,by rw[Ä,Hu hL];exact h8,λp hp=>by
  obtain⟨t,ht,rfl⟩:=Ç.mp hp;rcases me hL ht with ⟨i,hi,rfl⟩ | ⟨i,hi,rfl⟩
  ·have:=g1.tie _ (pP hi);show 0<=(pq ps i).1/\(pq ps i).1 < (pq ps i).2/\(pq ps i).2 < M;omega
  ·have:=g2.tie _ (pP hi);obtain⟨h1,h2,h3⟩:=this;have e1:=XU h1;have e2:=XU (Q6 h1 (QI h2));exact Nc (λe=>Int.ne_of_lt h2 (by rw[← e1,← e2,inj _ _ (by rw[e1];exact Int.lt_trans h2 h3) (by rw[e2];exact h3) e])) (hf _ (by rw[e1];exact Int.lt_trans h2 h3)) (hf _ (by rw[e2];exact h3)),ch⟩
end
def hJ(hk:0 < k)(hb:0 < b):aI (k * t) (k * b)=aI t b:=by
 have hg:((gcd (k * t) (k * b):Nat):Int)=k * (gcd t b:Nat):=by
  rw[Int.gcd_mul_left,Int.natCast_mul,Int.natAbs_of_nonneg (QI hk)]
 unfold aI;rw[hg,WU _ _ hk,WU _ _ hk]
def A4(hb:0 < b)(hd:0 < d):aI (t * u) (b * d)=aI ((aI t b).1 * (aI u d).1) ((aI t b).2 * (aI u d).2):=by
 obtain⟨e1,e2⟩:=jM (t:=t) hb;obtain⟨e3,e4⟩:=jM (t:=u) hd;have g1:=eO (t:=t) hb;have g2:=eO (t:=u) hd;have p1:=jN (t:=t) hb;have p2:=jN (t:=u) hd;have k1:t * u=((gcd t b:Nat) * (gcd u d:Nat):Int) * ((aI t b).1 * (aI u d).1):=by
  refine XW (b:=((gcd t b:Nat):Int) * (aI t b).1 * (((gcd u d:Nat):Int) * (aI u d).1)) (by rw[← e1,← e3]) (by grind)
 have k2:b * d=((gcd t b:Nat) * (gcd u d:Nat):Int) * ((aI t b).2 * (aI u d).2):=by
  refine XW (b:=((gcd t b:Nat):Int) * (aI t b).2 * (((gcd u d:Nat):Int) * (aI u d).2)) (by rw[← e2,← e4]) (by grind)
 rw[k1,k2,hJ (SK g1 g2) (SK p1 p2)]
theorem lC:∀ ns h:Zh,aU (λ_=>true) c ns h=cH c ns
 |[],_=>rfl
 |n::r,h=>by
  unfold aU;rw[lC r,lC r,a9]
  grind
theorem mh:∀ ns h:Zh,aU (λ_=>false) c ns h=0
 |[],_=>rfl
 |n::r,h=>by
  unfold aU;rw[mh r,mh r]
  grind
def zJ:tG N λ_=>b:=λ_ _ _ _ _=>rfl
def dB(h:1<=m):bU m (Ö m.toNat):=⟨λe=>by
 have:=congrArg List.length e;rw[ï] at this;have:m.toNat=0:=this;omega,RH,λp hp=>by have:=Î.mp hp;omega⟩
def eI(hr:∀ n < ps.length,tA ps n < m/\tB ps n < m)(hl:∀ n∈aS,n < ps.length)(hk:k<=m):ay ps m (Ö k) aS=true↔∀ F:Nat->Int,(∀ n∈aS,F (tA ps n)=F (tB ps n))->∀ x < k,F x=F 0:=by
 rw[fX hr (λp hp=>Þ (Î.mp hp) hk) hl];have e:∀ x,x < k->(Ö k).getD 0 0=0:=λx hx=>by
  rw[Æ,Sh ∅];rfl
 constructor
 ·intro h F hF x hx;rw[h F hF x (Î.mpr hx),e x hx]
 ·intro h F hF p hp;have hp:=Î.mp hp;rw[h F hF p hp,e p hp]
section
variable {m1 m2:Int}{ps qs cs ds:Za}{L:List Q3}
def tP(h:p < m1.toNat):(if qo m1 p t i < m1.toNat then t else(if qo m1 p t i - m1.toNat < t then qo m1 p t i - m1.toNat else qo m1 p t i - m1.toNat + 1))=i:=by
 unfold qo;by_cases e:i=t
 ·rw[if_pos e,if_pos h,e]
 ·rw[if_neg e,if_neg (Ye.mpr (RY _ _)),Qx];clear h;split <;> split <;> omega
def Hy{p t i:Nat}(a1:1<=m1)(hp:(p:Int) < m1)(ht:(t:Int) < m2)(hi:i < m2.toNat):qo m1 p t i < (m1 + m2 - 1).toNat:=by
 unfold qo;split
 ·omega
 ·split <;> omega
def Nf(hx:m1.toNat<=x):qo m1 p t (if x - m1.toNat < t then x - m1.toNat else x - m1.toNat + 1)=x:=by
 unfold qo;generalize m1.toNat=a at hx;by_cases e2:x - a < t
 ·rw[if_pos e2,if_neg ∅,if_neg ∅];omega
 ·rw[if_neg e2,if_neg ∅,if_pos ∅];omega
section
variable {p t:Nat} (hL:L.Perm (rws (qo m1 p t) ps qs)) (g1:ax m1 ps) (g2:ax m2 qs) (hp:(p:Int) < m1) (ht:(t:Int) < m2) (gM:ax (m1 + m2 - 1) (cO L))
include hL g1 g2 hp ht gM
def wb(hl:∀ j∈aS,j < L.length):ay (cO L) (m1 + m2 - 1).toNat (Ö m1.toNat) aS=ay ps m1.toNat (Ö m1.toNat) (lo1 ps.length (aS.map (tN ps qs L))):=by
 have a1:=g1.m1;have b1:=g2.m1;rw[Q8,eI gM.pI (by rw[Ä];exact hl) ∅,eI g1.pI wa (Ñ _)]
 constructor
 ·intro h F hF x hx;have:=h (λx=>if x < m1.toNat then F x else F p) ((iN hL hl (λx=>if x < m1.toNat then F x else F p)).mpr ⟨λi hi=>?_,λi hi=>?_⟩) x hx
  ·show F x=F 0;rw[if_pos hx,if_pos ∅] at this
   exact this
  ·obtain⟨r1,r2⟩:=g1.pI i (wa i hi);rw[if_pos r1,if_pos r2];exact hF i hi
  ·have:∀ i:Nat,(if qo m1 p t i < m1.toNat then F (qo m1 p t i) else F p)=F p:=λi=>by
    unfold qo;by_cases e:i=t
    ·rw[if_pos e,if_pos ∅]
    ·rw[if_neg e,if_neg ∅]
   rw[this,this]
 ·intro h F hF x hx;exact h F ((iN hL hl F).mp hF).1 x hx
def A5(hl:∀ j∈aS,j < L.length):ay (cO L) (m1 + m2 - 1).toNat (Ö (m1 + m2 - 1).toNat) aS=(ay ps m1.toNat (Ö m1.toNat) (lo1 ps.length (aS.map (tN ps qs L)))&&ay qs m2.toNat (Ö m2.toNat) (D2 ps.length (aS.map (tN ps qs L)))):=by
 have a1:=g1.m1;have b1:=g2.m1;rw[← wb hL g1 g2 hp ht gM hl,Q8,Á,eI gM.pI (by rw[Ä];exact hl) (Ñ _),eI gM.pI (by rw[Ä];exact hl) ∅,eI g2.pI (D4 hL hl) (Ñ _)]
 have h1:p < m1.toNat:=RG.mpr hp;have back:=λi:Nat=>tP (i:=i) (t:=t) h1;have lt:=λ(i:Nat) (hi:i < m2.toNat)=>Hy a1 hp ht hi;constructor
 ·intro h;refine⟨λF hF x hx=>h F hF x ∅,λF hF x hx=>?_⟩
  have:=h (λy=>F (if y < m1.toNat then t else(if y - m1.toNat < t then y - m1.toNat else y - m1.toNat + 1))) ((iN hL hl (λy=>F (if y < m1.toNat then t else(if y - m1.toNat < t then y - m1.toNat else y - m1.toNat + 1)))).mpr ⟨λi hi=>?_,λi hi=>?_⟩)
  ·have e1:=this _ (lt x hx);have e2:=this _ (lt 0 ∅)
   rw[back x] at e1;rw[back 0] at e2;rw[e1,e2]
  ·obtain⟨r1,r2⟩:=g1.pI i (wa i hi);rw[if_pos r1,if_pos r2]
  ·obtain⟨r1,r2⟩:=g2.pI i (D4 hL hl i hi);rw[back _,back _];exact hF i hi
 ·rintro ⟨h1,h2⟩ F hF x hx;by_cases hx1:x < m1.toNat
  ·exact h1 F hF x hx1
  ·have k:=h2 (λi=>F (qo m1 p t i)) ((iN hL hl F).mp hF).2;have kt:=k t ∅
   have e:=Nf (m1:=m1) (p:=p) (t:=t) (x:=x) ∅
   have kx:=k (if x - m1.toNat < t then x - m1.toNat else x - m1.toNat + 1) (by split <;> omega)
   rw[e] at kx;have ep:qo m1 p t t=p:=if_pos rfl;rw[ep] at kt;rw[kx,← kt];exact h1 F hF p ∅
def ya(hc:cs.length=ps.length)(hd:ds.length=qs.length)(hcs:∀ c∈cs,c8 c)(hds:∀ c∈ds,c8 c):bq (m1 + m2 - 1) (cO L) (mY cs ds L) (Ö (m1 + m2 - 1).toNat)=aI ((bq m1 ps cs (Ö m1.toNat)).1 * (bq m2 qs ds (Ö m2.toNat)).1) ((bq m1 ps cs (Ö m1.toNat)).2 * (bq m2 qs ds (Ö m2.toNat)).2):=by
 have a1:=g1.m1;have b1:=g2.m1;rw[bE gM (dB ∅) (by rw[Ä,Ä]),bE g1 (dB a1) hc,bE g2 (dB b1) hd,Ä,
  lz hL hd (eT g1 (dB a1)) (eT g2 (dB b1)) λaS hl=>A5 hL g1 g2 hp ht gM hl,mf hL hd]
 exact A4 (dR λn hn=>dQ hcs (by rw[hc];exact Î.mp hn)).1 (dR λn hn=>dQ hds (by rw[hd];exact Î.mp hn)).1
def wc(hc:cs.length=ps.length)(hd:ds.length=qs.length)(hcs:∀ c∈cs,c8 c)(hds:∀ c∈ds,c8 c):bq (m1 + m2 - 1) (cO L) (mY cs ds L) (Ö m1.toNat)=bq m1 ps cs (Ö m1.toNat):=by
 have a1:=g1.m1;have b1:=g2.m1;have gl:bU (m1 + m2 - 1) (Ö m1.toNat):=⟨(dB a1).ne,(dB a1).up,λp hp=>by have:=(dB a1).lt p hp;omega⟩
 rw[bE gM gl (by rw[Ä,Ä]),bE g1 (dB a1) hc,Ä,
  lz hL hd (eT g1 (dB a1)) (zJ (b:=true)) λaS hl=>by rw[wb hL g1 g2 hp ht gM hl,RL],mf hL hd,lC,Tt _ (cH (cf ds) _),Tt _ (cH (cf ds) _)]
 exact hJ (dR λn hn=>dQ hds (by rw[hd];exact Î.mp hn)).1 (dR λn hn=>dQ hcs (by rw[hc];exact Î.mp hn)).1
end
section
variable (hL:L.Perm (rws (Kq m1) ps qs)) (g1:ax m1 ps) (g2:ax m2 qs) (gM:ax (m1 + m2) (cO L))
include hL g1 g2 gM
def A6(hl:∀ j∈aS,j < L.length):ay (cO L) (m1 + m2).toNat (Ö (m1 + m2).toNat) aS=false:=by
 have a1:=g1.m1;have b1:=g2.m1;rw[← Bool.not_eq_true,eI gM.pI (by rw[Ä];exact hl) (Ñ _)]
 intro h;have:=h (λx=>if x < m1.toNat then 0 else 1) ((iN hL hl (λx=>if x < m1.toNat then 0 else 1)).mpr ⟨λi hi=>?_,λi hi=>?_⟩) m1.toNat ∅
 ·skip
  rw[if_neg ∅,if_pos ∅] at this
  cases this
 ·obtain⟨r1,r2⟩:=g1.pI i (wa i hi);rw[if_pos r1,if_pos r2]
 ·show(if m1.toNat + _ < m1.toNat then(0:Int) else 1)=if m1.toNat + _ < m1.toNat then 0 else 1;rw[if_neg ∅,if_neg ∅]
def tQ(hl:∀ j∈aS,j < L.length):ay (cO L) (m1 + m2).toNat ((Ö m2.toNat).map λi=>m1.toNat + i) aS=ay qs m2.toNat (Ö m2.toNat) (D2 ps.length (aS.map (tN ps qs L))):=by
 have a1:=g1.m1;have b1:=g2.m1;rw[Q8,fX gM.pI (λp hp=>by
  obtain⟨i,hi,rfl⟩:=Ç.mp hp;have:=Î.mp hi;omega) (by rw[Ä];exact hl),eI g2.pI (D4 hL hl) (Ñ _)]
 have e0:((Ö m2.toNat).map λi=>m1.toNat + i).getD 0 0=m1.toNat:=by
  rw[Æ,Ø,Sh ∅];rfl
 rw[e0];constructor
 ·intro h F hF x hx;have:=h (λy=>if y < m1.toNat then 0 else F (y - m1.toNat)) ((iN hL hl (λy=>if y < m1.toNat then 0 else F (y - m1.toNat))).mpr ⟨λi hi=>?_,λi hi=>?_⟩) (m1.toNat + x) (Ç.mpr ⟨x,Î.mpr hx,rfl⟩)
  ·skip
   rw[if_neg ∅,if_neg ∅,Qx,Nat.sub_self] at this
   exact this
  ·obtain⟨r1,r2⟩:=g1.pI i (wa i hi);rw[if_pos r1,if_pos r2]
  ·show(if m1.toNat + _ < m1.toNat then(0:Int) else F (m1.toNat + _ - m1.toNat))=if m1.toNat + _ < m1.toNat then 0 else F (m1.toNat + _ - m1.toNat);rw[if_neg ∅,if_neg ∅,Qx,Qx]
   exact hF i hi
 ·intro h F hF x hx;obtain⟨i,hi,rfl⟩:=Ç.mp hx;have:=h (λi=>F (m1.toNat + i)) ((iN hL hl F).mp hF).2 i (Î.mp hi);exact this
def tR(hd:ds.length=qs.length)(hcs:∀ c∈mY cs ds L,c8 c):bq (m1 + m2) (cO L) (mY cs ds L) (Ö (m1 + m2).toNat)=(0,1):=by
 have a1:=g1.m1;have b1:=g2.m1;rw[bE gM (dB ∅) (by rw[Ä,Ä]),Ä,
  lz hL hd (zJ (b:=false)) (zJ (b:=true)) λaS hl=>by rw[A6 hL g1 g2 gM hl];rfl,mh,Int.zero_mul]
 have hb:=(dR (c:=cf (mY cs ds L)) (ns:=Ö L.length) λn hn=>dQ hcs (by rw[Ä];exact Î.mp hn)).1
 have:=hJ (t:=0) (b:=1) hb 1e1
 rw[mul_zero,mul_one] at this;rw[this];rfl
def wd(hc:cs.length=ps.length)(hd:ds.length=qs.length)(hcs:∀ c∈cs,c8 c)(hds:∀ c∈ds,c8 c):bq (m1 + m2) (cO L) (mY cs ds L) ((Ö m2.toNat).map λi=>m1.toNat + i)=bq m2 qs ds (Ö m2.toNat):=by
 have a1:=g1.m1;have b1:=g2.m1;have gl:bU (m1 + m2) ((Ö m2.toNat).map λi=>m1.toNat + i):=⟨λe=>(dB b1).ne (UR.mp e),QF.mpr ((dB b1).up.imp λh=>by omega),λp hp=>by
  obtain⟨i,hi,rfl⟩:=Ç.mp hp;have:=Î.mp hi;omega⟩
 rw[bE gM gl (by rw[Ä,Ä]),bE g2 (dB b1) hd,Ä,
  lz hL hd (zJ (b:=true)) (eT g2 (dB b1)) λaS hl=>by rw[tQ hL g1 g2 gM hl,RK],mf hL hd,lC]
 exact hJ (dR λn hn=>dQ hcs (by rw[hc];exact Î.mp hn)).1 (dR λn hn=>dQ hds (by rw[hd];exact Î.mp hn)).1
end
end
def wg(hb:0 < b)(hB:0 < B)(e1:t0=s * TX + (b - s) * TY)(e2:b0=b * B)(e3:t1=(aI s b).1 * TX + ((aI s b).2 - (aI s b).1) * TY)(e4:b1=(aI s b).2 * B):aI t1 b1=aI t0 b0:=by
 obtain⟨k1,k2⟩:=jM (t:=s) hb;have g0:=eO (t:=s) hb;have p0:=jN (t:=s) hb;have q1:t0=((gcd s b:Nat):Int) * t1:=by
  rw[e1,e3];refine XW (b:=((gcd s b:Nat):Int) * (aI s b).1 * TX + (((gcd s b:Nat):Int) * (aI s b).2 - ((gcd s b:Nat):Int) * (aI s b).1) * TY) (by rw[← k1,← k2]) (by grind)
 have q2:b0=((gcd s b:Nat):Int) * b1:=by
  rw[e2,e4];refine XW (b:=((gcd s b:Nat):Int) * (aI s b).2 * B) (by rw[← k2]) (by grind)
 rw[q1,q2,hJ g0 (by rw[e4];exact SK p0 hB)]
section
variable {m:Int}{ps cs:Za}{pl:Zh}
def yb(g:ax m ps)(hp:bU m pl)(hc:cs.length=ps.length)(ha:∀ c∈cs,c8 c)(hn:n + 1 < ps.length)(ea:pf ps n=pf ps (n + 1))(hch:ch=aI ((cf cs n).2 * (cf cs (n + 1)).2 - ((cf cs n).2 - (cf cs n).1) * ((cf cs (n + 1)).2 - (cf cs (n + 1)).1)) ((cf cs n).2 * (cf cs (n + 1)).2)) :
 bq m (ps.eraseIdx (n + 1)) ((cs.set n ch).eraseIdx (n + 1)) pl=bq m ps cs pl:=by
 have g':=g.cut (n + 1);have hl':((cs.set n ch).eraseIdx (n + 1)).length=(ps.eraseIdx (n + 1)).length:=by
  rw[S8,S8,QE,hc]
 have hs:=eT g hp;have nl:∀ k∈([]:Zh),k < ps.length:=λ_ h=>nomatch h;have fn:frees ps.length [] []=Ö ps.length:=Si.mpr λ_ _=>rfl;have p1:=pL (K:=ps.length) (held:=[]) (lack:=[]) hn (λh=>(nomatch h)) (λh=>(nomatch h));have p2:=pL (K:=ps.length) (n:=n) (held:=[]) (lack:=[n + 1]) ∅ (λh=>by have:=Ú.mp h;omega) (λh=>(nomatch h))
 rw[fn,RN] at p1;have m1:∀ k∈frees ps.length [] [n + 1],k < ps.length:=λk hk=>(fq.mp hk).1;have m2:∀ k∈frees ps.length [] ([n + 1]++[n]),k < ps.length/\k≠n:=λk hk=>by
  obtain⟨h1,_,h3⟩:=fq.mp hk;exact⟨h1,λe=>h3 (by rw[e];simp)⟩
 have m2':=λk hk=>(m2 k hk).1;have l1:∀ k∈[n + 1],k < ps.length:=λk hk=>by rw[Ú.mp hk];exact hn
 have l0:∀ k∈[n],k < ps.length:=λk hk=>by rw[Ú.mp hk];omega
 have l2:∀ k∈[n,n + 1],k < ps.length:=λk hk=>by
  simp only[ü,p9,or_false] at hk;omega
 have x1:aU (ay ps m.toNat pl) (cf cs) (frees ps.length [] ([n + 1]++[n])) [n,n + 1]=aU (ay ps m.toNat pl) (cf cs) (frees ps.length [] ([n + 1]++[n])) [n + 1]:=
  ly (n:=n + 1) hs ∅ (λl hl h=>pO g hp ∅ ea hl h) _ [n + 1] m2' l1 (Ú.mpr rfl)
 have x2:aU (ay ps m.toNat pl) (cf cs) (frees ps.length [] ([n + 1]++[n])) [n + 1,n]=aU (ay ps m.toNat pl) (cf cs) (frees ps.length [] ([n + 1]++[n])) [n]:=
  ly (n:=n) hs hn (λl hl h=>pO g hp hn ea.symm hl h) _ [n] m2' l0 (Ú.mpr rfl)
 have x3:aU (ay ps m.toNat pl) (cf cs) (frees ps.length [] ([n + 1]++[n])) [n,n + 1]=aU (ay ps m.toNat pl) (cf cs) (frees ps.length [] ([n + 1]++[n])) [n + 1,n]:=
  gY hs _ _ _ m2' l2 (λk hk=>l2 k (by simp only[ü,p9,or_false] at hk ⊢;omega)) λk=>by simp only[ü,p9,or_false];omega
 have ci:∀ k,k < ps.length->c8 (cf cs k):=λk hk=>dQ ha (by rw[hc];exact hk)
 have c1:=ci n ∅
 have c2:=ci (n + 1) hn;have hb:0 < (cf cs n).2 * (cf cs (n + 1)).2:=SK (by have:=c1.1;omega) (by have:=c2.1;omega)
 have hB:=(dR λk hk=>ci k (m2' k hk)).1;have o1:aU (ay ps m.toNat pl) (cf cs) (Ö ps.length) []=(cf cs (n + 1)).1 * ((cf cs n).1 * aU (ay ps m.toNat pl) (cf cs) (frees ps.length [] ([n + 1]++[n])) [n,n + 1] + ((cf cs n).2 - (cf cs n).1) * aU (ay ps m.toNat pl) (cf cs) (frees ps.length [] ([n + 1]++[n])) [n + 1]) + ((cf cs (n + 1)).2 - (cf cs (n + 1)).1) * ((cf cs n).1 * aU (ay ps m.toNat pl) (cf cs) (frees ps.length [] ([n + 1]++[n])) [n] + ((cf cs n).2 - (cf cs n).1) * aU (ay ps m.toNat pl) (cf cs) (frees ps.length [] ([n + 1]++[n])) []):=by
  rw[dP hs p1 [] (λk hk=>Î.mp hk) nl];show(cf cs (n + 1)).1 * aU _ _ (frees ps.length [] [n + 1]) [n + 1] + ((cf cs (n + 1)).2 - (cf cs (n + 1)).1) * aU _ _ (frees ps.length [] [n + 1]) []=_;rw[dP hs p2 [n + 1] m1 l1,dP hs p2 [] m1 nl];rfl
 have o2:cH (cf cs) (Ö ps.length)=(cf cs (n + 1)).2 * ((cf cs n).2 * cH (cf cs) (frees ps.length [] ([n + 1]++[n]))):=by
  rw[eH p1,a9,eH p2,a9]
 have e1:∀ k∈frees ps.length [] ([n + 1]++[n]),cf (cs.set n ch) k=cf cs k:=λk hk=>by
  rw[cf,cf,Æ,Æ,ñ λe=>(m2 k hk).2 e.symm]
 have e2:cf (cs.set n ch) n=ch:=by
  rw[cf,Æ,ô ∅];rfl
 have ec:∀ j,cf ((cs.set n ch).eraseIdx (n + 1)) j=cf (cs.set n ch) (if j < n + 1 then j else j + 1):=λj=>tJ;have pm:=A3 (ps:=ps) hn;have t1:=iJ (g:=ay ps m.toNat pl) (g':=ay (ps.eraseIdx (n + 1)) m.toNat pl) (c:=cf (cs.set n ch)) (c':=cf ((cs.set n ch).eraseIdx (n + 1))) (old:=λj=>if j < n + 1 then j else j + 1) (base:=[]) (K:=(ps.eraseIdx (n + 1)).length) (λl hl=>DT g hp hn hl) ec (Ö (ps.eraseIdx (n + 1)).length) [] (λj hj=>Î.mp hj) (λ_ h=>nomatch h);have t2:=jA (c:=cf (cs.set n ch)) (c':=cf ((cs.set n ch).eraseIdx (n + 1))) (old:=λj=>if j < n + 1 then j else j + 1) ec (Ö (ps.eraseIdx (n + 1)).length);rw[VD,RN,dP hs pm [] (λk hk=>m1 k (pm.mem_iff.mp hk)) nl,dP hs p2 [] m1 nl] at t1;rw[eH pm,eH p2,a9,e2,kD e1] at t2;have t1':aU (ay (ps.eraseIdx (n + 1)) m.toNat pl) (cf ((cs.set n ch).eraseIdx (n + 1))) (Ö (ps.eraseIdx (n + 1)).length) []=ch.1 * aU (ay ps m.toNat pl) (cf cs) (frees ps.length [] ([n + 1]++[n])) [n] + (ch.2 - ch.1) * aU (ay ps m.toNat pl) (cf cs) (frees ps.length [] ([n + 1]++[n])) []:=by
  rw[t1];show(cf (cs.set n ch) n).1 * aU _ _ _ [n] + ((cf (cs.set n ch) n).2 - (cf (cs.set n ch) n).1) * aU _ _ _ []=_;rw[e2,fu _ _ e1,fu _ _ e1]
 rw[bE g' hp hl',bE g hp hc];rw[hch] at t1' t2;refine wg hb hB (t0:=aU (ay ps m.toNat pl) (cf cs) (Ö ps.length) []) (TX:=aU (ay ps m.toNat pl) (cf cs) (frees ps.length [] ([n + 1]++[n])) [n]) (TY:=aU (ay ps m.toNat pl) (cf cs) (frees ps.length [] ([n + 1]++[n])) []) ?_ ?_ (by rw[hch];exact t1') (by rw[hch];exact t2)
 ·rw[o1,x1,← x1,x3,x2]
  grind
 ·rw[o2]
  grind
end
abbrev ck(q i:Nat):Nat:=if q < i then i - 1 else i
abbrev KS(q j:Nat):Nat:=if j < q then j else j + 1
def rG(h:i≠q):KS q (ck q i)=i:=by
 unfold KS ck;by_cases e:q < i
 ·rw[if_pos e,if_neg ∅];omega
 ·rw[if_neg e,if_pos ∅]
def yc{m:Int}{pl:Zh}{q:Nat}(hp:bU m pl)(hq:q ∉ pl)(hm:(q:Int) < m):bU (m - 1) (pl.map (ck q)):=
 ⟨λe=>hp.ne (UR.mp e),by
  refine QF.mpr (Va (λ{a b} ha hb h=>?_) hp.up);have h1:a≠q:=λe=>hq (by rw[← e];exact ha)
  have h2:b≠q:=λe=>hq (by rw[← e];exact hb)
  unfold ck;split <;> split <;> omega,λp h=>by
  obtain⟨i,hi,rfl⟩:=Ç.mp h;have:=hp.lt i hi;have h1:i≠q:=λe=>hq (by rw[← e];exact hi)
  unfold ck;split <;> omega⟩
section
variable {m:Int}{ps ns cs cs':Za}{pl kp:Zh}{u v x y q at':Nat}{s:Nat->Nat}
structure RowW(m:Int)(ps ns:Za)(kp:List Nat)(u v x y q at':Nat)(s:Nat->Nat):Prop where
 pm:(range ps.length).Perm (u::v::kp)
 hu:(tA ps u=q/\tB ps u=x)\/(tA ps u=x/\tB ps u=q)
 hv:(tA ps v=q/\tB ps v=y)\/(tA ps v=y/\tB ps v=q)
 xq:x≠q
 yq:y≠q
 xm:(x:Int) < m
 ym:(y:Int) < m
 qm:(q:Int) < m
 off:∀ k∈kp,tA ps k≠q/\tB ps k≠q
 pn:(range ns.length).Perm (at'::(range kp.length).map s)
 ta:(tA ns at'=ck q x/\tB ns at'=ck q y)\/(tA ns at'=ck q y/\tB ns at'=ck q x)
 ts:∀ j,j < kp.length->tA ns (s j)=ck q (tA ps (kp.getD j 0))/\tB ns (s j)=ck q (tB ps (kp.getD j 0))
def rH{F:Nat->Int}{a b c d:Nat}(h:(a=c/\b=d)\/(a=d/\b=c)):F a=F b↔F c=F d:=by
 rcases h with ⟨rfl,rfl⟩ | ⟨rfl,rfl⟩
 ·exact UU
 ·exact eq_comm
def D5(W:RowW m ps ns kp u v x y q at' s)(g:ax m ps)(g':ax (m - 1) ns)(hp:bU m pl)(hq:q ∉ pl){l:Zh}(hl:∀ j∈l,j < kp.length){bu bv:Bool} :
 ay ps m.toNat pl (l.map (λj=>kp.getD j 0)++((if bu then [u] else [])++if bv then [v] else []))=ay ns (m - 1).toNat (pl.map (ck q)) (l.map s++if bu&&bv then [at'] else []):=by
 have hp':=yc hp hq W.qm;have gk:∀ j∈l,kp.getD j 0∈kp:=λj hj=>by
  rw[Æ,Í (hl j hj)];exact QD _
 have inP:∀ k∈u::v::kp,k < ps.length:=λk hk=>Î.mp (W.pm.mem_iff.mpr hk);have inN:∀ k∈at'::(Ö kp.length).map s,k < ns.length:=λk hk=>Î.mp (W.pn.mem_iff.mpr hk);have h0:(pl.map (ck q)).getD 0 0=ck q (pl.getD 0 0):=by
  cases pl with
  |nil=>exact absurd rfl hp.ne|cons a r=>rfl
 have p0:pl.getD 0 0≠q:=by
  cases pl with
  |nil=>exact absurd rfl hp.ne|cons a r=>exact λe=>hq (by rw[← e];exact Ë)
 rw[Q8,fX g.pI (λp h=>by have:=hp.lt p h;omega) (λn hn=>?_),fX g'.pI (λp h=>by have:=hp'.lt p h;omega) (λn hn=>?_),h0]
 ·have off:=λj hj=>W.off _ (gk j hj);constructor
  ·intro h F hF p' hp1;obtain⟨p,hpm,rfl⟩:=Ç.mp hp1;have pq:p≠q:=λe=>hq (by rw[← e];exact hpm)
   have:=h (λi=>if i=q then(if bu then F (ck q x) else F (ck q y)) else F (ck q i)) (λn hn=>?_) p hpm
   ·rw[if_neg pq,if_neg p0] at this;exact this
   ·rcases ë.mp hn with hn | hn
    ·obtain⟨j,hj,rfl⟩:=Ç.mp hn;rw[if_neg (off j hj).1,if_neg (off j hj).2,← (W.ts j (hl j hj)).1,← (W.ts j (hl j hj)).2];exact hF _ (Rb _ (Ç.mpr ⟨j,hj,rfl⟩))
    ·rcases ë.mp hn with hn | hn
     ·cases bu with
      |false=>cases hn
      |true =>
       rw[Ú.mp hn];refine(rH (F:=λi=>if i=q then(if true=true then F (ck q x) else F (ck q y)) else F (ck q i)) W.hu).mpr ?_;show(if q=q then _ else _)=if x=q then _ else _;rw[if_pos rfl,if_neg W.xq,if_pos rfl]
     ·cases bv with
      |false=>cases hn
      |true =>
       rw[Ú.mp hn];refine(rH (F:=λi=>if i=q then(if bu=true then F (ck q x) else F (ck q y)) else F (ck q i)) W.hv).mpr ?_;show(if q=q then _ else _)=if y=q then _ else _;rw[if_pos rfl,if_neg W.yq];cases bu with
       |false=>rfl
       |true =>
        rw[if_pos rfl];exact(rH W.ta).mp (hF at' (é _ (Ú.mpr rfl)))
  ·intro h F hF p hpm;have pq:p≠q:=λe=>hq (by rw[← e];exact hpm)
   have:=h (λj=>F (KS q j)) (λn hn=>?_) (ck q p) (Ç.mpr ⟨p,hpm,rfl⟩)
   ·rw[rG pq,rG p0] at this;exact this
   ·rcases ë.mp hn with hn | hn
    ·obtain⟨j,hj,rfl⟩:=Ç.mp hn;rw[(W.ts j (hl j hj)).1,(W.ts j (hl j hj)).2,rG (off j hj).1,rG (off j hj).2];exact hF _ (Rb _ (Ç.mpr ⟨j,hj,rfl⟩))
    ·cases bu with
     |false=>cases hn
     |true =>
      cases bv with
      |false=>cases hn
      |true =>
       have hn:n∈[at']:=hn;rw[Ú.mp hn];refine(rH (F:=λj=>F (KS q j)) W.ta).mpr ?_;show F (KS q (ck q x))=F (KS q (ck q y));rw[rG W.xq,rG W.yq];have e1:=(rH W.hu).mp (hF u (é _ (Rb _ (Ú.mpr rfl))));have e2:=(rH W.hv).mp (hF v (é _ (é _ (Ú.mpr rfl))));rw[← e1,e2]
 ·rcases ë.mp hn with hn | hn
  ·obtain⟨j,hj,rfl⟩:=Ç.mp hn;exact inN _ (È _ (Ç.mpr ⟨j,Î.mpr (hl j hj),rfl⟩))
  ·have:n∈[at']:=by
    cases bu <;> cases bv <;> first | exact hn | cases hn
   rw[Ú.mp this];exact inN _ Ë
 ·rcases ë.mp hn with hn | hn
  ·obtain⟨j,hj,rfl⟩:=Ç.mp hn;exact inP _ (È _ (È _ (gk j hj)))
  ·rcases ë.mp hn with hn | hn
   ·cases bu with
    |false=>cases hn
    |true=>rw[Ú.mp hn];exact inP _ Ë
   ·cases bv with
    |false=>cases hn
    |true=>rw[Ú.mp hn];exact inP _ (È _ Ë)
end
theorem D6(h:∀ l:Zh,(∀ j∈l,j < K)->g l=g' l):∀ js held:Zh,(∀ j∈js,j < K)->(∀ j∈held,j < K)->aU g c js held=aU g' c js held
 |[],held,_,hh=>by unfold aU;rw[h held hh]
 |n::r,held,hj,hh=>by
  have hr:=λk hk=>hj k (È _ hk);unfold aU;rw[D6 h r held hr hh,D6 h r (n::held) hr λk hk=>by
   rcases ß.mp hk with rfl | hk
   ·exact hj _ Ë
   ·exact hh k hk]
def D7:aU g c ((Ö K).map old) base=aU (λl=>g (l.map old++base)) (λj=>c (old j)) (Ö K) []:=
 (iJ (g':=λl=>g (l.map old++base)) (c':=λj=>c (old j)) (K:=K) (λ_ _=>rfl) (λ_=>rfl) (Ö K) [] (λj hj=>Î.mp hj) λ_ h=>nomatch h).symm
section
variable {m:Int}{ps ns cs cs':Za}{pl kp:Zh}{u v x y q at':Nat}{s:Nat->Nat}
def A7(W:RowW m ps ns kp u v x y q at' s)(g:ax m ps)(g':ax (m - 1) ns)(hp:bU m pl)(hq:q ∉ pl)(hc:cs.length=ps.length)(ha:∀ c∈cs,c8 c)(hc':cs'.length=ns.length)(es:∀ j,j < kp.length->cf cs' (s j)=cf cs (kp.getD j 0))
 (ea:cf cs' at'=aI ((cf cs u).1 * (cf cs v).1) ((cf cs u).2 * (cf cs v).2)):bq (m - 1) ns cs' (pl.map (ck q))=bq m ps cs pl:=by
 have hp':=yc hp hq W.qm;have hs:=eT g hp;have hs':=eT g' hp';have inP:∀ k∈u::v::kp,k < ps.length:=λk hk=>Î.mp (W.pm.mem_iff.mpr hk);have ui:=inP u Ë;have vi:=inP v (È _ Ë);have ki:∀ k∈kp,k < ps.length:=λk hk=>inP k (È _ (È _ hk));have ci:∀ k,k < ps.length->c8 (cf cs k):=λk hk=>dQ ha (by rw[hc];exact hk)
 have ek:kp=(Ö kp.length).map λj=>kp.getD j 0:=TV (by simp) λi h1 h2=>by
  rw[V0,Ua,Æ,Í h1];rfl
 have rg:∀ j∈Ö kp.length,j < kp.length:=λj hj=>Î.mp hj;have no:∀ j∈([]:Zh),j < kp.length:=λ_ h=>nomatch h;have old:∀ (bu bv:Bool),aU (ay ps m.toNat pl) (cf cs) kp ((if bu then [u] else [])++if bv then [v] else [])=aU (λl=>ay ns (m - 1).toNat (pl.map (ck q)) (l.map s++if bu&&bv then [at'] else [])) (λj=>cf cs (kp.getD j 0)) (Ö kp.length) []:=λbu bv=>by
  conv=>lhs;rw[ek]
  rw[D7];exact D6 (λl hl=>D5 W g g' hp hq hl) _ [] rg no
 have o11:=old true true;have o10:=old true false;have o01:=old false true;have o00:=old false false;have sw:aU (ay ps m.toNat pl) (cf cs) kp [v,u]=aU (ay ps m.toNat pl) (cf cs) kp [u,v]:=gY hs kp [v,u] [u,v] ki (λk hk=>by simp only[ü,p9,or_false] at hk;rcases hk with rfl | rfl <;> assumption) (λk hk=>by simp only[ü,p9,or_false] at hk;rcases hk with rfl | rfl <;> assumption) λk=>by
  simp only[ü,p9,or_false];exact or_comm
 have nw:∀ b:Bool,aU (ay ns (m - 1).toNat (pl.map (ck q))) (cf cs') ((Ö kp.length).map s) (if b then [at'] else [])=aU (λl=>ay ns (m - 1).toNat (pl.map (ck q)) (l.map s++if b then [at'] else [])) (λj=>cf cs (kp.getD j 0)) (Ö kp.length) []:=λb=>by
  rw[D7];exact fu _ _ λj hj=>es j (rg j hj)
 have n1:=nw true;have n0:=nw false;have hb:0 < (cf cs u).2 * (cf cs v).2:=SK (by have:=(ci u ui).1;omega) (by have:=(ci v vi).1;omega)
 have hB:=(dR λk hk=>ci k (ki k hk)).1;rw[bE g' hp' hc',bE g hp hc];refine wg hb hB (s:=(cf cs u).1 * (cf cs v).1) (TX:=aU (ay ps m.toNat pl) (cf cs) kp [u,v]) (TY:=aU (ay ps m.toNat pl) (cf cs) kp []) ?_ ?_ ?_ ?_
 ·rw[dP hs W.pm [] (λk hk=>Î.mp hk) (λ_ h=>nomatch h)];show(cf cs u).1 * ((cf cs v).1 * aU _ _ kp [v,u] + ((cf cs v).2 - (cf cs v).1) * aU _ _ kp [u]) + ((cf cs u).2 - (cf cs u).1) * ((cf cs v).1 * aU _ _ kp [v] + ((cf cs v).2 - (cf cs v).1) * aU _ _ kp [])=_;have e10:aU (ay ps m.toNat pl) (cf cs) kp [u]=aU (ay ps m.toNat pl) (cf cs) kp []:=(show aU (ay ps m.toNat pl) (cf cs) kp [u]=_ from o10).trans (show aU (ay ps m.toNat pl) (cf cs) kp []=_ from o00).symm;have e01:aU (ay ps m.toNat pl) (cf cs) kp [v]=aU (ay ps m.toNat pl) (cf cs) kp []:=(show aU (ay ps m.toNat pl) (cf cs) kp [v]=_ from o01).trans (show aU (ay ps m.toNat pl) (cf cs) kp []=_ from o00).symm;rw[sw,e10,e01]
  grind
 ·rw[eH W.pm,a9,a9]
  grind
 ·have inN:∀ k∈Ö ns.length,k < ns.length:=λk hk=>Î.mp hk;rw[dP hs' W.pn [] inN (λ_ h=>nomatch h)];show(cf cs' at').1 * aU _ _ ((Ö kp.length).map s) [at'] + ((cf cs' at').2 - (cf cs' at').1) * aU _ _ ((Ö kp.length).map s) []=_;rw[ea,show aU (ay ns (m - 1).toNat (pl.map (ck q))) (cf cs') ((Ö kp.length).map s) [at']=_ from n1,show aU (ay ns (m - 1).toNat (pl.map (ck q))) (cf cs') ((Ö kp.length).map s) []=_ from n0,show aU (ay ps m.toNat pl) (cf cs) kp [u,v]=_ from o11,show aU (ay ps m.toNat pl) (cf cs) kp []=_ from o00];rfl
 ·rw[eH W.pn,a9,ea]
  congr 1
  have:cH (cf cs) kp=cH (λj=>cf cs (kp.getD j 0)) (Ö kp.length):=by
   conv=>lhs;rw[ek]
   exact(jA (c':=λj=>cf cs (kp.getD j 0)) (c:=cf cs) (old:=λj=>kp.getD j 0) (λ_=>rfl) _).symm
  rw[this,← jA (c':=λj=>cf cs' (s j)) (c:=cf cs') (old:=s) (λ_=>rfl)];exact kD λj hj=>es j (rg j hj)
end
def iW(k:Nat)(z:Z)(h:zt x=true):aA T (k + 5) dH [.d x] z=some (.ok (.d .bp) z):=
 W.ok (bI (ps:=1) (ns:=1) (b:=dM) rfl rfl 1e1 (Wo (iI k x z) (ie (b:=!zt x) (by rw[h];rfl) (sd rfl))))
def iX(k:Nat)(z:Z)(h:zt x=false):aA T (k + 5) dH [.d x] z=some (.er 5 z):=
 W.er (bI (ps:=1) (ns:=1) (b:=dM) rfl rfl 1e1 (Wo (iI k x z) (it (b:=!zt x) (by rw[h];rfl) ⟨rfl,bD z⟩)))
def mZ(k:Nat)(z:Z)(h:aT x ts.length=true):aA T (k + 5) jl [.d (.tup [a,.tup ts]),.d x] z=some (.ok (.d .bp) z):=
 W.ok (bI (ps:=2) (ns:=2) (b:=fS) rfl rfl 1e1 (Wo (eR k x ts.length z) (ie (b:=!aT x ts.length) (by rw[h];rfl) (sd rfl))))
def A8{n K:Nat}(h:n < K):aT (.int n) K=true:=by
 show(decide (0<=(n:Int))&&decide ((n:Int) < (K:Int)))=true;rw[decide_eq_true ∅,decide_eq_true ∅];rfl
section
variable {m:Int}{ps cs:Za}{pl:Zh}{c:Int × Int}
def GJ(h:n < cs.length):cutD (cs.map pr) none (some (n:Int))++[pr c]++cutD (cs.map pr) (some ((n:Int) + 1)) none=(cs.set n c).map pr:=by
 rw[l9 _ ∅,ä,show((n:Int) + 1)=((n + 1:Nat):Int) by omega,eS,U9,if_pos h,QT,QS,SM,VC,VE];rfl
def Ng(hl:cs.length<=8)(h:n < cs.length):dZ .add (.tup (cutD (cs.map pr) none (some (n:Int)))) (.tup [pr c])=some (.d (.tup (cutD (cs.map pr) none (some (n:Int))++[pr c])))/\dZ .add (.tup (cutD (cs.map pr) none (some (n:Int))++[pr c])) (.tup (cutD (cs.map pr) (some ((n:Int) + 1)) none))=some (.d (.tup ((cs.set n c).map pr))):=by
 have e1:(cutD (cs.map pr) none (some (n:Int))).length<=8:=by rw[l9 _ ∅,QP,Ä];omega
 have e2:(cutD (cs.map pr) (some ((n:Int) + 1)) none).length<=8:=by rw[show((n:Int) + 1)=((n + 1:Nat):Int) by omega,eS,RV,Ä];omega
 refine⟨rB (by show _ + 1<=_;omega),?_⟩
 rw[rB (by rw[AY];omega),GJ h]
def pR(k:Nat)(hl:cs.length<=8)(h:n < cs.length)(z:Z):aA T (k + 3) j9 [.d (.tup (cs.map pr)),.d (.int n),.d (pr c)] z=some (.ok (.d (.tup ((cs.set n c).map pr))) z):=by
 obtain⟨e1,e2⟩:=Ng (c:=c) hl h;refine W.ok (bI (ps:=3) (ns:=3) (b:=gG) rfl rfl 1e1 ?_)
 refine(ae e1 ?_ :);refine(ae e2 ?_ :);exact sd rfl
end
def wj(k:Nat){n:Nat}{c d:Int × Int}(hc:Bs n c)(hd:Bs n d)(hn:n + n<=3999)(z:Z):aA T (k + 4) lg [.d (pr c),.d (pr d)] z=some (.ok (.d (pr (aI (c.1 * d.1) (c.2 * d.2)))) z):=by
 have h1:n<=3999:=∅
 refine W.ok (bI (ps:=2) (ns:=2) (b:=iG) rfl rfl 1e1 ?_)
 refine(ae (Ht h1 hc.t hd.t) ?_ :);refine(ae (Ht h1 hc.b hd.b) ?_ :);exact Wo (pE k _ _ z (SK hc.b0 hd.b0) (GI hn (GH hc.b hd.b))) (sd rfl)
def GK(a:Int × Int):(!((a.1 == a.1)&&((a.2 == a.2)&&true)))=false:=by rw[beq_self_eq_true,beq_self_eq_true];rfl
def Ks(a b:Int × Int):((a.1 == b.1)&&((a.2 == b.2)&&true))=(a == b):=by rw[RL];rfl
section
variable {m:Int}{ps cs:Za}{pl:Zh}
def GL{n:Nat}(l:Za):cutD (l.map pr) none (some (n:Int))++cutD (l.map pr) (some ((n:Int) + 1)) none=(l.eraseIdx n).map pr:=by
 rw[l9 _ ∅,ä,show((n:Int) + 1)=((n + 1:Nat):Int) by omega,eS,List.eraseIdx_eq_take_drop_succ,QT,VC,VE]
def Hz{l:Za}{n:Nat}(hl:l.length<=8):dZ .add (.tup (cutD (l.map pr) none (some (n:Int)))) (.tup (cutD (l.map pr) (some ((n:Int) + 1)) none))=some (.d (.tup ((l.eraseIdx n).map pr))):=by
 have e1:(cutD (l.map pr) none (some (n:Int))).length<=8:=by rw[l9 _ ∅,QP,Ä];omega
 have e2:(cutD (l.map pr) (some ((n:Int) + 1)) none).length<=8:=by rw[show((n:Int) + 1)=((n + 1:Nat):Int) by omega,eS,RV,Ä];omega
 rw[rB ∅,GL]
end
def D8(hb:0 < b):aI (b - t) b=((aI t b).2 - (aI t b).1,(aI t b).2):=by
 have hg:gcd (b - t) b=gcd t b:=by
  rw[gcd_comm,Int.gcd_self_sub_right,gcd_comm]
 unfold aI;rw[hg,Int.sub_ediv_of_dvd _ (YJ t b)]
def D9(h:zt (pr c)=true):c8 c:=by
 have h:Gr c.1 c.2=true:=h;unfold Gr at h;simp only[Á,decide_eq_true_eq,beq_iff_eq] at h;obtain⟨⟨h1,h2⟩,⟨h3,h4⟩,h5⟩:=h;exact⟨h1,h2,h3,h4,by exact_mod_cast h5⟩
def c8.bd(h:c8 c):Bd 10 c:=by
 obtain⟨h1,h2,h3,h4,_⟩:=h;exact⟨h3,h4,∅,Q6 h2 1e1⟩
def c8.Ea(h:c8 c):Bd 10 (c.2 - c.1,c.2):=by
 obtain⟨h1,h2,h3,h4,_⟩:=h;exact⟨by show 0<=c.2 - c.1;omega,by show c.2 - c.1<=c.2;omega,by show 0 < c.2;omega,Q6 h2 1e1⟩
section
variable {m:Int}{ps cs:Za}
abbrev jC(c d:Int × Int):Int × Int:=aI (c.2 * d.2 - (c.2 - c.1) * (d.2 - d.1)) (c.2 * d.2)
abbrev NQ(m:Int)(ps cs:Za)(n:Nat)(o5 o6 o7:Option S):Env:=[some (.d (aJ m ps)),some (.d (.tup (cs.map pr))),some (.d (aj n)),some (.d (.int m)),some (.d (.tup (ps.map pr))),o5,o6,o7]
theorem Eb(k:Nat)(g:ax m ps)(hc:cs.length=ps.length)(ha:∀ c∈cs,c8 c)(hn:n < ps.length)(z:Z)(hE:∀ c,c < 12->E c z)
 (hQ:n + 1 < ps.length->pf ps n=pf ps (n + 1)->c8 (jC (cf cs n) (cf cs (n + 1)))->Q (.d (.tup [aJ m (ps.eraseIdx (n + 1)),.tup (((cs.set n (jC (cf cs n) (cf cs (n + 1)))).eraseIdx (n + 1)).map pr)])) z) :
 W (aA T (k + 11) mI [.d (aJ m ps),.d (.tup (cs.map pr)),.d (aj n)]) z Q E:=by
 have h8:=g.len;have er:∀ c,c < 12->E c (cW z z):=λc hc=>by rw[bD];exact hE c hc
 refine bI (ps:=3) (ns:=8) (b:=ju) rfl rfl 1e1 (Wo (eG k (m:=m) (ts:=ps.map pr) g.DI z (tE (by rw[Ä];exact hc) ha)) (Wo (mZ (k + 5) z (by rw[Ä];exact A8 hn)) ?_))
 refine(cu (.d (aJ m ps)) (NQ m ps cs n none none none) ?_ ?_ ?_ :)
 ·exact⟨rfl,rfl⟩
 ·rw[bg (show bM (.d (aJ m ps))=true from by show(true&&(bo (ps.map pr)&&true))=true;rw[bJ];rfl)];rfl
 refine(cu (.d (aj (n + 1))) (NQ m ps cs n (some (.d (aj (n + 1)))) none none) ?_ ?_ ?_ :)
 ·exact⟨congrArg (λi=>S.d (.int i)) (show(n:Int) + 1=((n + 1:Nat):Int) by omega),rfl⟩
 ·rw[bg rfl];rfl
 refine ib (b:=((n + 1:Nat):Int) == ((ps.map pr).length:Int)) (λh=>er 4 1e1) λh=>?_
 have h:=ne_of_beq_false h;rw[Ä] at h;have hn1:n + 1 < ps.length:=∅
 refine(ae (xX hn) ?_ :);refine(ae (xX hn1) ?_ :);refine ib (b:=!(((pf ps n).1 == (pf ps (n + 1)).1)&&(((pf ps n).2 == (pf ps (n + 1)).2)&&true))) (λh=>er 4 1e1) λh=>?_
 have hpf:pf ps n=pf ps (n + 1):=by
  have h:=(Xf.mp h:_=true);rw[Ks] at h;exact eq_of_beq h
 have c1:=dQ ha (n:=n) ∅
 have c2:=dQ ha (n:=n + 1) ∅
 have b1:=c1.Ea;have b2:=c2.Ea;have hb:0 < (cf cs n).2 * (cf cs (n + 1)).2:=SK (by have:=c1.1;omega) (by have:=c2.1;omega)
 have ech:jC (cf cs n) (cf cs (n + 1))=((aI (((cf cs n).2 - (cf cs n).1) * ((cf cs (n + 1)).2 - (cf cs (n + 1)).1)) ((cf cs n).2 * (cf cs (n + 1)).2)).2 - (aI (((cf cs n).2 - (cf cs n).1) * ((cf cs (n + 1)).2 - (cf cs (n + 1)).1)) ((cf cs n).2 * (cf cs (n + 1)).2)).1,(aI (((cf cs n).2 - (cf cs n).1) * ((cf cs (n + 1)).2 - (cf cs (n + 1)).1)) ((cf cs n).2 * (cf cs (n + 1)).2)).2):=D8 hb;refine(cu (.d (pr (jC (cf cs n) (cf cs (n + 1))))) (NQ m ps cs n (some (.d (aj (n + 1)))) (some (.d (pr (jC (cf cs n) (cf cs (n + 1)))))) none) ?_ ?_ ?_ :)
 ·refine(ae (kC (cs:=cs) (n:=n) ∅) ?_ :)
  refine Wo (tw (k + 7) (cf cs n) z) ?_;refine(ae (kC (cs:=cs) (n:=n + 1) ∅) ?_ :)
  refine Wo (tw (k + 7) (cf cs (n + 1)) z) (Wo (vO (k + 5) b1 b2 1e1 z) (Wo (tw (k + 7) _ z) ?_))
  rw[ech];exact⟨rfl,rfl⟩
 ·rw[bg rfl];rfl
 cases hch:zt (pr (jC (cf cs n) (cf cs (n + 1)))) with
 |false=>exact We (iX (k + 5) z hch) (er 5 1e1)
 |true =>
  have isC:=D9 hch;refine Wo (iW (k + 5) z hch) ?_;refine(cu (.d (.tup ((cs.set n (jC (cf cs n) (cf cs (n + 1)))).map pr))) (NQ m ps cs n (some (.d (aj (n + 1)))) (some (.d (pr (jC (cf cs n) (cf cs (n + 1)))))) (some (.d (.tup ((cs.set n (jC (cf cs n) (cf cs (n + 1)))).map pr))))) ?_ ?_ ?_ :)
  ·exact Wo (pR (k + 7) ∅ ∅ z) ⟨rfl,rfl⟩
  ·rw[bg (show bM (.d (.tup ((cs.set n (jC (cf cs n) (cf cs (n + 1)))).map pr)))=true from bJ _)];rfl
  refine(ae (Hz (l:=ps) (n:=n + 1) h8) ?_ :);refine(ae (Hz (l:=cs.set n (jC (cf cs n) (cf cs (n + 1)))) (n:=n + 1) (by rw[QE];omega)) ?_ :)
  show Q _ (cW z z);rw[bD];exact hQ hn1 hpf isC
def pS(q:Nat)(p:Int × Int):Bool:=p.1 == (q:Int) || (p.2 == (q:Int) || false)
def lD(q:Nat)(ps:Za):Zh:=(Ö ps.length).filter λi=>!pS q (pq ps i)
def pT(q:Nat)(ps:Za):Zh:=(Ö ps.length).filter λi=>pS q (pq ps i)
abbrev NR(m:Int)(ps cs:Za)(q:Nat)(o5 o6 o7:Option S):Env:=[some (.d (aJ m ps)),some (.d (.tup (cs.map pr))),some (.d (aj q)),some (.d (.int m)),some (.d (.tup (ps.map pr))),o5,o6,o7]
def zK:∀ i∈lD q ps,i < ps.length:=λi hi=>Î.mp (æ.mp hi).1
def ye:(lD q ps).length<=ps.length:=ê (RQ _ _) (by rw[ï];exact Ñ _)
abbrev bh(q:Nat)(ps:Za):Za:=(lD q ps).map λi=>mm (ck q) (pq ps i)
abbrev iY(q:Nat)(ps cs:Za):Za:=(lD q ps).map (cf cs)
def wk(k:Nat)(g:ax m ps)(hc:cs.length=ps.length)(q:Nat)(z:Z):aA T (k + 6) gX [.d (aJ m ps),.d (.tup (cs.map pr)),.d (aj q)] z=some (.ok (.d (.tup [aJ (m - 1) (bh q ps),.tup ((iY q ps cs).map pr)])) z):=by
 have h8:=g.len;have h1:=g.m1;have h6:=g.m6;refine W.ok (bI (ps:=3) (ns:=8) (b:=eF) rfl rfl 1e1 ?_)
 refine(cu (.d (aJ m ps)) (NR m ps cs q none none none) ?_ ?_ ?_ :)
 ·exact⟨rfl,rfl⟩
 ·rw[bg (show bM (.d (aJ m ps))=true from by show(true&&(bo (ps.map pr)&&true))=true;rw[bJ];rfl)];rfl
 refine(cu (.fr (nl (ck q) m.toNat)) (NR m ps cs q (some (.fr (nl (ck q) m.toNat))) none none) ?_ ?_ ?_ :)
 ·refine(ae (gq (m:=m) ∅ ∅) ?_ :)
  refine ip (by rw[Ä,ï];exact bO ∅) (fI (λx=>match x with | .int i=>aj (ck q i.toNat) | x=>x) (λx hx=>?_) ?_)
  ·obtain⟨i,_,rfl⟩:=Ç.mp hx;exact Wo (iM (k + 2) i q z) ⟨rfl,rfl⟩
  ·rw[Ó];exact⟨rfl,rfl⟩
 ·rw[bg (show bM (.fr (nl (ck q) m.toNat))=true from D0)];rfl
 refine(cu (.fr ((lD q ps).map aj)) (NR m ps cs q (some (.fr (nl (ck q) m.toNat))) (some (.fr ((lD q ps).map aj))) none) ?_ ?_ ?_ :)
 ·refine ip (by show(d7 (ps.map pr) 0).length<=most;rw[dq,Ä,ï];exact bO ∅) ?_
  refine AS (λx=>!pS q (pq ps (DY x))) (λx=>aj (DY x)) (λx hx=>?_) ?_
  ·rw[dq] at hx;obtain⟨i,_,rfl⟩:=Ç.mp hx;have eo:DY (.tup [aj i,pr (pq ps i)])=i:=ä i;rw[eo];exact⟨rfl,rfl,λ_=>⟨rfl,rfl⟩⟩
  ·rw[dq,SX,Ó];exact⟨rfl,rfl⟩
 ·rw[bg (show bM (.fr ((lD q ps).map aj))=true from cI _)];rfl
 refine(cu (.d (aJ (m - 1) (bh q ps))) (NR m ps cs q (some (.fr (nl (ck q) m.toNat))) (some (.fr ((lD q ps).map aj))) (some (.d (aJ (m - 1) (bh q ps))))) ?_ ?_ ?_ :)
 ·refine ip (by rw[Ä];exact bO (by have:=ye (ps:=ps) (q:=q);omega)) (fI (λx=>match x with | .int i=>pr (mm (ck q) (pq ps i.toNat)) | x=>x) (λx hx=>?_) ?_)
  ·obtain⟨i,hi,rfl⟩:=Ç.mp hx;have hi:=zK i hi;obtain⟨j1,j2,j3,j4⟩:=g.lo hi;refine(ae (DU hi) ?_ :);exact Wo (mP (k + 1) j1 j2 j3 j4 z) ⟨rfl,rfl⟩
  ·rw[Ó];refine⟨?_,rfl⟩;unfold aJ bh;rw[Ó];rfl
 ·rw[bg (show bM (.d (aJ (m - 1) (bh q ps)))=true from by show(true&&(bo (Uc pr _)&&true))=true;rw[bJ];rfl)];rfl
 refine ip (by rw[Ä];exact bO (by have:=ye (ps:=ps) (q:=q);omega)) (fI (λx=>match x with | .int i=>pr (cf cs i.toNat) | x=>x) (λx hx=>?_) ?_)
 ·obtain⟨i,hi,rfl⟩:=Ç.mp hx;have hi:=zK i hi;refine(ae (kC (cs:=cs) (n:=i) ∅) ?_ :)
  exact⟨rfl,rfl⟩
 ·refine sd ?_;show S.d (.tup [aJ (m - 1) (bh q ps),.tup (((lD q ps).map aj).map _)])=S.d (.tup [aJ (m - 1) (bh q ps),.tup (((lD q ps).map (cf cs)).map pr)]);rw[Ó,Ó];rfl
def cR(t:Int × Int)(l:Za):Nat:=(l.filter λp=>HT.leB (ky p) (ky t)).length
def Ec(k:Nat){M:Int}{l ds:Za}(hl:l.length<=8)(hd:ds.length<=8)(t c:Int × Int)(z:Z):aA T (k + 3) mH [.d (aJ M l),.d (.tup (ds.map pr)),.d (pr t),.d (pr c)] z=some (.ok (.d (.tup [aJ M (l.take (cR t l)++t::l.drop (cR t l)),.tup ((ds.take (cR t l)++c::ds.drop (cR t l)).map pr)])) z):=by
 refine W.ok (bI (ps:=4) (ns:=7) (b:=jt) rfl rfl 1e1 ?_)
 refine(cu (.d (aJ M l)) [some (.d (aJ M l)),some (.d (.tup (ds.map pr))),some (.d (pr t)),some (.d (pr c)),some (.d (.int M)),some (.d (.tup (l.map pr))),none] ?_ ?_ ?_ :)
 ·exact⟨rfl,rfl⟩
 ·rw[bg (show bM (.d (aJ M l))=true from by show(true&&(bo (l.map pr)&&true))=true;rw[bJ];rfl)];rfl
 refine(cu (.d (aj (cR t l))) [some (.d (aJ M l)),some (.d (.tup (ds.map pr))),some (.d (pr t)),some (.d (pr c)),some (.d (.int M)),some (.d (.tup (l.map pr))),some (.d (aj (cR t l)))] ?_ ?_ ?_ :)
 ·refine ip (by rw[Ä];exact bO ∅) ?_
  refine AS (λx=>match x with | .tup [.int a,.int b]=>HT.leB [a,b] (ky t) | _=>false) (λx=>x) (λx hx=>?_) ?_
  ·obtain⟨p,_,rfl⟩:=Ç.mp hx;exact⟨rfl,rfl,λ_=>⟨rfl,rfl⟩⟩
  ·rw[Tg,SX];refine⟨?_,rfl⟩;show S.d (.int ((Uc pr (l.filter _)).length:Int))=_;rw[Ä];rfl
 ·rw[bg rfl];rfl
 have ins:∀ (u:Za) (w:Int × Int),u.length<=8->∃ s1,dZ .add (.tup (cutD (u.map pr) none (some (cR t l:Int)))) (.tup [pr w])=some (.d (.tup s1))/\dZ .add (.tup s1) (.tup (cutD (u.map pr) (some (cR t l:Int)) none))=some (.d (.tup ((u.take (cR t l)++w::u.drop (cR t l)).map pr))):=λu w hu=>by
  have e1:cutD (u.map pr) none (some (cR t l:Int))=(u.take (cR t l)).map pr:=by rw[l9 _ ∅,ä,VC]
  have e2:cutD (u.map pr) (some (cR t l:Int)) none=(u.drop (cR t l)).map pr:=by rw[eS,VE]
  refine⟨(u.take (cR t l)).map pr++[pr w],?_,?_⟩
  ·rw[e1,rB (by simp;omega)]
  ·rw[e2,rB (by simp;omega)]
   simp
 obtain⟨s1,a1,a2⟩:=ins l t hl;obtain⟨s2,a3,a4⟩:=ins ds c hd;refine(ae a1 ?_ :);refine(ae a2 ?_ :);refine(ae a3 ?_ :);refine(ae a4 ?_ :);exact sd rfl
abbrev aE(q:Nat)(ps:Za)(i:Nat):Nat:=((pq ps i).1 + (pq ps i).2 - (q:Int)).toNat
def Ed(g:ax m ps)(hi:i < ps.length)(h:pS q (pq ps i)=true):(pq ps i).1 + (pq ps i).2 - (q:Int)=(aE q ps i:Int)/\(((pq ps i).1=q/\(pq ps i).2=(aE q ps i:Int))\/((pq ps i).1=(aE q ps i:Int)/\(pq ps i).2=q))/\aE q ps i≠q/\(aE q ps i:Int) < m:=by
 have:=g.tie _ (pP hi);unfold pS at h;rw[WB,QL,beq_iff_eq,beq_iff_eq] at h;obtain⟨t1,t2,t3⟩:=this;unfold aE;rcases h with h | h
 ·have n:=Int.toNat_of_nonneg (Int.le_trans t1 (Int.le_of_lt t2));rw[show (pq ps i).1 + (pq ps i).2 - (q:Int)=(pq ps i).2 by rw[h,Int.add_comm,Int.add_sub_cancel],n];exact⟨rfl,.inl ⟨h,rfl⟩,λx=>Int.ne_of_lt t2 (by rw[h,← x];exact n),t3⟩
 ·have n:=Int.toNat_of_nonneg t1;rw[show (pq ps i).1 + (pq ps i).2 - (q:Int)=(pq ps i).1 by rw[h,Int.add_sub_cancel],n];exact⟨rfl,.inr ⟨rfl,h⟩,λx=>Int.ne_of_lt t2 (by rw[h,← x];exact n.symm),Int.lt_trans t2 t3⟩
abbrev jU(cs:Za)(u v:Nat):Int × Int:=aI ((cf cs u).1 * (cf cs v).1) ((cf cs u).2 * (cf cs v).2)
abbrev kE(q x y:Nat):Int × Int:=(((min (ck q x) (ck q y):Nat):Int),((max (ck q x) (ck q y):Nat):Int))
abbrev wm(q:Nat)(ps:Za)(x y:Nat):Za:=(bh q ps).take (cR (kE q x y) (bh q ps))++kE q x y::(bh q ps).drop (cR (kE q x y) (bh q ps))
abbrev wo(q:Nat)(ps cs:Za)(x y:Nat)(c:Int × Int):Za:=(iY q ps cs).take (cR (kE q x y) (bh q ps))++c::(iY q ps cs).drop (cR (kE q x y) (bh q ps))
abbrev Nh(m:Int)(ps cs:Za)(q:Nat)(o3 o4 o5 o6 o7 o8:Option S):Env:=[some (.d (aJ m ps)),some (.d (.tup (cs.map pr))),some (.d (aj q)),o3,o4,o5,o6,o7,o8]
theorem GN(k:Nat)(g:ax m ps)(hc:cs.length=ps.length)(ha:∀ c∈cs,c8 c){q:Nat}(hq:(q:Int) < m)(z:Z)(hE:∀ c,c < 12->E c z)
 (hQ:∀ u v,pT q ps=[u,v]->aE q ps u≠aE q ps v->c8 (jU cs u v)->Q (.d (.tup [aJ (m - 1) (wm q ps (aE q ps u) (aE q ps v)),.tup ((wo q ps cs (aE q ps u) (aE q ps v) (jU cs u v)).map pr)])) z) :
 W (aA T (k + 11) oW [.d (aJ m ps),.d (.tup (cs.map pr)),.d (aj q)]) z Q E:=by
 have h8:=g.len;have er:∀ c,c < 12->E c (cW z z):=λc hc=>by rw[bD];exact hE c hc
 have aq:∀ i∈pT q ps,i < ps.length/\pS q (pq ps i)=true:=λi hi=>⟨Î.mp (æ.mp hi).1,(æ.mp hi).2⟩;have al:(pT q ps).length<=ps.length:=ê (RQ _ _) (by rw[ï];exact Ñ _)
 refine bI (ps:=3) (ns:=9) (b:=ku) rfl rfl 1e1 (Wo (eG k (m:=m) (ts:=ps.map pr) g.DI z (tE (by rw[Ä];exact hc) ha)) (Wo (fY (k + 5) z (x8 hq)) ?_))
 refine(cu (.fr ((pT q ps).map aj)) (Nh m ps cs q (some (.fr ((pT q ps).map aj))) none none none none none) ?_ ?_ ?_ :)
 ·refine ip (by show(d7 (ps.map pr) 0).length<=most;rw[dq,Ä,ï];exact bO ∅) ?_
  refine AS (λx=>pS q (pq ps (DY x))) (λx=>aj (DY x)) (λx hx=>?_) ?_
  ·rw[dq] at hx;obtain⟨i,_,rfl⟩:=Ç.mp hx;have eo:DY (.tup [aj i,pr (pq ps i)])=i:=ä i;rw[eo];exact⟨rfl,rfl,λ_=>⟨rfl,rfl⟩⟩
  ·rw[dq,SX,Ó];exact⟨rfl,rfl⟩
 ·rw[bg (show bM (.fr ((pT q ps).map aj))=true from cI _)];rfl
 refine(cu (.fr ((pT q ps).map λi=>aj (aE q ps i))) (Nh m ps cs q (some (.fr ((pT q ps).map aj))) (some (.fr ((pT q ps).map λi=>aj (aE q ps i)))) none none none none) ?_ ?_ ?_ :)
 ·refine ip (by rw[Ä];exact bO ∅) (fI (λx=>match x with | .int i=>aj (aE q ps i.toNat) | x=>x) (λx hx=>?_) ?_)
  ·obtain⟨i,hi,rfl⟩:=Ç.mp hx;obtain⟨hi,hh⟩:=aq i hi;refine(ae (DU hi) ?_ :);have e:=(Ed g hi hh).1;refine⟨(?_:D.int ((pq ps i).1 + ((pq ps i).2 + 0) - (q:Int))=D.int (aE q ps i:Int)),rfl⟩;rw[← e,Int.add_zero]
  ·rw[Ó];exact⟨rfl,rfl⟩
 ·rw[bg (show bM (.fr ((pT q ps).map λi=>aj (aE q ps i)))=true from by
   have:∀ l:Zh,bo (l.map λi=>aj (aE q ps i))=true:=by
    intro l
    induction l with
    |nil=>rfl|cons a r ih=>exact ih
   exact this _)];rfl
 refine ib (b:=!((((pT q ps).map λi=>aj (aE q ps i)).length:Int) == 2)) (λh=>er 4 1e1) λh=>?_
 have h2:(pT q ps).length=2:=by
  have h:=eq_of_beq (Xf.mp h:_=true);rw[Ä] at h;omega
 obtain⟨u,v,e⟩:∃ u v,pT q ps=[u,v]:=by
  match hA:pT q ps,h2 with
  |[u,v],_=>exact⟨u,v,rfl⟩
 rw[e] at aq;obtain⟨hu,hu'⟩:=aq u Ë;obtain⟨hv,hv'⟩:=aq v (È _ Ë);have c1:=dQ ha (n:=u) ∅
 have c2:=dQ ha (n:=v) ∅
 have hQ:=hQ u v e;rw[e];refine ib (b:=(aE q ps u:Int) == (aE q ps v:Int)) (λh=>er 4 1e1) λh=>?_
 have hne:aE q ps u≠aE q ps v:=λe=>ne_of_beq_false h (by rw[e])
 generalize hx:aE q ps u=x at hQ hne;generalize hy:aE q ps v=y at hQ hne;have ex:(Uc (λi=>aj (aE q ps i)) [u,v])=[aj x,aj y]:=by rw[← hx,← hy];rfl
 rw[ex];refine(cu (.d (pr (jU cs u v))) (Nh m ps cs q (some (.fr [aj u,aj v])) (some (.fr [aj x,aj y])) (some (.d (pr (jU cs u v)))) none none none) ?_ ?_ ?_ :)
 ·refine(ae (kC (cs:=cs) (n:=u) ∅) ?_ :)
  refine(ae (kC (cs:=cs) (n:=v) ∅) ?_ :)
  exact Wo (vO (k + 5) c1.bd c2.bd 1e1 z) ⟨rfl,rfl⟩
 ·rw[bg rfl];rfl
 cases hch:zt (pr (jU cs u v)) with
 |false=>exact We (iX (k + 5) z hch) (er 5 1e1)
 |true =>
  refine Wo (iW (k + 5) z hch) ?_;have kl:=ye (ps:=ps) (q:=q);refine(cu (.d (.tup [aJ (m - 1) (bh q ps),.tup ((iY q ps cs).map pr)])) (Nh m ps cs q (some (.fr [aj u,aj v])) (some (.fr [aj x,aj y])) (some (.d (pr (jU cs u v)))) (some (.d (aJ (m - 1) (bh q ps)))) (some (.d (.tup ((iY q ps cs).map pr)))) none) ?_ ?_ ?_ :)
  ·exact Wo (wk (k + 4) g hc q z) ⟨rfl,rfl⟩
  ·rw[bg (show bM (.d (.tup [aJ (m - 1) (bh q ps),.tup ((iY q ps cs).map pr)]))=true from by
    show((true&&(bo (Uc pr _)&&true))&&(bo (Uc pr _)&&true))=true;rw[bJ,bJ];rfl)];rfl
  refine(cu (.d (pr (kE q x y))) (Nh m ps cs q (some (.fr [aj u,aj v])) (some (.fr [aj x,aj y])) (some (.d (pr (jU cs u v)))) (some (.d (aJ (m - 1) (bh q ps)))) (some (.d (.tup ((iY q ps cs).map pr)))) (some (.d (pr (kE q x y))))) ?_ ?_ ?_ :)
  ·exact Wo (iM (k + 7) x q z) (Wo (iM (k + 7) y q z) (Wo (zF (k + 7) _ _ z) ⟨rfl,rfl⟩))
  ·rw[bg rfl];rfl
  refine Wo (Ec (k + 7) (l:=bh q ps) (ds:=iY q ps cs) (by rw[Ä];omega) (by rw[Ä];omega) (kE q x y) (jU cs u v) z) ?_
  show Q _ (cW z z);rw[bD];exact hQ hne (D9 hch)
end
theorem Ee:∀ {l:Za},(l.Pairwise λp q=>HT.leB (ky p) (ky q)=true)->((l.take (cR t l)++t::l.drop (cR t l)).Pairwise λp q=>HT.leB (ky p) (ky q)=true)
 |[],_=>Ub _ _
 |a::r,h=>by
  have hr:=h.of_cons;have ha:=λb hb=>Tv h (a':=b) hb;by_cases e:HT.leB (ky a) (ky t)=true
  ·have ec:cR t (a::r)=cR t r + 1:=by unfold cR;rw[Rc,if_pos e];rfl
   rw[ec];refine .cons (λb hb=>?_) (Ee hr);rcases ë.mp hb with hb | hb
   ·exact ha b (R1 hb)
   ·rcases ß.mp hb with rfl | hb
    ·exact e
    ·exact ha b (Ru hb)
  ·have s:t.1 < a.1\/(t.1=a.1/\t.2 < a.2):=by
    rw[jz] at e;clear hr ha;omega
   have st:∀ b∈a::r,t.1 < b.1\/(t.1=b.1/\t.2 < b.2):=λb hb=>by
    rcases ß.mp hb with rfl | hb
    ·exact s
    ·rcases s with s | ⟨s,s'⟩ <;> rcases jz.mp (ha b hb) with k | ⟨k,k'⟩
     ·exact .inl (Int.lt_trans s k)
     ·exact .inl (k ▸ s)
     ·exact .inl (s ▸ k)
     ·exact .inr ⟨s.trans k,Int.lt_of_lt_of_le s' k'⟩
   have le:∀ b∈a::r,HT.leB (ky t) (ky b)=true/\¬ HT.leB (ky b) (ky t)=true:=λb hb=>by
    refine⟨jz.mpr ((st b hb).imp_right λx=>⟨x.1,Int.le_of_lt x.2⟩),λk=>?_⟩;rcases st b hb with s | ⟨s,s'⟩ <;> rcases jz.mp k with k | ⟨k,k'⟩
    ·exact Int.lt_irrefl _ (Int.lt_trans s k)
    ·exact Int.ne_of_lt s k.symm
    ·exact Int.ne_of_lt k s.symm
    ·exact Int.lt_irrefl _ (Int.lt_of_lt_of_le s' k')
   have ec:cR t (a::r)=0:=by
    unfold cR;rw[Uk.mpr λb hb=>(le b hb).2];rfl
   rw[ec];exact .cons (λb hb=>(le b hb).1) h
def wq{l:Za}{a:Nat}(h:a<=l.length)(x:Int × Int)(n:Nat)(d:Int × Int):(l.take a++x::l.drop a).getD (if n < a then n else n + 1) d=l.getD n d:=by
 rw[Æ,Æ]
 congr 1
 have hl:(l.take a).length=a:=by rw[QP];omega
 split
 ·rename_i q;rw[Sb ∅,Ti,if_pos q]
 ·rename_i q;rw[QJ ∅,hl,show n + 1 - a=(n - a) + 1 by omega,List.getElem?_cons_succ,Tj]
  congr 1
  omega
def zL{l:Za}{a:Nat}(h:a<=l.length)(x:Int × Int)(d:Int × Int):(l.take a++x::l.drop a).getD a d=x:=by
 have hl:(l.take a).length=a:=by rw[QP];omega
 rw[Æ,QJ ∅,hl,Nat.sub_self];rfl
def hU{l:Za}{a:Nat}(h:a<=l.length)(x:Int × Int):(l.take a++x::l.drop a).length=l.length + 1:=by
 rw[Rk,Ü,QP,RV];omega
def wt(h:a<=K):(Ö (K + 1)).Perm (a::(Ö K).map λn=>if n < a then n else n + 1):=by
 have inj:∀ i j:Nat,(if i < a then i else i + 1)=(if j < a then j else j + 1)->i=j:=λi j e=>by split at e <;> split at e <;> omega
 have no:∀ i:Nat,(if i < a then i else i + 1)≠a:=λi e=>by split at e <;> omega
 refine(RB S0 (Q7.mpr ⟨λq=>?_,?_⟩)).mpr λk=>?_
 ·obtain⟨i,_,e⟩:=Ç.mp q;exact no i e
 ·exact Wg _ (λi j hij e=>hij (inj i j e)) S0
 ·rw[UW,ü,mem_map];constructor
  ·intro hk;by_cases e:k=a
   ·exact .inl e
   ·refine .inr ⟨if k < a then k else k - 1,Î.mpr (by split <;> omega),?_⟩
    split <;> (try split) <;> omega
  ·rintro (rfl | ⟨i,hi,rfl⟩)
   ·omega
   ·have:=Î.mp hi;split <;> omega
def tS:cR t l<=l.length:=RQ _ _
section
variable {m:Int}{ps cs:Za}{q u v:Nat}
def mq(g:ax m ps)(hi:i∈lD q ps):i < ps.length/\tA ps i≠q/\tB ps i≠q/\tA ps i < tB ps i/\(tB ps i:Int) < m/\pq ps i=((tA ps i:Int),(tB ps i:Int)):=by
 have h1:=zK i hi;have h2:=(æ.mp hi).2;have h3:=g.tie _ (pP h1);unfold pS at h2;rw[WB,î,Xs,beq_eq_false_iff_ne,beq_eq_false_iff_ne] at h2;obtain⟨h3,h4,h5⟩:=h3;obtain⟨a,ea⟩:=Rw h3;obtain⟨b,eb⟩:=Rw (Q6 h3 (QI h4));have e1:tA ps i=a:=congrArg Int.toNat ea;have e2:tB ps i=b:=congrArg Int.toNat eb;rw[e1,e2];rw[ea,eb] at h4;rw[ea] at h2;rw[eb] at h2 h5;exact⟨h1,λe=>h2.1 (by rw[e]),λe=>h2.2 (by rw[e]),Ut.mp h4,h5,YW ea eb⟩
def pU(ha:a≠q)(hb:b≠q)(h:a < b):ck q a < ck q b:=by
 unfold ck;split <;> split <;> omega
def zM{x M:Nat}(xq:x≠q)(xm:x < M)(qm:q < M):ck q x + 1 < M:=by
 unfold ck;split <;> omega
def Ni(h:a<=b):ck q a<=ck q b:=by
 unfold ck;split <;> split <;> omega
def Nj(xq:x≠q)(yq:y≠q)(ne:x≠y):ck q x≠ck q y:=by
 rcases Nat.lt_or_gt_of_ne ne with h | h
 ·exact Ý (pU xq yq h)
 ·exact R0 (pU yq xq h)
def Nk(ne:a≠b)(ha:a + 1 < m.toNat)(hb:b + 1 < m.toNat):0<=((min a b:Nat):Int)/\((min a b:Nat):Int) < ((max a b:Nat):Int)/\((max a b:Nat):Int) < m - 1:=Nc ne (show(a:Int) < m - 1 by omega) (show(b:Int) < m - 1 by omega)
def Nl{a b:Nat}:(min a b=a/\max a b=b)\/(min a b=b/\max a b=a):=by
 rcases Vs a b with h | h
 ·exact .inl ⟨SE h,Tf h⟩
 ·exact .inr ⟨Ux h,V6 h⟩
def HA{a b:Int}{x:Nat}(h:(a=q/\b=x)\/(a=x/\b=q)):(a.toNat=q/\b.toNat=x)\/(a.toNat=x/\b.toNat=q):=by
 rcases h with ⟨rfl,rfl⟩ | ⟨rfl,rfl⟩
 ·exact .inl ⟨ä _,ä _⟩
 ·exact .inr ⟨ä _,ä _⟩
def Nm(xq:x≠q)(xm:(x:Int) < m)(qm:(q:Int) < m):1<=m - 1:=∅
def Ef(e:pT q ps=[u,v]):(Ö ps.length).Perm (u::v::lD q ps):=by
 have:=(List.filter_append_perm (λi=>pS q (pq ps i)) (Ö ps.length)).symm;rw[show(Ö ps.length).filter (λi=>pS q (pq ps i))=[u,v] from e] at this;exact this
def GO(g:ax m ps)(hj:j < (lD q ps).length):(bh q ps).getD j (0,0)=((ck q (tA ps ((lD q ps).getD j 0)):Int),(ck q (tB ps ((lD q ps).getD j 0)):Int)):=by
 have e:(lD q ps).getD j 0=(lD q ps)[j]:=by rw[Æ,Í hj];rfl
 rw[e];obtain⟨_,h1,h2,h3,_,_⟩:=mq g (QD hj);have:=pU h1 h2 h3;rw[Æ,Ø,Í hj];show(((min (ck q (tA ps (lD q ps)[j])) (ck q (tB ps (lD q ps)[j])):Nat):Int),((max (ck q (tA ps (lD q ps)[j])) (ck q (tB ps (lD q ps)[j])):Nat):Int))=_;rw[SE ∅,Tf ∅]
def Eg(g:ax m ps)(hq:(q:Int) < m)(e:pT q ps=[u,v]):RowW m ps (wm q ps (aE q ps u) (aE q ps v)) (lD q ps) u v (aE q ps u) (aE q ps v) q (cR (kE q (aE q ps u) (aE q ps v)) (bh q ps)) λn=>if n < cR (kE q (aE q ps u) (aE q ps v)) (bh q ps) then n else n + 1:=by
 have aq:∀ i∈pT q ps,i < ps.length/\pS q (pq ps i)=true:=λi hi=>⟨Î.mp (æ.mp hi).1,(æ.mp hi).2⟩;rw[e] at aq;obtain⟨hu,hu'⟩:=aq u Ë;obtain⟨hv,hv'⟩:=aq v (È _ Ë);obtain⟨_,x1,x2,x3⟩:=Ed g hu hu';obtain⟨_,y1,y2,y3⟩:=Ed g hv hv';have cl:cR (kE q (aE q ps u) (aE q ps v)) (bh q ps)<=(bh q ps).length:=tS;have ll:(bh q ps).length=(lD q ps).length:=Ä _;refine⟨Ef e,HA x1,HA y1,x2,y2,x3,y3,hq,λk hk=>⟨(mq g hk).2.1,(mq g hk).2.2.1⟩,?_,?_,λj hj=>?_⟩
 ·rw[hU cl,ll];exact wt (by rw[← ll];exact cl)
 ·unfold tA tB;rw[zL cl];show(((min _ _:Nat):Int).toNat=_/\((max _ _:Nat):Int).toNat=_)\/(((min _ _:Nat):Int).toNat=_/\((max _ _:Nat):Int).toNat=_);rw[ä,ä];exact Nl
 ·unfold tA tB;rw[wq cl,GO g hj];exact⟨ä _,ä _⟩
def HB(g:ax m ps)(hq:(q:Int) < m)(e:pT q ps=[u,v])(ne:aE q ps u≠aE q ps v):ax (m - 1) (wm q ps (aE q ps u) (aE q ps v)):=by
 have Wr:=Eg g hq e;have cl:cR (kE q (aE q ps u) (aE q ps v)) (bh q ps)<=(bh q ps).length:=tS;have ll:(bh q ps).length=(lD q ps).length:=Ä _;have pl:=(Ef e).length_eq;rw[ï,Ü,Ü] at pl;have h8:=g.len;have xq:=Wr.xq;have yq:=Wr.yq;have xm:=Wr.xm;have ym:=Wr.ym;refine⟨Nm xq xm hq,Q6 (Int.sub_le_self m 1e1) g.m6,by rw[hU cl,ll];exact(show ∀ a b:Nat,a=b + 1 + 1->a<=8->b + 1<=8 from λa b h1 h2=>by omega) _ _ pl h8,λp hp=>?_,?_⟩
 ·have inL:∀ p∈bh q ps,0<=p.1/\p.1 < p.2/\p.2 < m - 1:=λp hp=>by
   obtain⟨i,hi,rfl⟩:=Ç.mp hp;obtain⟨_,h1,h2,h3,h4,h5⟩:=mq g hi;have hb:=RG.mpr h4;exact Nk (Ý (pU h1 h2 h3)) (zM h1 (Nat.lt_trans h3 hb) (RG.mpr hq)) (zM h2 hb (RG.mpr hq))
  rcases ë.mp hp with hp | hp
  ·exact inL p (R1 hp)
  ·rcases ß.mp hp with rfl | hp
   ·exact Nk (Nj xq yq ne) (zM xq (RG.mpr xm) (RG.mpr hq)) (zM yq (RG.mpr ym) (RG.mpr hq))
   ·exact inL p (Ru hp)
 ·refine zC (Ee (QF.mpr ?_));have hs:(lD q ps).Pairwise (· < ·):=RS _ RH;refine Va (λ{i j} hi hj hij=>?_) hs;obtain⟨i0,i1,i2,i3,i4,i5⟩:=mq g hi;obtain⟨j0,j1,j2,j3,j4,j5⟩:=mq g hj;have h:=Tx.mp (vX g.ch) i j i0 j0 hij;have ei:ps[i]=pq ps i:=by have:=md i0;rw[Í i0] at this;exact gV this
  have ej:ps[j]=pq ps j:=by have:=md j0;rw[Í j0] at this;exact gV this
  rw[ei,ej,i5,j5,jz] at h;have ci:=pU i1 i2 i3;have cj:=pU j1 j2 j3;rw[jz];show((min (ck q (tA ps i)) (ck q (tB ps i)):Nat):Int) < ((min (ck q (tA ps j)) (ck q (tB ps j)):Nat):Int)\/(((min (ck q (tA ps i)) (ck q (tB ps i)):Nat):Int)=((min (ck q (tA ps j)) (ck q (tB ps j)):Nat):Int)/\((max (ck q (tA ps i)) (ck q (tB ps i)):Nat):Int)<=((max (ck q (tA ps j)) (ck q (tB ps j)):Nat):Int));rw[SE (Rj ci),Tf (Rj ci),SE (Rj cj),Tf (Rj cj)];rcases h with h | ⟨h,h'⟩
  ·exact .inl (Ut.mpr (pU i1 j1 (Ut.mp h)))
  ·exact .inr ⟨by rw[show tA ps i=tA ps j from Int.ofNat.inj h],Int.ofNat_le.mpr (Ni (Int.ofNat_le.mp h'))⟩
def A9{pl:Zh}(g:ax m ps)(hq:(q:Int) < m)(e:pT q ps=[u,v])(ne:aE q ps u≠aE q ps v)(hc:cs.length=ps.length)(ha:∀ c∈cs,c8 c)(hp:bU m pl)(hn:q ∉ pl):bq (m - 1) (wm q ps (aE q ps u) (aE q ps v)) (wo q ps cs (aE q ps u) (aE q ps v) (jU cs u v)) (pl.map (ck q))=bq m ps cs pl:=by
 have ll:(bh q ps).length=(lD q ps).length:=Ä _;have lc:(iY q ps cs).length=(lD q ps).length:=Ä _;have cl:cR (kE q (aE q ps u) (aE q ps v)) (bh q ps)<=(bh q ps).length:=tS;have cl':cR (kE q (aE q ps u) (aE q ps v)) (bh q ps)<=(iY q ps cs).length:=∅
 refine A7 (Eg g hq e) g (HB g hq e ne) hp hn hc ha (by rw[hU cl,hU cl',ll,lc]) (λj hj=>?_) (zL cl' _ _)
 show(wo q ps cs _ _ _).getD _ (0,1)=_;rw[wq cl',Æ,Ø,Í hj,Æ,Í hj];rfl
def Kt(hc:cs.length=ps.length)(ha:∀ c∈cs,c8 c)(h:c8 c):∀ d∈wo q ps cs x y c,c8 d:=λd hd=>by
 have inL:∀ d∈iY q ps cs,c8 d:=λd hd=>by
  obtain⟨i,hi,rfl⟩:=Ç.mp hd;exact dQ ha (by rw[hc];exact zK i hi)
 rcases ë.mp hd with hd | hd
 ·exact inL d (R1 hd)
 ·rcases ß.mp hd with rfl | hd
  ·exact h
  ·exact inL d (Ru hd)
end
theorem HC{F:FT}{p:gN}{cond el:Ex}{ρ0:Env}{E:Nat->Z->Prop}{I:Z->Prop}(c:L2.D->Bool)(o:L2.D->L2.D):∀ {xs:List L2.D}{z:Z}{R:List L2.D->Z->Prop},I z->(∀ x∈xs,∀ z,I z->bC (bR p x ρ0) λρ=>WE F cond ρ z (λy z1=>bC (one y) λs=>I z1/\∃ b,s=.d (.bl b)/\(b=true->c x=true/\WE F el ρ z1 (λy z2=>bC (pl y) λd=>d=o x/\z2=z1) NE)) NE) ->
  (∀ ys z1,I z1->ys.Sublist ((xs.filter c).map o)->R ys z1)->W (turns (eX (ev F (.cons cond .nil)) (ev F el) p ρ0) xs) z R E
 |[],z,R,hi,_,q=>iU.mpr (q [] z hi .slnil)
 |x::r,z,R,hi,h,q=>by
  show W (Zd (eX _ _ p ρ0 x) _) z R E;refine fH.mpr (zm.mpr ?_);obtain⟨ρ,e,h0⟩:=c7 (h x Ë z hi);refine ae e (aQ.mpr ((aQ.mp h0).imp λy z1 h1=>?_));obtain⟨s,e,D2,b,rfl,h2⟩:=c7 h1;refine ae e ?_;show if b=true then _ else _;have hr:=λ{R:List L2.D->Z->Prop} (q:∀ ys z1,I z1->ys.Sublist ((r.filter c).map o)->R ys z1)=>HC (E:=E) c o (z:=z1) D2 (λy hy=>h y (È _ hy)) q;cases b with
  |false =>
   refine fH.mpr (hr λys z2 hi2 hs=>iU.mpr (q ys z2 hi2 ?_));rw[Rc];split
   ·exact hs.cons _
   ·exact hs
  |true =>
   obtain⟨hc,h3⟩:=h2 rfl;refine aQ.mpr ((aQ.mp h3).imp λy z2 h3=>?_);obtain⟨d,e,rfl,rfl⟩:=c7 h3;refine ae e (fH.mpr (hr λys z2 hi2 hs=>iU.mpr (q _ z2 hi2 ?_)));rw[Rc,if_pos hc];exact hs.cons_cons _
def pV(he:WE F e ρ z (λl z1=>bC (one l) λs=>bM s=true/\bC (iS p s ρ) λρ'=>WS F tp r ρ' z1 Q E) NE):WS F tp (.seq (.set p e) r) ρ z Q E:=by
 show WE F e ρ z (λl z1=>bC (one l) λs=>bC (iS p s (cV s ρ)) λρ'=>WX F tp r ρ' z1 Q E) E;refine aQ.mpr ((aQ.mp he).imp λl z1 h=>?_);obtain⟨s,e,hb,h⟩:=c7 h;refine ae e ?_;rw[bg hb];exact h
def Ku(g:ax m ps)(h1:1<=c)(h6:c<=6):ax c (ps.filter λp=>decide (p.2 < c)):=
 ⟨h1,h6,ê (RQ _ _) g.len,λp hp=>by
  obtain⟨h2,h3⟩:=æ.mp hp;have h3:=of_decide_eq_true h3;have:=g.tie p h2;omega,zC ((vX g.ch).sublist US)⟩
def cm(k:Nat)(g:ax m ps)(z:Z):aA T (k + 3) bW [.d (aJ m ps)] z=some (.ok (.d (.tup ((Ö m.toNat).map aj))) z):=by
 have h1:=g.m1;have h6:=g.m6;refine W.ok (bI (ps:=1) (ns:=1) (b:=kA) rfl rfl 1e1 ?_)
 refine(ae (o:=KQ [.int m]) (gq ∅ ∅) ?_ :)
 exact sd rfl
def mQ(k:Nat)(hz:ZI z):W (aA T (k + 6) iB [.z]) z (λs z1=>ZI z1/\∃ m ps,s=.d (aJ m ps)/\ax m ps/\m<=3/\ps.length<=4) NE:=by
 refine vH hz (ps:=1) (ns:=3) (b:=iH) rfl rfl 1e1 ?_
 refine((rk k hz 1e1 (by decide:(4:Int)<=8)).imp λs z1 ⟨hz1,m,ps,e,g,hl⟩=>?_ :)
 subst e;have h1:=g.m1;have h8:=g.len;refine ip (by rw[Ä];exact bO ∅) (AS (λx=>match x with | .tup [_,.int b]=>decide (b < if m < 3 then m else 3) | _=>false) (λx=>x) (λx hx=>?_) ?_)
 ·obtain⟨p,_,rfl⟩:=Ç.mp hx;exact⟨rfl,rfl,λ_=>⟨rfl,rfl⟩⟩
 ·rw[Tg,SX];refine⟨hz1,(if m < 3 then m else 3),ps.filter λp=>decide (p.2 < if m < 3 then m else 3),rfl,Ku g (by split <;> omega) (by split <;> omega),by split <;> omega,ê (RQ _ _) ∅⟩
section
variable {m:Int}{ps cs:Za}
abbrev ud(m:Int)(ps cs:Za)(o3 o4 o5 o6 o7:Option S):Env:=[some .z,some (.d (aJ m ps)),some (.d (.tup (cs.map pr))),o3,o4,o5,o6,o7]
abbrev Np:Sm:=match aX with
 |.seq _ (.seq (.fr _ _ _ (.seq _ r)) _)=>r|_=>.nil
def GP(k:Nat){n:Nat}(g:ax m ps)(hc:cs.length=ps.length)(ha:∀ c∈cs,c8 c)(hn:n + 1 < ps.length)(ea:pf ps n=pf ps (n + 1))(hC:c8 (jC (cf cs n) (cf cs (n + 1)))){z:Z}{o3 o5 o6 o7:Option S}{R:O->Z->Prop}{E:Nat->Z->Prop}
 (q:∀ o4:Option S,R (.nx (ud m ps cs o3 o4 o5 o6 o7)) z) :
 WS (fD T (k + 36 + 2)) false Np (ud m ps cs o3 (some (.d (.tup [aJ m (ps.eraseIdx (n + 1)),.tup (((cs.set n (jC (cf cs n) (cf cs (n + 1)))).eraseIdx (n + 1)).map pr)]))) o5 o6 o7) z R E:=by
 have g':=g.cut (n + 1);have hl':((cs.set n (jC (cf cs n) (cf cs (n + 1)))).eraseIdx (n + 1)).length=(ps.eraseIdx (n + 1)).length:=by
  rw[S8,S8,QE,hc]
 have ha':∀ c∈(cs.set n (jC (cf cs n) (cf cs (n + 1)))).eraseIdx (n + 1),c8 c:=λc h=>by
  rcases List.mem_or_eq_of_mem_set ((UB _ _).mem h) with h | h
  ·exact ha c h
  ·rw[h];exact hC
 have es:=yb g (dB g.m1) hc ha hn ea rfl;refine Wo (cm (k + 35) g z) (Wo (cw (k + 27) g' (dB g.m1) hl' ha' z) (Wo (cm (k + 35) g z) (Wo (cw (k + 27) g (dB g.m1) hc ha z) ?_)));rw[es];refine ie (GK _) ?_;refine Wo (l6 (k + 31) (aJ m (ps.eraseIdx (n + 1))) z) ?_;refine ie (b:=pB (aJ m (ps.eraseIdx (n + 1))) != true) (by rw[g'.DI];rfl) ?_
 refine ie (b:=!((((cs.set n (jC (cf cs n) (cf cs (n + 1)))).eraseIdx (n + 1)).map pr).length == ((cs.map pr).length:Int) - 1)) ?_ ?_
 ·have:(((((cs.set n (jC (cf cs n) (cf cs (n + 1)))).eraseIdx (n + 1)).map pr).length:Nat):Int)=((cs.map pr).length:Int) - 1:=by
   rw[Ä,Ä,Rg (by rw[QE];omega),QE];omega
  rw[this,beq_self_eq_true];rfl
 ·exact q _
def Eh(k:Nat)(g:ax m ps)(hc:cs.length=ps.length)(ha:∀ c∈cs,c8 c){z:Z}(hz:ZI z){o3 o4 o5 o6 o7:Option S} :
 WS (fD T (k + 36 + 2)) false (Kp aX) (ud m ps cs o3 o4 o5 o6 o7) z (λo z1=>match o with
   |.nx _=>ZI z1/\S.d .bp=S.d (.bl true)
   |.rt s=>ZI z1/\s=S.d (.bl true)) NE:=by
 have h8:=g.len;refine(ae (DV (n:=(ps.map pr).length) (by rw[Ä];omega)) ?_ :)
 refine kX (λxs ρ z1=>z1=z/\(∀ x∈xs,∃ i:Nat,x=aj i/\i < ps.length)/\∃ (o3 o4 o5 o6 o7:Option S),ρ=ud m ps cs o3 o4 o5 o6 o7) _ ⟨rfl,λx hx=>?_,_,_,_,_,_,rfl⟩ ?_ ?_
 ·obtain⟨i,hi,rfl⟩:=Ç.mp hx;rw[Ä,← Sx,UW] at hi;exact⟨i,rfl,hi⟩
 ·rintro x r ρ z1 ⟨rfl,hx,o3,o4,o5,o6,o7,rfl⟩;obtain⟨n,rfl,hn⟩:=hx x Ë;have nx:∀ o3 o4 o5 o6 o7:Option S,z1=z1/\(∀ x∈r,∃ i:Nat,x=aj i/\i < ps.length)/\∃ (p3 p4 p5 p6 p7:Option S),ud m ps cs o3 o4 o5 o6 o7=ud m ps cs p3 p4 p5 p6 p7:=λo3 o4 o5 o6 o7=>⟨rfl,λx hx'=>hx x (È _ hx'),o3,o4,o5,o6,o7,rfl⟩;refine(Eb (k + 25) g hc ha hn z1 ?_ ?_ :)
  ·exact λc hc12=>ip hc12 (nx _ _ _ _ _)
  ·exact λh1 h2 h3=>GP k g hc ha h1 h2 h3 λo4=>nx _ _ _ _ _
 ·rintro ρ z1 ⟨rfl,_,o3,o4,o5,o6,o7,rfl⟩;exact⟨hz,rfl⟩
end
section
variable {m:Int}{ps cs:Za}{q u v:Nat}
abbrev Kv(n:Nat):Sm:=match aX with
 |.seq (.fr _ _ _ (.seq _ (.seq (.iff _ t _) _))) _=>rec t (λ_ r=>Kp r) n|_=>.nil
abbrev KU(m:Int)(ps cs:Za)(q u v:Nat):Option S:=some (.d (.tup [aJ (m - 1) (wm q ps (aE q ps u) (aE q ps v)),.tup ((wo q ps cs (aE q ps u) (aE q ps v) (jU cs u v)).map pr)]))
def GQ(k:Nat)(g:ax m ps)(hq:(q:Int) < m)(e:pT q ps=[u,v])(ne:aE q ps u≠aE q ps v)(hc:cs.length=ps.length)(ha:∀ c∈cs,c8 c)(hC:c8 (jU cs u v)){pl:Zh}(hp:bU m pl)(hn:q ∉ pl){z:Z}{o6 o7:Option S}{R:O->Z->Prop}{E:Nat->Z->Prop}
 (qq:∀ o6:Option S,R (.nx (ud m ps cs (some (.d (aj q))) (KU m ps cs q u v) (some (.d (.tup (pl.map aj)))) o6 o7)) z) :
 WS (fD T (k + 36 + 2)) false (Kv 2) (ud m ps cs (some (.d (aj q))) (KU m ps cs q u v) (some (.d (.tup (pl.map aj)))) o6 o7) z R E:=by
 have g':=HB g hq e ne;have h6:=hp.len g.m6;have ll:(bh q ps).length=(lD q ps).length:=Ä _;have lc:(iY q ps cs).length=(lD q ps).length:=Ä _;have cl:cR (kE q (aE q ps u) (aE q ps v)) (bh q ps)<=(bh q ps).length:=tS;have hl':(wo q ps cs (aE q ps u) (aE q ps v) (jU cs u v)).length=(wm q ps (aE q ps u) (aE q ps v)).length:=by rw[hU cl,hU ∅,ll,lc]
 have ha':=Kt (q:=q) (x:=aE q ps u) (y:=aE q ps v) hc ha hC;have es:=A9 g hq e ne hc ha hp hn;refine(cu (.d (.tup ((pl.map (ck q)).map aj))) (ud m ps cs (some (.d (aj q))) (KU m ps cs q u v) (some (.d (.tup (pl.map aj)))) (some (.d (.tup ((pl.map (ck q)).map aj)))) o7) ?_ ?_ ?_ :)
 ·refine ip (by rw[Ä];exact bO ∅) (fI (λx=>match x with | .int i=>aj (ck q i.toNat) | x=>x) (λx hx=>?_) ?_)
  ·obtain⟨i,_,rfl⟩:=Ç.mp hx;refine⟨?_,rfl⟩;show D.int ((i:Int) - (if decide ((q:Int) < i)=true then 1 else 0))=D.int ((ck q i:Nat):Int);refine congrArg D.int ?_;unfold ck;by_cases h:q < i
   ·rw[if_pos (decide_eq_true ∅),if_pos h];omega
   ·rw[if_neg (by simp;omega),if_neg h];omega
  ·rw[Ó,Ó];exact⟨rfl,rfl⟩
 ·rw[bg (show bM (.d (.tup ((pl.map (ck q)).map aj)))=true from cI _)];rfl
 refine Wo (cw (k + 27) g' (yc hp hn hq) hl' ha' z) (Wo (cw (k + 27) g hp hc ha z) ?_);rw[es];refine ie (GK _) ?_;refine Wo (jx (k + 29) (m:=m - 1) (ts:=(wm q ps (aE q ps u) (aE q ps v)).map pr) g'.DI (.tup ((wo q ps cs (aE q ps u) (aE q ps v) (jU cs u v)).map pr)) z) ?_;refine ie (b:=!AV ((wm q ps (aE q ps u) (aE q ps v)).map pr).length (.tup ((wo q ps cs (aE q ps u) (aE q ps v) (jU cs u v)).map pr))) (by rw[tE (by rw[Ä];exact hl') ha'];rfl) ?_
 exact qq _
def PF(q:Nat):D->Bool
 |.int i=>!(i == (q:Int))|_=>false
abbrev tU(m:Int)(q:Nat):Zh:=(Ö m.toNat).filter λi=>PF q (aj i)
def zN(h:i∈tU m q):i < m.toNat/\i≠q:=by
 obtain⟨h1,h2⟩:=æ.mp h;have h2:(!((i:Int) == (q:Int)))=true:=h2;rw[î,beq_eq_false_iff_ne] at h2;exact⟨Î.mp h1,λe=>h2 (by rw[e])⟩
def wu(hl:l.Sublist (tU m q))(ne:l≠[]):bU m l/\q ∉ l:=
 ⟨⟨ne,List.Pairwise.sublist hl (RS _ RH),λp hp=>by have:=(zN (hl.mem hp)).1;omega⟩,λh=>(zN (hl.mem h)).2 rfl⟩
def GR(k:Nat)(g:ax m ps)(hq:(q:Int) < m)(e:pT q ps=[u,v])(ne:aE q ps u≠aE q ps v)(hc:cs.length=ps.length)(ha:∀ c∈cs,c8 c)(hC:c8 (jU cs u v)){l:Zh}(hl:l.Sublist (tU m q))(full:tU m q≠[]){z:Z}(hz:ZI z){o6 o7:Option S}{R:O->Z->Prop}{E:Nat->Z->Prop}
 (qq:∀ (z:Z) (o3 o4 o5 o6 o7:Option S),ZI z->R (.nx (ud m ps cs o3 o4 o5 o6 o7)) z) :
 WS (fD T (k + 36 + 2)) false (Kv 1) (ud m ps cs (some (.d (aj q))) (KU m ps cs q u v) (some (.d (.tup (l.map aj)))) o6 o7) z R E:=by
 have h1:=g.m1;have h6:=g.m6;obtain⟨pl,g1,g2,hpl⟩:∃ pl:Zh,bU m pl/\q ∉ pl/\pl=if l.isEmpty=true then tU m q else l:=by
  cases l with
  |nil =>
   obtain⟨g1,g2⟩:=wu (List.Sublist.refl _) full;exact⟨_,g1,g2,rfl⟩
  |cons a r =>
   obtain⟨g1,g2⟩:=wu hl (by simp)
   exact⟨_,g1,g2,rfl⟩
 refine(cu (.d (.tup (pl.map aj))) (ud m ps cs (some (.d (aj q))) (KU m ps cs q u v) (some (.d (.tup (pl.map aj)))) o6 o7) ?_ ?_ ?_ :)
 ·refine ib (b:=(l.map aj).isEmpty) (λh=>?_) λh=>?_
  ·have hl0:l=[]:=by cases l with
    |nil=>rfl|cons a r=>cases h
   subst hl0;refine(ae (gq (m:=m) ∅ ∅) ?_ :)
   refine ip (by rw[Ä,ï];exact bO ∅) (AS (PF q) (λx=>x) (λx hx=>?_) ?_)
   ·obtain⟨i,_,rfl⟩:=Ç.mp hx;exact⟨rfl,rfl,λ_=>⟨rfl,rfl⟩⟩
   ·rw[Tg,SX,hpl];exact⟨rfl,rfl⟩
  ·have hl0:l.isEmpty=false:=by cases l with
    |nil=>cases h
    |cons a r=>rfl
   rw[hpl,hl0];exact⟨rfl,rfl⟩
 ·rw[bg (show bM (.d (.tup (pl.map aj)))=true from cI _)];rfl
 ·exact GQ k g hq e ne hc ha hC g1 g2 λo6=>qq _ _ _ _ _ _ hz
def Kw(g:ax m ps)(hq:(q:Int) < m)(e:pT q ps=[u,v]):aE q ps u∈tU m q:=by
 have Wr:=Eg g hq e;have xq:=Wr.xq;have xm:=Wr.xm;refine æ.mpr ⟨Î.mpr ∅,?_⟩
 show(!((aE q ps u:Int) == (q:Int)))=true;rw[î,beq_eq_false_iff_ne];generalize aE q ps u=x at xq;omega
def Kx(k:Nat)(g:ax m ps)(hq:(q:Int) < m)(e:pT q ps=[u,v])(ne:aE q ps u≠aE q ps v)(hc:cs.length=ps.length)(ha:∀ c∈cs,c8 c)(hC:c8 (jU cs u v))(full:tU m q≠[]){z:Z}(hz:ZI z){o5 o6 o7:Option S}{R:O->Z->Prop}{E:Nat->Z->Prop}
 (qq:∀ (z:Z) (o3 o4 o5 o6 o7:Option S),ZI z->R (.nx (ud m ps cs o3 o4 o5 o6 o7)) z) :
 WS (fD T (k + 36 + 2)) false (Kv 0) (ud m ps cs (some (.d (aj q))) (KU m ps cs q u v) o5 o6 o7) z R E:=by
 have h1:=g.m1;have h6:=g.m6;refine(pV ?_ :);refine(ae (gq (m:=m) ∅ ∅) ?_ :)
 refine ip (by rw[Ä,ï];exact bO ∅) (HC (I:=ZI) (PF q) (λx=>x) hz (λx hx z1 hz1=>?_) λys z1 hz1 hs=>?_)
 ·obtain⟨i,_,rfl⟩:=Ç.mp hx;refine ib (b:=!((i:Int) == (q:Int))) (λhb=>?_) λhb=>?_
  ·refine((dA (k + 35) 4 hz1 1e1 1e1).imp λs z2 ⟨hz2,n,e,_⟩=>?_ :)
   subst e;exact⟨hz2,_,rfl,λ_=>⟨hb,rfl,rfl⟩⟩
  ·exact⟨hz1,_,rfl,λh=>by cases h⟩
 ·rw[Tg,SX] at hs;obtain⟨l,rfl,hl⟩:=DN hs;refine⟨cI _,?_⟩;exact GR k g hq e ne hc ha hC hl full hz1 qq
def GU(k:Nat)(g:ax m ps)(hc:cs.length=ps.length)(ha:∀ c∈cs,c8 c){z:Z}(hz:ZI z){o3 o4 o5 o6 o7:Option S} :
 WS (fD T (k + 36 + 2)) false aX (ud m ps cs o3 o4 o5 o6 o7) z (λo z1=>match o with
   |.nx _=>ZI z1/\S.d .bp=S.d (.bl true)
   |.rt s=>ZI z1/\s=S.d (.bl true)) NE:=by
 have h1:=g.m1;have h6:=g.m6;refine(ae (gq (m:=m) ∅ ∅) ?_ :)
 refine kX (λxs ρ z1=>ZI z1/\(∀ x∈xs,∃ i:Nat,x=aj i/\(i:Int) < m)/\∃ (o3 o4 o5 o6 o7:Option S),ρ=ud m ps cs o3 o4 o5 o6 o7) _ ⟨hz,λx hx=>?_,_,_,_,_,_,rfl⟩ ?_ ?_
 ·obtain⟨i,hi,rfl⟩:=Ç.mp hx;have:=Î.mp hi;exact⟨i,rfl,∅⟩
 ·rintro x r ρ z1 ⟨hz1,hx,o3,o4,o5,o6,o7,rfl⟩;obtain⟨q,rfl,hq⟩:=hx x Ë;have nx:∀ (z:Z) (o3 o4 o5 o6 o7:Option S),ZI z->ZI z/\(∀ x∈r,∃ i:Nat,x=aj i/\(i:Int) < m)/\∃ (p3 p4 p5 p6 p7:Option S),ud m ps cs o3 o4 o5 o6 o7=ud m ps cs p3 p4 p5 p6 p7:=λz o3 o4 o5 o6 o7 h=>⟨h,λx hx'=>hx x (È _ hx'),o3,o4,o5,o6,o7,rfl⟩;refine(GN (k + 25) g hc ha hq z1 ?_ ?_ :)
  ·exact λc hc12=>ip hc12 (nx _ _ _ _ _ _ hz1)
  ·intro u v e ne hC;have full:tU m q≠[]:=λe0=>by
    have hm:aE q ps u∈tU m q:=Kw g hq e;rw[e0] at hm;cases hm
   exact Kx k g hq e ne hc ha hC full hz1 nx
 ·rintro ρ z1 ⟨hz1,_,o3,o4,o5,o6,o7,rfl⟩;exact Eh k g hc ha hz1
def tV(k:Nat)(g:ax m ps)(hc:cs.length=ps.length)(ha:∀ c∈cs,c8 c){z:Z}(hz:ZI z):W (aA T (k + 39) gm [.z,.d (aJ m ps),.d (.tup (cs.map pr))]) z (λs z1=>ZI z1/\s=S.d (.bl true)) NE:=by
 refine vH (k:=k + 36) hz (ps:=3) (ns:=8) (b:=aX) rfl rfl 1e1 ?_
 exact GU k g hc ha hz
end
def Qq(p q:Q3):Prop:=¬ MySort.aW (qk q) (qk p)=true
def Ei(l:List Q3):(eU l).Pairwise Qq:=by
 have h:=gS (l.map qD);rw[tO] at h;exact(QF.mp h).imp λh e=>by
  have h:MySort.aW (qk _) (qk _)=false:=h;rw[h] at e;cases e
abbrev ue(L:List Q3):Za:=L.map λt=>((t.2.1:Int),(t.2.2:Int))
theorem pW:∀ {L:List Q3}{a n:Nat}{js:Zh},(L.filter λt=>t.2.1 == 0).map (·.2.2)=Ro a n->a + n<=4->((L.filter λt=>!(t.2.1 == 0)).map (·.2.2)).Nodup->(∀ t∈L,t.2.1=0\/t.2.1=1/\t.2.2∈js)->ST.mF a js ((ue L).map ky)
 |[],_,_,_,_,_,_,_=>trivial
 |t::r,a,n,js,h1,h2,h3,h4=>by
  rcases h4 t Ë with h0 | ⟨h0,hj⟩
  ·rw[Rc,if_pos (by rw[h0];rfl),QS] at h1
   rw[Rc,if_neg (by rw[h0];decide)] at h3
   cases n with
   |zero=>cases h1
   |succ n =>
    rw[SR] at h1;obtain⟨e1,e2⟩:=SG h1;refine .inl ⟨?_,∅,pW e2 ∅ h3 λu hu=>h4 u (È _ hu)⟩
    show [(t.2.1:Int),(t.2.2:Int)]=_;rw[h0,e1];rfl
  ·rw[Rc,if_neg (by rw[h0];decide)] at h1
   rw[Rc,if_pos (by rw[h0];rfl),QS] at h3
   obtain⟨n1,n2⟩:=Q7.mp h3;refine .inr ⟨t.2.2,hj,?_,pW h1 h2 n2 λu hu=>?_⟩
   ·show [(t.2.1:Int),(t.2.2:Int)]=_;rw[h0];rfl
   ·rcases h4 u (È _ hu) with h | ⟨h,h'⟩
    ·exact .inl h
    ·refine .inr ⟨h,(List.mem_erase_of_ne λe=>n1 ?_).mpr h'⟩;exact Ç.mpr ⟨u,æ.mpr ⟨hu,by rw[h];rfl⟩,e⟩
section
variable {m1 m2:Int}{ps qs:Za}{f:Nat->Nat}
def Nq:∀ {l m:Zh},l.Perm m->l.Pairwise (· < ·)->m.Pairwise (· < ·)->l=m:=λp h1 h2=>p.eq_of_pairwise (λa b _ _ h h'=>by omega) h1 h2
def tW(g1:ax m1 ps)(h1:ps.length<=4)(h2:qs.length<=4):ST.mF 0 [0,1,2,3] ((ue (eU (rws f ps qs))).map ky):=by
 have pm:=bt (rws f ps qs);have f0:((rws f ps qs).filter λt=>t.2.1 == 0)=(Ö ps.length).map λi=>(pq ps i,0,i):=by
  unfold rws;rw[XT,Si.mpr λt ht=>by obtain⟨i,_,rfl⟩:=Ç.mp ht;rfl,Uk.mpr λt ht=>by obtain⟨i,_,rfl⟩:=Ç.mp ht;exact Û,Ri]
 have f1:((rws f ps qs).filter λt=>!(t.2.1 == 0))=(Ö qs.length).map λi=>(mm f (pq qs i),1,i):=by
  unfold rws;rw[XT,Uk.mpr λt ht=>by obtain⟨i,_,rfl⟩:=Ç.mp ht;exact Û,Si.mpr λt ht=>by obtain⟨i,_,rfl⟩:=Ç.mp ht;rfl,RN]
 refine pW (n:=ps.length) ?_ ∅ ?_ λt ht=>?_
 ·rw[← Sx];have p0:=(pm.filter λt=>t.2.1 == 0);rw[f0] at p0;have p1:=p0.map (·.2.2);rw[Ó,show(((·.2.2):Q3->Nat) ∘ λi=>(pq ps i,0,i))=λi=>i from rfl,Tg] at p1;refine Nq p1 (QF.mpr ?_) RH;have pw:=(Ei (rws f ps qs)).sublist (US (p:=λt=>t.2.1 == 0));have nd:(((eU (rws f ps qs)).filter λt=>t.2.1 == 0).map (·.2.2)).Nodup:=p1.nodup_iff.mpr S0;have nd:=QF.mp nd;refine(pw.and nd).imp_of_mem λ{x y} hx hy h=>?_;obtain⟨i,hi,rfl⟩:=Ç.mp (p0.mem_iff.mp hx);obtain⟨j,hj,rfl⟩:=Ç.mp (p0.mem_iff.mp hy);obtain⟨h,ne⟩:=h;have ne:i≠j:=ne;show i < j;have hi:=Î.mp hi;have hj:=Î.mp hj;refine Nat.lt_of_not_le λhji=>h ?_;have:=Tx.mp (vX g1.ch) j i hj hi ∅
  have ei:pq ps i=ps[i]:=gV ((md hi).symm.trans (Í hi));have ej:pq ps j=ps[j]:=gV ((md hj).symm.trans (Í hj));rw[← ei,← ej,jz] at this;have ji:((j:Nat):Int) < i:=Ut.mpr (Nat.lt_of_le_of_ne hji (QQ ne));exact zH.mpr (this.imp_right λx=>⟨x.1,(Int.lt_or_eq_of_le x.2).imp_right λy=>⟨y,.inr ⟨rfl,.inl ji⟩⟩⟩)
 ·have p0:=(pm.filter λt=>!(t.2.1 == 0));rw[f1] at p0;have p1:=p0.map (·.2.2);rw[Ó,show(((·.2.2):Q3->Nat) ∘ λi=>(mm f (pq qs i),1,i))=λi=>i from rfl,Tg] at p1;exact p1.nodup_iff.mpr S0
 ·rcases me (f:=f) pm ht with ⟨i,hi,rfl⟩ | ⟨i,hi,rfl⟩
  ·exact .inl rfl
  ·refine .inr ⟨rfl,?_⟩;show i∈[0,1,2,3];have:i=0\/i=1\/i=2\/i=3:=∅
   rcases this with rfl | rfl | rfl | rfl <;> decide
def tY:((ue (eU (rws f ps qs))).map ky).Nodup:=by
 have pm:((ue (eU (rws f ps qs))).map ky).Perm ((ue (rws f ps qs)).map ky):=((bt _).map _).map _;refine pm.nodup_iff.mpr ?_;unfold ue rws;rw[QT,QT,Ó,Ó,Ó,Ó];refine List.nodup_append.mpr ⟨?_,?_,?_⟩
 ·refine QF.mpr (VI.imp λ{a b} h e=>h ?_);have e:[(0:Int),(a:Int)]=[0,(b:Int)]:=e;have:=(SG (SG e).2).1;omega
 ·refine QF.mpr (VI.imp λ{a b} h e=>h ?_);have e:[(1:Int),(a:Int)]=[1,(b:Int)]:=e;have:=(SG (SG e).2).1;omega
 ·intro x hx y hy e;obtain⟨i,_,rfl⟩:=Ç.mp hx;obtain⟨j,_,rfl⟩:=Ç.mp hy;have e:[(0:Int),(i:Int)]=[1,(j:Int)]:=e;exact absurd (SG e).1 1e1
theorem wx:∀ {l:List Zi},l.Nodup->ub l=l
 |[],_=>rfl
 |x::r,h=>by
  obtain⟨h1,h2⟩:=Q7.mp h;unfold ub;rw[if_neg (λe=>h1 (Qu.mp e)),wx h2]
theorem Ej:∀ l:Za,Ce (l.map pr)=some (l.map ky)
 |[]=>rfl
 |p::r=>by
  show(jY [.int p.1,.int p.2]).bind (λk=>(Ce (r.map pr)).map (k::·))=_;rw[Ej r];rfl
def GV(h8:l.length<=8)(hl:ST.mF 0 [0,1,2,3] (l.map ky))(nd:(l.map ky).Nodup):pY .sset [.tup (l.map pr)]=some (.fr ((pC l).map pr)):=by
 show(Fo (l.map pr)).map S.fr=_;unfold Fo;rw[Ej];have e:((ub (l.map ky)).map ST.tD)=l.map pr:=by
  rw[wx nd,Ó];rfl
 show(if (l.map ky).length<=8/\(ST.Ep true (l.map ky)&&ST.Ep false (l.map ky))=true/\cF ((ub (l.map ky)).map ST.tD)=true then some (a7 ((ub (l.map ky)).map ST.tD)) else none).map S.fr=_;have l8:(l.map ky).length<=8:=by rw[Ä];exact h8
 rw[e,if_pos ⟨l8,by rw[ST.qU hl l8,ST.qU hl l8];rfl,rd _⟩,l7];rfl
def yf(h:l.length < 64):pY .sorted [.tup (l.map pr)]=some (.fr ((pC l).map pr)):=rh h
theorem zO:∀ l:Za,uL (l.map pr) (l.map pr)=true
 |[]=>rfl
 |p::r=>by
  show(((p.1 == p.1)&&((p.2 == p.2)&&true))&&uL (r.map pr) (r.map pr))=true;rw[zO r,beq_self_eq_true,beq_self_eq_true];rfl
def Ky(l:Za):fZ .ne (.lst (l.map pr)) (.lst (l.map pr))=some false:=by
 show(G8 (.lst (l.map pr)) (.lst (l.map pr))).map (!·)=_;unfold G8;rw[zw];show some (!uL (l.map pr) (l.map pr))=_;rw[zO];rfl
end
section
variable {m1 m2 M:Int}{ps qs cs ds:Za}{f:Nat->Nat}
def HD(M:Int)(l:List Q3):outD M l=.tup [aJ M (cO (eU l)),.tup ((ue (eU l)).map pr)]:=by
 unfold outD;rw[tO,Ó,Ó];unfold aJ cO ue;rw[Ó,Ó];rfl
def Ek:bM (.d (.tup [aJ M (cO l),.tup ((ue l).map pr)]))=true:=by
 show((true&&(bo ((cO l).map pr)&&true))&&(bo ((ue l).map pr)&&true))=true;rw[bJ,bJ];rfl
abbrev P5(m1 m2:Int)(ps qs cs ds:Za)(o5 o6 o7 o8 o9 o10 o11:Option S):Env:=[some .z,some (.d (aJ m1 ps)),some (.d (aJ m2 qs)),some (.d (.tup (cs.map pr))),some (.d (.tup (ds.map pr))),o5,o6,o7,o8,o9,o10,o11]
abbrev KW(m1 m2:Int)(ps qs cs ds:Za)(o5 o6:Option S)(M:Int)(L:List Q3):Option S->Option S->Option S->Env:=P5 m1 m2 ps qs cs ds o5 o6 (some (.d (aJ M (cO L)))) (some (.d (.tup ((ue L).map pr))))
abbrev Kz(m1 m2:Int)(ps qs cs ds:Za):D:=pr (aI ((bq m1 ps cs (Ö m1.toNat)).1 * (bq m2 qs ds (Ö m2.toNat)).1) ((bq m1 ps cs (Ö m1.toNat)).2 * (bq m2 qs ds (Ö m2.toNat)).2))
abbrev bH(n:Nat):Sm:=rec cC (λ_ r=>Kp r) n
abbrev Nr:Ex:=.bf .tuple (c1 (.comp 2 [3,4] (p2 (.v 0) (.v 1)) .seq (c1 v8) .nil (.idx (.idx (.lst (c2 v2 v3)) v0) v1)))
def Nt(cs ds:Za):D->D
 |.tup [.int w,.int n]=>if w=0 then pr (cf cs n.toNat) else pr (cf ds n.toNat)|x=>x
def El(hc:cs.length=ps.length)(hd:ds.length=qs.length)(h8:ps.length + qs.length<=8)(z:Z):WE F Nr (P5 m1 m2 ps qs cs ds o5 o6 o7 (some (.d (.tup ((ue (eU (rws f ps qs))).map pr)))) o9 o10 o11) z (λl z1=>bC (one l) λt=>t=.d (.tup ((mY cs ds (eU (rws f ps qs))).map pr))/\z1=z) NE:=by
 have pm:=bt (rws f ps qs);have ll:(eU (rws f ps qs)).length=ps.length + qs.length:=by rw[pm.length_eq,iK]
 refine ip (by rw[Ä,Ä,ll];exact bO ∅) (fI (Nt cs ds) (λx hx=>?_) ?_)
 ·obtain⟨p,hp,rfl⟩:=Ç.mp hx;obtain⟨t,ht,rfl⟩:=Ç.mp hp;rcases me pm ht with ⟨i,hi,rfl⟩ | ⟨i,hi,rfl⟩
  ·refine(ae (kC (cs:=cs) (n:=i) ∅) ?_ :)
   exact⟨rfl,rfl⟩
  ·refine(ae (kC (cs:=ds) (n:=i) ∅) ?_ :)
   exact⟨rfl,rfl⟩
 ·refine⟨?_,rfl⟩;unfold mY ue;rw[Ó,Ó,Ó];refine congrArg (λl=>S.d (.tup l)) (QB λt ht=>?_);show(if (t.2.1:Int)=0 then pr (cf cs (t.2.2:Int).toNat) else pr (cf ds (t.2.2:Int).toNat))=pr (if t.2.1=0 then cf cs t.2.2 else cf ds t.2.2);rw[ä];by_cases h:t.2.1=0
  ·rw[if_pos h,if_pos ∅]
  ·rw[if_neg h,if_neg ∅]
def Em(hc:cs.length=ps.length)(hd:ds.length=qs.length)(hcs:∀ c∈cs,c8 c)(hds:∀ c∈ds,c8 c):∀ c∈mY cs ds (eU (rws f ps qs)),c8 c:=λc h=>by
 obtain⟨t,ht,rfl⟩:=Ç.mp h;rcases me (bt _) ht with ⟨i,hi,rfl⟩ | ⟨i,hi,rfl⟩
 ·exact dQ hcs (show i < cs.length by omega)
 ·exact dQ hds (show i < ds.length by omega)
structure KA(m1 m2:Int)(ps qs cs ds:Za):Prop where
 g1:ax m1 ps
 g2:ax m2 qs
 m1:m1<=3
 m2:m2<=3
 l1:ps.length<=4
 l2:qs.length<=4
 hc:cs.length=ps.length
 hd:ds.length=qs.length
 hcs:∀ c∈cs,c8 c
 hds:∀ c∈ds,c8 c
abbrev LB(m1:Int)(ps qs:Za):List Q3:=eU (rws (Kq m1) ps qs)
abbrev LH(m1:Int)(p t:Nat)(ps qs:Za):List Q3:=eU (rws (qo m1 p t) ps qs)
def KA.KC(w:KA m1 m2 ps qs cs ds):ax (m1 + m2) (cO (LB m1 ps qs)):=by
 have a1:=w.g1.m1;have b1:=w.g2.m1;have:=w.m1;have:=w.m2;have:=w.l1;have:=w.l2;refine ax.rows (f:=Kq m1) (bt _) (pQ _) w.g1 w.g2 ∅ ∅ ∅ (λi hi=>?_) λi j hi hj e=>?_
 ·show((m1.toNat + i:Nat):Int) < _;omega
 ·have e:m1.toNat + i=m1.toNat + j:=e;omega
def KA.PH(w:KA m1 m2 ps qs cs ds){p t:Nat}(hp:(p:Int) < m1)(ht:(t:Int) < m2):ax (m1 + m2 - 1) (cO (LH m1 p t ps qs)):=by
 have a1:=w.g1.m1;have b1:=w.g2.m1;have:=w.m1;have:=w.m2;have:=w.l1;have:=w.l2;refine ax.rows (f:=qo m1 p t) (bt _) (pQ _) w.g1 w.g2 ∅ ∅ ∅ (λi hi=>?_) λi j hi hj e=>?_
 ·have:=Hy (m2:=m2) a1 hp ht (i:=i) ∅
  omega
 ·rw[← tP (i:=i) (t:=t) (RG.mpr hp),← tP (i:=j) (t:=t) (RG.mpr hp),e]
def KD(k:Nat)(w:KA m1 m2 ps qs cs ds)(hz:ZI z) :
 WS (fD T (k + 36 + 2)) false (bH 8) (KW m1 m2 ps qs cs ds o5 o6 (m1 + m2) (LB m1 ps qs) o9 o10 o11) z (λo z1=>match o with
   |.nx _=>ZI z1/\S.d .bp=S.d (.bl true)
   |.rt s=>ZI z1/\s=S.d (.bl true)) NE:=by
 have gM:=w.KC;have a1:=w.g1.m1;have b1:=w.g2.m1;have a3:=w.m1;have b3:=w.m2;have h4:=w.l1;have h4':=w.l2;have ha:=Em (f:=Kq m1) w.hc w.hd w.hcs w.hds;have hl:(mY cs ds (LB m1 ps qs)).length=(cO (LB m1 ps qs)).length:=by rw[Ä,Ä]
 refine(cu (.d (.tup ((mY cs ds (LB m1 ps qs)).map pr))) (KW m1 m2 ps qs cs ds o5 o6 (m1 + m2) (LB m1 ps qs) (some (.d (.tup ((mY cs ds (LB m1 ps qs)).map pr)))) o10 o11) (El w.hc w.hd ∅ z) ?_ ?_ :)
 ·rw[bg (show bM (.d (.tup ((mY cs ds (LB m1 ps qs)).map pr)))=true from bJ _)];rfl
 refine Wo (cm (k + 35) gM z) (Wo (cw (k + 27) gM (dB ∅) hl ha z) ?_)
 rw[tR (bt _) w.g1 w.g2 gM w.hd ha];refine(cu (.d (.tup (((Ö m2.toNat).map λi=>m1.toNat + i).map aj))) (KW m1 m2 ps qs cs ds o5 o6 (m1 + m2) (LB m1 ps qs) (some (.d (.tup ((mY cs ds (LB m1 ps qs)).map pr)))) o10 (some (.d (.tup (((Ö m2.toNat).map λi=>m1.toNat + i).map aj))))) ?_ ?_ ?_ :)
 ·refine(ae (gq (m:=m2) ∅ ∅) ?_ :)
  refine ip (by rw[Ä,ï];exact bO ∅) (fI (λx=>match x with | .int i=>aj (m1.toNat + i.toNat) | x=>x) (λx hx=>?_) ?_)
  ·obtain⟨i,_,rfl⟩:=Ç.mp hx;refine⟨?_,rfl⟩;show D.int (m1 + (i:Int))=D.int ((m1.toNat + i:Nat):Int);rw[show((m1.toNat + i:Nat):Int)=m1 + i by omega]
  ·refine⟨?_,rfl⟩;rw[Ó,Ó];rfl
 ·rw[bg (show bM (.d (.tup (((Ö m2.toNat).map λi=>m1.toNat + i).map aj)))=true from cI _)];rfl
 have gl:bU (m1 + m2) ((Ö m2.toNat).map λi=>m1.toNat + i):=⟨λe=>(dB b1).ne (UR.mp e),QF.mpr ((dB b1).up.imp λh=>by omega),λp hp=>by
  obtain⟨i,hi,rfl⟩:=Ç.mp hp;have:=Î.mp hi;omega⟩
 refine Wo (cw (k + 27) gM gl hl ha z) (Wo (cm (k + 35) w.g2 z) (Wo (cw (k + 27) w.g2 (dB b1) w.hd w.hds z) ?_));rw[wd (bt _) w.g1 w.g2 gM w.hc w.hd w.hcs w.hds];refine⟨hz,congrArg (λb=>S.d (.bl b)) ?_⟩;show(((_:Int) == _)&&(((_:Int) == _)&&true))=true;rw[beq_self_eq_true,beq_self_eq_true];rfl
def KG(k:Nat)(w:KA m1 m2 ps qs cs ds){p t:Nat}(hp:(p:Int) < m1)(ht:(t:Int) < m2)(hz:ZI z) :
 WS (fD T (k + 36 + 2)) false (bH 2) (KW m1 m2 ps qs cs ds o5 o6 (m1 + m2 - 1) (LH m1 p t ps qs) o9 o10 o11) z (λo z1=>match o with
   |.nx _=>ZI z1/\S.d .bp=S.d (.bl true)
   |.rt s=>ZI z1/\s=S.d (.bl true)) NE:=by
 have gM:=w.PH hp ht;have a1:=w.g1.m1;have b1:=w.g2.m1;have a3:=w.m1;have b3:=w.m2;have h4:=w.l1;have h4':=w.l2;have ha:=Em (f:=qo m1 p t) w.hc w.hd w.hcs w.hds;have hl:(mY cs ds (LH m1 p t ps qs)).length=(cO (LH m1 p t ps qs)).length:=by rw[Ä,Ä]
 have ll:(LH m1 p t ps qs).length=ps.length + qs.length:=by rw[(bt _).length_eq,iK]
 have wl:(ue (LH m1 p t ps qs)).length=ps.length + qs.length:=by rw[Ä,ll]
 refine(cu (.d (.tup ((mY cs ds (LH m1 p t ps qs)).map pr))) (KW m1 m2 ps qs cs ds o5 o6 (m1 + m2 - 1) (LH m1 p t ps qs) (some (.d (.tup ((mY cs ds (LH m1 p t ps qs)).map pr)))) o10 o11) (El w.hc w.hd ∅ z) ?_ ?_ :)
 ·rw[bg (show bM (.d (.tup ((mY cs ds (LH m1 p t ps qs)).map pr)))=true from bJ _)];rfl
 refine Wo (l6 (k + 31) (aJ (m1 + m2 - 1) (cO (LH m1 p t ps qs))) z) ?_;refine ie (b:=pB (aJ (m1 + m2 - 1) (cO (LH m1 p t ps qs))) != true) (by rw[gM.DI];rfl) ?_
 refine(ae (yf (l:=ue (LH m1 p t ps qs)) (by rw[wl];omega)) ?_ :)
 refine(ae (GV (l:=ue (LH m1 p t ps qs)) (by rw[wl];omega) (tW w.g1 h4 h4') tY) ?_ :)
 refine(ae (Ky _) ?_ :);refine ie (b:=!((((ue (LH m1 p t ps qs)).map pr).length:Int) == ((cs.map pr).length:Int) + ((ds.map pr).length:Int))) ?_ ?_
 ·have:(((ue (LH m1 p t ps qs)).map pr).length:Int)=((cs.map pr).length:Int) + ((ds.map pr).length:Int):=by
   rw[Ä,wl,Ä,Ä,w.hc,w.hd];omega
  rw[this,beq_self_eq_true];rfl
 refine(cu (.d (Kz m1 m2 ps qs cs ds)) (KW m1 m2 ps qs cs ds o5 o6 (m1 + m2 - 1) (LH m1 p t ps qs) (some (.d (.tup ((mY cs ds (LH m1 p t ps qs)).map pr)))) (some (.d (Kz m1 m2 ps qs cs ds))) o11) ?_ ?_ ?_ :)
 ·refine Wo (cm (k + 35) w.g1 z) (Wo (cw (k + 27) w.g1 (dB a1) w.hc w.hcs z) (Wo (cm (k + 35) w.g2 z) (Wo (cw (k + 27) w.g2 (dB b1) w.hd w.hds z) ?_)));exact Wo (wj (k + 34) (vW w.g1 (dB a1) w.hc w.hcs).s (vW w.g2 (dB b1) w.hd w.hds).s 1e1 z) ⟨rfl,rfl⟩
 ·rw[bg (show bM (.d (Kz m1 m2 ps qs cs ds))=true from Gw _)];rfl
 refine Wo (cm (k + 35) gM z) (Wo (cw (k + 27) gM (dB ∅) hl ha z) ?_)
 rw[ya (bt _) w.g1 w.g2 hp ht gM w.hc w.hd w.hcs w.hds];refine ie (GK _) ?_;have gl:bU (m1 + m2 - 1) (Ö m1.toNat):=⟨(dB a1).ne,(dB a1).up,λp hp=>by have:=(dB a1).lt p hp;omega⟩
 refine Wo (cm (k + 35) w.g1 z) (Wo (cw (k + 27) gM gl hl ha z) (Wo (cm (k + 35) w.g1 z) (Wo (cw (k + 27) w.g1 (dB a1) w.hc w.hcs z) ?_)));rw[wc (bt _) w.g1 w.g2 hp ht gM w.hc w.hd w.hcs w.hds];refine ie (GK _) ?_;refine(pV ?_ :);refine(x9 (k + 29) w.g1 w.g2 z (λh=>?_) λ_=>?_ :)
 ·unfold mX at h;rw[QL,decide_eq_true_eq,decide_eq_true_eq] at h;omega
 ·rw[HD];exact⟨Ek,KD k w hz⟩
def tZ(k:Nat)(w:KA m1 m2 ps qs cs ds)(hz:ZI z):W (aA T (k + 39) gj [.z,.d (aJ m1 ps),.d (aJ m2 qs),.d (.tup (cs.map pr)),.d (.tup (ds.map pr))]) z (λs z1=>ZI z1/\s=S.d (.bl true)) NE:=by
 have a1:=w.g1.m1;have b1:=w.g2.m1;have a3:=w.m1;have b3:=w.m2;have h4:=w.l1;have h4':=w.l2;refine vH (k:=k + 36) hz (ps:=5) (ns:=12) (b:=cC) rfl rfl 1e1 ?_
 refine((dA (k + 35) m1 hz ∅ ∅).imp λs z1 ⟨hz1,p,e,hp⟩=>?_ :)
 subst e;refine((dA (k + 35) m2 hz1 ∅ ∅).imp λs z2 ⟨hz2,t,e,ht⟩=>?_ :)
 subst e;refine(pV ?_ :);refine(D1 (k + 29) w.g1 w.g2 hp ht z2 (λh=>?_) λ_=>?_ :)
 ·unfold mX at h;rw[QL,decide_eq_true_eq,decide_eq_true_eq] at h;omega
 ·rw[HD];exact⟨Ek,KG k w hp ht hz2⟩
end
abbrev KH(ns:Zi)(j:Nat)(o2 o3 o4 o5:Option S):Env:=[some (.d (.lst (ns.map D.int))),some (.d (.int j)),o2,o3,o4,o5]
abbrev PJ(n:Nat):Sm:=match zp with
 |.seq (.fr _ _ _ b) _=>rec b (λ_ r=>Kp r) n|_=>.nil
def GW(b:Bool):∃ mo:Int,je (.lst [.int 5,.int 8]) (.int (if b=true then 1 else 0))=some (.int mo)/\0<=mo/\mo<=8:=by
 cases b with
 |true=>exact⟨8,rfl,-0,-0⟩|false=>exact⟨5,rfl,-0,-0⟩
def pX:bM (.d (aJ m ps))=true:=by
 show(true&&(bo (ps.map pr)&&true))=true;rw[bJ];rfl
section
variable {m1 m2 m:Int}{ps qs:Za}
def KI(k:Nat){ns:Zi}{j:Nat}{z:Z}(hz:ZI z){o3 o4 o5:Option S}{R:O->Z->Prop}{E:Nat->Z->Prop}(q:∀ (z:Z) (o2 o3 o4 o5:Option S),R (.nx (KH ns j o2 o3 o4 o5)) z) :
 WS (fD T (k + 37 + 2)) true (PJ 3) (KH ns j (some .z) o3 o4 o5) z R E:=by
 obtain⟨mo,emo,h0,h8⟩:=GW ((j:Int) == 0);refine(pV ?_ :);refine(ae emo ?_ :);refine((rk (k + 34) hz h0 h8).imp λs z2 ⟨hz2,m,ps,e,g,_⟩=>?_ :);subst e;refine⟨pX,?_⟩;refine((gJ (k + 34) (m:=m) (ts:=ps.map pr) hz2 (by rw[Ä];exact g.len)).imp λs z3 ⟨hz3,cs,e,hc,ha⟩=>?_ :)
 subst e;rw[Ä] at hc;refine((tV k g hc ha hz3).imp λs z4 ⟨hz4,e⟩=>?_ :);subst e;exact q _ _ _ _ _
def KJ(k:Nat){ns:Zi}{j:Nat}{z:Z}(hz:ZI z)(g1:ax m1 ps)(g2:ax m2 qs)(a3:m1<=3)(b3:m2<=3)(l1:ps.length<=4)(l2:qs.length<=4){o5:Option S}{R:O->Z->Prop}{E:Nat->Z->Prop}(q:∀ (z:Z) (o2 o3 o4 o5:Option S),R (.nx (KH ns j o2 o3 o4 o5)) z) :
 WS (fD T (k + 37 + 2)) true (PJ 2) (KH ns j (some .z) (some (.d (aJ m1 ps))) (some (.d (aJ m2 qs))) o5) z R E:=by
 refine((gJ (k + 34) (m:=m1) (ts:=ps.map pr) hz (by rw[Ä];exact g1.len)).imp λs z2 ⟨hz2,cs,e,hc,ha⟩=>?_ :)
 subst e;refine((gJ (k + 34) (m:=m2) (ts:=qs.map pr) hz2 (by rw[Ä];exact g2.len)).imp λs z3 ⟨hz3,ds,e,hd,hds⟩=>?_ :)
 subst e;rw[Ä] at hc hd;refine((tZ k ⟨g1,g2,a3,b3,l1,l2,hc,hd,ha,hds⟩ hz3).imp λs z4 ⟨hz4,e⟩=>?_ :);subst e;exact KI k hz4 q
def KL(k:Nat){ns:Zi}{j:Nat}{z:Z}(hz:ZI z){o3 o4 o5:Option S}{R:O->Z->Prop}{E:Nat->Z->Prop}(q:∀ (z:Z) (o2 o3 o4 o5:Option S),R (.nx (KH ns j o2 o3 o4 o5)) z) :
 WS (fD T (k + 37 + 2)) true (PJ 1) (KH ns j (some .z) o3 o4 o5) z R E:=by
 refine(pV ?_ :);refine((mQ (k + 33) hz).imp λs z2 ⟨hz2,m1,ps,e,g1,a3,l1⟩=>?_ :);subst e;refine((mQ (k + 33) hz2).imp λs z3 ⟨hz3,m2,qs,e,g2,b3,l2⟩=>?_ :);subst e;refine⟨?_,?_⟩
 ·have h1:bare (aJ m1 ps)=true:=pX;have h2:bare (aJ m2 qs)=true:=pX;show(bare (aJ m1 ps)&&(bare (aJ m2 qs)&&true))=true;rw[h1,h2];rfl
 ·exact ae (a:=KH ns j (some .z) (some (.d (aJ m1 ps))) (some (.d (aJ m2 qs))) o5) rfl (KJ k hz3 g1 g2 a3 b3 l1 l2 q)
end
abbrev GY(L:Int):Int:=if (if (5:Int) < L then 5 else L) > 1 then(if (5:Int) < L then 5 else L) else 1
def KN(k:Nat)(ns:Zi):aA T (k + 40) Hm [.d (.lst (ns.map D.int))] none=some (.ok (.d (.bl true)) none):=by
 refine W.ok (bI (k:=k + 37) (ps:=1) (ns:=6) (b:=zp) rfl rfl 1e1 ?_)
 have hN:0<=GY ((ns.map D.int).length:Int)/\GY ((ns.map D.int).length:Int) < 100000:=by
  unfold GY;split <;> (try split) <;> omega
 refine(ae (gq (m:=GY ((ns.map D.int).length:Int)) hN.1 hN.2) ?_ :);refine kX (λxs ρ z=>(∀ x∈xs,∃ j:Nat,x=.int j)/\∃ o1 o2 o3 o4 o5:Option S,ρ=[some (.d (.lst (ns.map D.int))),o1,o2,o3,o4,o5]) _ ⟨λx hx=>?_,_,_,_,_,_,rfl⟩ ?_ ?_
 ·obtain⟨i,_,rfl⟩:=Ç.mp hx;exact⟨i,rfl⟩
 ·rintro x r ρ z1 ⟨hx,o1,o2,o3,o4,o5,rfl⟩;obtain⟨j,rfl⟩:=hx x Ë;obtain⟨sn,sb,hz1,hst⟩:=DH (k + 35) ns j z1;refine Wo hst ?_;exact KL k hz1 λ_ _ _ _ _=>⟨λx hx'=>hx x (È _ hx'),_,_,_,_,_,rfl⟩
 ·rintro ρ z1 ⟨_,o1,o2,o3,o4,o5,rfl⟩;exact⟨rfl,rfl⟩
theorem pure:∀ ns:Zi,ns.length<=63->aA (tabOf rows) 40 Hm [.d (.lst (ns.map D.int))] none=some (.ok (.d (.bl true)) none):=λns _=>by
 rw[PC];exact KN 0 ns
open PySem L2 Q
theorem ok:rows.all (AO (j8 rows) nums)=true:=by decide +kernel
theorem bd:gd rows:=by
 repeat' first | exact trivial | refine⟨?_,?_⟩ | exact λ_ _ _ _ _ _ us hl=>by obtain⟨_,rfl⟩:=P1 hl;rfl | exact λ_ _ _ _ _ _ us hl=>by obtain⟨_,_,rfl⟩:=Qk hl;rfl | exact λ_ _ _ _ _ _ us hl=>by obtain⟨_,_,_,rfl⟩:=Ql hl;rfl | exact λ_ _ _ _ _ _ us hl=>by obtain⟨_,_,_,_,rfl⟩:=Qm hl;rfl | exact λ_ _ _ _ _ _ us hl=>by obtain⟨_,_,_,_,_,rfl⟩:=Qn hl;rfl
def hQ:JY (top 69):=⟨oP (by decide +kernel),by decide +kernel,by decide +kernel,⟨_,_,_,_,_,_,_,_,rfl⟩⟩
theorem hR:Dy rows ["_law_made_right"] [("_law_made",top 69)]:=λr hr hlm=>by
 have h:=Õ.mp (show rows.all (λr=>!r.lm || (["_law_made_right"]:Zk).contains r.nm)=true from by decide +kernel) r hr
 rw[hlm] at h;exact⟨Qu.mp h,top 69,.head _,hQ,λ_ _ _ _ _ _ us hl=>by obtain⟨_,rfl⟩:=P1 hl;rfl⟩
def asks:cx:=lX rows nums ["_law_made_right"] [("_law_made",top 69)]
def prg:Program:=ú
def vq:Program:=view prg [71]
def loose:Zk:=prg.boundNames.filter λx=>!(x == ("law":Str))
def runL(w:ó)(os:WO):=(kW PySem.W.through (PySem.W.stepOk 11 (some (.ref 6))) (PySem.W.stepT (denote treeTable) prg w) 20000 (Dw w os) (PySem.W.topStub prg)).map (λs =>
   (PySem.W.staticsOk (Tn prg.main.body) (Xm w.params) s.abs.heap&&PySem.W.namesBound prg s.abs.heap&&PySem.W.gensDone s.abs&&PySem.W.laidKept (Xm w.params) s.abs.heap,
    PySem.W.openSeen vq loose (Tn prg.main.body) (λ_=>true) true s.abs,asks.obs s.abs))
def runR(w:ó):=some (true,PySem.W.openGood vq loose,asks.NN w)
def _root_.PySem.W.Fast.tw14884867351009411954:PySem.Program:=ú
theorem _root_.PySem.W.Fast.te14884867351009411954:ú=PySem.W.Fast.tw14884867351009411954:=rfl
theorem twins:(λ(_:runL=runL/\runR=runR)=>true) ⟨rfl,rfl⟩=true:=by k_qdec
theorem run_eq:∀ (w:ó) (os:WO),PySem.W.Fast.tw14075725262101462980 w os=PySem.W.Fast.tw18139657281711212703 w:=λw os=>by kernel_rfl
theorem left:PySem.W.LeftO ú vq loose (λ_=>true) asks.hook.obs asks.hook.val 20000:=Gj (by kernel_rfl) rfl (λ_=>by kernel_rfl) λw os =>
 (congrFun (congrFun PySem.W.Fast.te14075725262101462980 w) os).trans ((run_eq w os).trans (congrFun PySem.W.Fast.te18139657281711212703 w).symm)
end K3
open PySem PySem.W PyProof.Rows
set_option maxRecDepth 100000 in
set_option maxHeartbeats 0 in
theorem PySem.Challenge.cw_tiechances_k88_whole_put_together_holds : PySem.Challenge.rw_tiechances_k88_whole_put_together.Holds := by
 w_on;o_law
 refine holds_open (q:=K3.vq) (loose:=K3.loose) (Xt:=λ_=>true) (XP:=λ_ _=>True) (Yf:=K3.asks.hook.obs) (Ya:=K3.asks.hook.val) (YP:=K3.asks.hook.says) K3.left K3.asks.hook.of K3.asks.hook.keeps (λ_ _=>trivial) (λ_ _ _ _ _=>trivial) (by rfl) (by rfl) (by rfl) (λs _=>recFacts_of rfl) rfl (by first | assumption | decide +kernel) (by decide +kernel) ⟨rfl,rfl,rfl,rfl,rfl,by decide +kernel⟩ ?hw ?hc
 case hw=>w_witness2
 case hc=>exact Q.Dz (l:=PySem.Challenge.rw_tiechances_k88_whole_put_together) (n:=63) (k:=40) (x:="_law_script") rfl 1e1 rfl ⟨rfl,-0,-0⟩ (Q.Gp (k:=37) (iL:=51) K3.ok K3.bd rfl rfl rfl 1e1 K3.hR K3.pure)