import PyProof.Rows.All
import Wide.All
import OpenK.AllK
import Wide.FinOn
import Lean
import PyProof.EqAt
import PyProof.EqKinds
import PyProof.TupleCall
import KE.KSortTup
import OpenK.KRaise
import OpenK.KOwn
import PyProof.ExcBaseAll.ValueError
import KE.KIsAll
import PyProof.ExcAttrAll.ValueError
import PyProof.NsDelKeeps
import PyProof.RulesAs
import KE.KTryMore
import KE.KLam
import KE.KNestM
import OpenK.KEqL
import PyProof.Rows.EqDataRows
import PyProof.NeKinds
import PyProof.FactsAll.dict
import PyProof.FactsAll.subtypes
import PyProof.ListRange
import PyProof.TupleOfGen
import PyProof.TupleOfSeq
import KE.KTupSum
import PyProof.Rows.SumAny
import PyProof.Rows.SetFrom
import KE.KRevSl
import PyProof.WalksMore
import PyProof.SetRoads
import PySem.Challenge.RW_tiechances_k62_whole_bounds
local macro_rules
|`(∅)=>`(by omega)
|`(-0)=>`(by decide)
local macro_rules
|`(tactic|omega)=>`(tactic|lia)
open PySem renaming wpAny_bind→À,Value→Ä,wpAny_pure→È,Shared→É,Addr→Ë,Expr→Ö,model→Ù,wpAny→Ú,Program→í,bootBuiltins→ù,Heap→û,World→ü,compareOp→c0,mainGlobals→gV,Around→p8,wpAny_newObj_type→My,starEach→Of,Scope→ON,wpAny_truthy_bool→OX,sizeLine_eq→O2,Paired→Pd,wpAny_field→Pe,foldedSetIterable→Pn,wpAny_pyIter_tuple→Py,wpAny_mono→Pz,wpAny_holding→PC,swappedStores→PD,wpAny_callSpecial?_slot→PL,cLine→PM,codeAny_builtin→PN,wpAny_standAt→P5,binaryOp→Qa,IsPair→Qb,codeAny→Qc,mem_of_lookup→Qf,wpAny_comprehension_free→Qh,Stmt→Qm,wpAny_seqItems→Qp,wpAny_call_entry→Qq,Env→Qs,wpAny_setField_rec→Qx,wpAny_rule→Qy,intKind→QA,wpAny_passesOwn→QB,wpAny_assign_Name→QH,wpAny_loadName_local→QT,call_meets→QU,assignEach→QV,NameKind→Q7,FuncData→Q8,Builtin→Ra,swapsWith→Rf,wpAny_pyIter_list→Rp,codeAny_mono→Rq,assign→Rr,wpAny_storeName_local→Rx,sliceBounds→RE,letOwnedTupleGo→RL,importedModules→RM,wpAny_typeOf→RX,Operator→R7,IsZip→R8,wpAny_pyIter_tupleiter→SG,wpAny_Name→SH,pyNext→SI,backTo→SJ,wpAny_tests_nil→SM,codeAny_of_tree→SW,wpAny_updateSeq_pair→S5,wpAny_newFunctionEnv→S6,lookup_relabel_local→S8,IsPart→Td,standAt→Tg,getItem→Tn,wpAny_onRaise→Tx,plainId_quiet→TF,foldedForSure→TN,wpAny_Call_Name_kw→TV,typeIs_int→TX,intKind_is→TY,IsTupleKey→T6,storedH→Ue,holding→Ui,callerA→Uk,noFill_tuple_add→UC,isTrue→UD,Meets→UM,CmpOp→UO,wpAny_execs_nil→UQ,theTreesLotGoes→UR,newList→UW,IsRange→U0,wpAny_runValue→U4,sysModules→U6,rawInt→U7,compTurn→U9,compPost→Va,compEnvC→Vb,builtinsNs→Vc,ZipApart→Vd,Result→Vh,GenState→Vq,wpAny_binaryOp_repeat_ref→Vv,wpAny_newList→VD,wpAny_attempt→VE,seq_tuple_add→VF,rangeSize_one→VH,behindInMarks→VI,assignInOrder→VJ,Comprehension→VS,tupleKind→VW,noteFrame→VX,field→VY,bindC→VZ,Arguments→Wa,richCompare_meets_room→Wc,pyIter→Wd,concat_meets→Wf,codeAny_loop→Wg,codeAny_compStart_list→Wh,OsState→Wj,ItemsOf→Wt,BindsTo→WA,wpAny_pyIter_listiter→WB,exec_Assign_Name_used→WC,wpAny_of_eq→WM,wpAny_noted→WN,wpAny_letGo→WO,unsupported→WQ,seqIndex_of→WR,richCompare→WT,bindName→WW,ReadsAll→WY,wpAny_loadName_cell→Xb,wpAny_load→Xq,tupleKind_room_in1→Xr,Thread→Xv,wpAny_storeSet_of→XD,wpAny_sequenceKey→XE,wpAny_pyIter_enum→XF,data2→XG,collect→XH,wpAny_pyIter_zip→XZ,wpAny_forIn_list→X0,wpAny_askSetting→X1,treeTable→X2,storeName→X3,small_one→X4,seqIndex?→X5,lastMarks→X6,checkBuiltinCall→X7,cellsFrom→X8,TriplesOk→Yb,call→Yd,DictEntry→Yo
open Bool renaming and_eq_true→Á,false_ne_true→Õ,not_eq_true'→ô,eq_iff_iff→O7,or_eq_true→Ph,true_and→Pw,eq_false_iff→PV,false_and→Rb,not_eq_false'→Sa,and_true→UP,and_false→Xp
open PySem.W renaming Frag→Â,boot_heap→QY,kas_item→Q2,excIn→RN,kia_tup→S1,kia_one→S2,codeHdIn→Ta,tabObj→T1,cellsFrom_some→UE,SharedT→UX,methodObj→U8,Frag→Vs,boot_heap→Vy,OpenLaw→V1,keepIn→Wi,Looks→WD,nsIn→WU,nsIn→WZ,boot_drawn→Xs,OpenLaw→XN,boot_toks→X9
open PySem.Heap renaming get?_push_of_some→Ã,get?_push_size→Í,lt_size→ë,size_push→Qi,IsTuple→Sl,get?_update_self→Su,SameBut→Tt,get?_update_other→U2,get?_push_ne→Wy,MadeExcOf→Xm,FlyingW→XU
open List renaming mem_cons_self→Å,mem_cons_of_mem→Æ,length_map→Ç,getD_eq_getElem?_getD→Ê,mem_append→Ì,mem_map→Î,mem_singleton→Ð,mem_append_right→Ò,getElem?_eq_getElem→Ø,mem_cons→Û,length_append→Ü,append_assoc→Ý,size_toArray→ß,map_map→à,all_eq_true→á,take_append_drop→ä,pairwise_append→å,length_cons→æ,mem_append_left→ç,getElem?_map→è,range→é,mem_range→ì,length_take→î,getElem?_eq_some_iff→ï,getElem?_set_ne→ñ,mem_filter→õ,append_nil→ö,replicate→ø,getElem?_set_self→ú,contains_iff_mem→þ,pairwise_cons→ÿ,mem_of_getElem?→p5,length_range→p6,contains_iff_mem→p9,drop_eq_getElem_cons→tv,map_append→OM,mem_cons→OO,lookup_cons→OP,length_drop→OQ,getElem?_take→OR,not_mem_nil→OU,pairwise_singleton→OZ,map_congr_left→O0,filterMap_cons→O4,all_cons→O5,nodup_cons→O6,mem_iff_getElem→O9,getElem_mem→Pb,getElem?_append_right→Pg,flatten_cons→Pj,mem_of_mem_take→Pl,mem_of_mem_drop→Pm,eq_nil_of_length_eq_zero→Px,filter_sublist→PB,drop_of_length_le→PF,length_set→PJ,length_nil→PK,take_sublist→PR,all_eq_true→PZ,getElem?_drop→P4,mem_of_find?_eq_some→P8,take_of_length_le→Qe,length_pos_iff→Qg,replicate_succ→Qj,length_filter_le→Qk,length_eq_one_iff→Qo,drop_sublist→Qr,dropLast_concat_getLast→Qt,map_cons→Qw,pairwise_lt_range→QC,perm_ext_iff_of_nodup→QE,getElem?_append→QF,take_length→QI,mem_filter→QL,getElem?_append_left→QN,filter_congr→QR,zip_cons_cons→QZ,range_eq_range'→Q3,perm_append_comm→Rl,mem_reverse→Ro,lookup→Rw,nodup_range→Ry,filter_cons→Rz,drop_append→RA,find?_some→RB,filter_sublist→RD,reverse_cons→RH,pairwise_map→RI,mem_range→RJ,mapM_cons→RK,nil_append→RU,length_reverse→RV,sublist_append_left→R0,drop_length→R4,cons_append→R5,mem_singleton→Sb,mem_flatten→Sd,isEmpty_iff→Se,getElem?_replicate→Sf,drop_drop→Sk,filter_map→Sr,length_singleton→Ss,map_take→SQ,isEmpty_iff→SR,any_eq_true→SX,mem_filterMap→S3,range_succ→Th,map_id→Tj,forIn_cons→To,zip_nil_left→Tp,reverse_perm→Tq,push_toArray→Tr,foldl_append→Ts,toArray→TC,map_drop→TK,range'_succ→TR,eq_nil_iff_forall_not_mem→TU,take_append_of_le_length→T5,take_take→T8,take_succ→T9,map_toArray→Uh,flatten_nil→Uj,setIfInBounds_toArray→Uy,pairwise_iff_getElem→UH,of_mem_zip→UK,foldl→UL,getElem?_cons_zero→UT,drop_eq_nil_of_le→UZ,take_left→U5,set_append_right→Vk,pairwise_reverse→Vl,length_replicate→Vm,getElem?_toArray→Vn,reverse_reverse→VA,getElem?_range→VN,flatten_append→VO,filter_eq_self→VP,zip_nil_right→V2,length_range'→V3,append_of_mem→V4,Nodup→V5,nodup_append→Wr,mapM_toArray→Ws,zipIdx_cons→WI,take_append→WJ,ext_getElem→WK,zipIdx_nil→W5,isPerm_iff→W6,foldr_cons→W7,foldl_cons→W8,map→Xg,forIn_nil→Xh,drop_left→Xj,all→Xk,getLast?→Xy,any_map→XQ,all_nil→XR,length→Yj
open Option renaming map_eq_some_iff→Ï,bind_eq_some_iff→Ñ,map→Rh,map_eq_some_iff→Sw,ne_none_iff_exists'→Uc,isSome_iff_exists→Ux,map_map→WG
open PyProof.Rows renaming wpS_bind→Ó,wpS_pure→Þ,SortSt→OL,callWith_type1→OS,wpS_forRange→OW,slot_tuple_getitem→Pc,seqObj→Pu,wpS_mono→QS,pendingOf→QX,SortKind→Q6,IntsAre→Q9,wpS_modify→Rc,listItems_at→RY,wpS_get→Sj,IsTup→SA,AllBare→SK,oneType'→S7,envOfC→S9,listUpdate_at→TL,assignInOrder_cons→TZ,Keyed→Uq,get?_update_seq→US,reverseSlice'→VG,subscriptTail_builtinR→Wb,keyLt'→We,args_tuple_getitem→Xu,assignInOrder_nil→XJ,Call_→XY,zipApart_new→Ys,le_int→Yt,callWith_builtin1→Yu
open Nat renaming le_refl→Ô,ne_of_lt→â,le_trans→ã,lt_of_lt_of_le→ê,lt_irrefl→O1,zero_le→PQ,le_add_right→PU,lt_succ_of_lt→Qz,min_eq_left→QK,pow_le_pow_right→QQ,lt_of_le_of_lt→Q4,le_of_lt→RF,zero_add→RS,lt_succ_self→Sq,ne_of_gt→SO,add_sub_cancel→Tc,mul_comm→Tu,succ_le_succ→T3,min_eq_right→T4,not_lt_zero→Uo,le_of_eq→Vi,le_mul_of_pos_left→Vj,mul_add→Vx,pow_lt_pow_right→VM,not_lt→Wn,eq_zero_or_pos→Wq,blt→WH,min_le_right→W2,max_eq_right→W3,le_max_right→W4,strongRecOn→Xd,max_eq_left→Xe,le_max_left→Xf,add_assoc→XO,sub_self→Ye,max→Yg,lt_or_ge→Yh,le_total→Yi,log2_lt→Yv
open PySem.Value renaming none→ð,ref→Pf,type→Pq,bool→QD,int→Rk,notImplemented→Sx,isInt→Vf
open Int renaming mul_le_mul_of_nonneg_left→ò,le_of_lt→ó,mul_comm→kr,le_trans→so,mul_le_mul_of_nonneg_right→O3,toNat_natCast→PY,mul_assoc→P0,mul_nonneg→QJ,sub_mul→QP,mul_le_mul→Q5,mul_pos→Rg,le_of_mul_le_mul_right→RP,eq_of_mul_eq_mul_right→RQ,emod_eq_of_lt→R1,natCast_pow→R3,eq_ofNat_of_zero_le→Si,emod_nonneg→SU,emod_lt_of_pos→SV,lt_of_le_of_lt→Te,mul_one→TJ,gcd_comm→TM,le_of_dvd→Ua,ediv_nonneg→Ur,pow_add→UB,natAbs_mul→UI,mul_zero→Vo,gcd_self_sub_right→Vp,one_mul→Vw,natAbs_dvd_natAbs→VB,mul_ediv_cancel'→VQ,le_refl→VR,toNat_of_nonneg→V6,natAbs_natCast→Wv,gcd_zero_right→Ww,add_emod_right→Wx,gcd_dvd_right→WL,le_antisymm→Xl,mul_sub→Yy
open PySem.NameKind renaming free→ý,cell→P7
open PySem.Challenge renaming pw_tiechances_k62_whole_bounds→p7,rw_tiechances_k62_whole_bounds→Xx
open Ne renaming symm→OT
open Option.some renaming inj→OV,injEq→Sz
open PySem.Obj renaming mapSeq→OY,putSet→Wk,data_mapFields→Wl
open PySem.Str renaming ofString→O8
open List.Nodup renaming length_le_of_subset→Pk
open PySem.Builtin.Range renaming rangeSize→Po,small→R9
open PySem.AutoSeq1 renaming wpAny_loadPart'→Pp,wpAny_loadPart'→PH,idx_int→S4,sub_tuple_tuple→Ud
open PySem.Heap.SameBut renaming update→P6,refl→Yz
open PySem.Around renaming under_plainId→P9
open False renaming elim→Qd
open PyProof.Rows.SortSt renaming mk'→Ql
open List.Pairwise renaming filter→Qn,sublist→Yk,of_cons→Yl,nil→Ym
open ForInStep renaming done→Qu,yield→Sv
open Array renaming toList_inj→QG,getElem?_eq_getElem→QM,length_toList→Q0,getElem?_toList→Rj,toArray_toList→RT,mk→Vu,ext_getElem?→VU,append_assoc→VV,size_append→V8,isEmpty_iff→V9
open PySem.F renaming slot_tuple_iterator_next→QO,called_set→QW,args_tuple_add_2→RO,entry_tuple_add→RZ,slot_tuple_add→R6,slot_tuple_lt→Sg,called_tuple→Sn,slot_zip_next→SE,slot_int_rmul→SF,args_tuple_mul_2→Tw,excBase_ValueError→T2,entry_tuple_mul→T7,slot_tuple_mul→Us,plain_tuple_new→Uu,plain_list_iadd→Uv,args_tuple_lt_2→Uw,entry_tuple_lt→UG,args_tuple_iterator_next_1→UJ,entry_tuple_iterator_next→UN,slot_tuple_ne_refl→Wz,args_zip_next_1→Xn,args_int_rmul_2→Xo,sub_tuple_dict→Xz,slot_int_index→XA,entry_zip_next→XB,entry_int_rmul→XC,plain_set_new→XW,fills_int_mul→XX,slot_dict_ne→Yn
open PySem.Builtin.List renaming listExtendWith→Ri,listTooLong→RC,listUpdate→YB,listFitsIndex→YC
open List.Perm renaming trans→Rm,eq_of_pairwise→RG,append_left→Uz
open True renaming intro→Rn
open PySem.Builtin.Tuple renaming tupleExact→Ru,tupleCompareSizes→Tz,tupleHashOf→Yp
open PySem.Builtin.SmallTypes renaming ownedTupleIsFree→Rv,nextOf→Ti,ownedTupleHandOut→TH
open PySem.PyData renaming depthAll→Sh,eqv→Ub,canLayAll0→VL,eqvAll→W0
open PyProof.Rows.F renaming plain_set_update_loop→So,entry_set_update_loop→VC
open PySem.W.Looks renaming ld→Sy,of_pure→TQ,here→Um
open Prod.mk renaming injEq→SD
open PySem.Builtin.Slice renaming slicePlaces→SN,sliceAdjust→Ug,slicePartIndex→Yq,sliceFields→Yr
open Sum renaming inr→SY,inl→S0
open PySem.Calls renaming spliced_nil→Tf,Name_function_global→Ut,evalArgs_plain→Vt,spliced_cons→VT
open Iff renaming rfl→Tv
open PySem.Walks renaming list→Ul,tuple→Ve
open PySem.Builtin.Int renaming intBits→UA
open PySem.IsRange renaming new→UU
open PySem.Shared renaming heap→UY
open And renaming intro→U3
open PySem.SetTable renaming insertAt→Vg,grown→V0
open Prod renaming ext→Vz
open PySem.Code renaming quiet_builtin→V7
open PyProof.Rows.IsTup renaming new→Wu
open PySem.Builtin.Frozenset renaming updateFrom→W9,newClass→Xa
open PyProof.Rows.LSm renaming range_all→Xc
open List.eraseDupsBy renaming loop→Xi
open PySem.SeqAt renaming shaped→Xw,EqAt→Yc
open PySem.W.WShape renaming has→XM
open PySem.Heap.IsSliceOf renaming new→XT
open List.Sublist renaming refl→Yw,append→Yx
open PySem.Heap.IsTuple renaming push→YA
local macro_rules
|`(command|def $i:declId $s:optDeclSig $v)=>`(noncomputable def $i:declId $s:optDeclSig $v)
|`(command|abbrev $i:declId $s:optDeclSig $v)=>`(noncomputable abbrev $i:declId $s:optDeclSig $v)
open PySem.W (methodObj hideAll hideAll_get of_hideAll fnOf kia_one kitx_none kitx_bool kitx_int kitx_str kitx_tuple kitx_list kitx_dict kitAny kia_tup mg_of view)
open PySem.Heap (lt_size size_push)
open List (range filterMap_cons mem_cons_self mem_cons_of_mem mem_append_left mem_append_right append_nil of_mem_zip replicate length_take take_sublist mem_of_getElem? length_append length_map size_toArray length_drop map_nil map_cons length_set reverse_cons replicate_succ flatten_cons foldl append_assoc lookup_cons forIn_cons toArray mem_cons not_mem_nil take_succ pairwise_singleton take_append_drop mem_of_mem_take mem_of_mem_drop drop_sublist map_drop map_take length_reverse drop_append drop_of_length_le drop_drop drop_eq_getElem_cons take_of_length_le length_cons take_left take_length drop_length take_take cons_append nil_append map_append length_range map_toArray pairwise_map zip_cons_cons length_nil map_congr_left mem_singleton mem_filter mem_range length_filter_le getElem_mem map_id mapM_cons any_eq_true all_cons all_map all_eq_true range' range_eq_range' range_succ filter_congr contains_iff_mem filter_cons pairwise_lt_range nodup_range filter_sublist filter_map isEmpty_iff flatten_nil)
open Array (length_toList toList toArray_toList)
open Nat (ne_of_gt zero_le le_add_right min_eq_left zero_add beq lt_succ_of_lt le_succ lt_succ_self ble pow_le_pow_right mul_add rec)
open Int (mul_one toNat_natCast emod_nonneg emod_lt_of_pos mul_le_mul_of_nonneg_left gcd gcd_comm natCast_pow le_of_dvd mul_nonneg mul_le_mul mul_pos pow_add mul_assoc add_mul one_mul zero_mul sub_mul)
open PyProof.Rows (lt_int)
open PySem.Builtin.Slice (sliceAdjust slicePlaces sliceApplied)
open PySem.Builtin.Tuple (tupleItemsOf tupleExact tupleCompareSizes tupleTooMany tupleIsExact)
open Bool (and_eq_true not_eq_true' or_eq_true not_eq_false' eq_false_iff)
open Option (getD_none map_eq_some_iff)
open ForInStep (yield)
open PySem.Builtin.SmallTypes (nextOf ownedTupleIsFree ownedTupleHandOut)
set_option bootstrap.genMatcherCode false
set_option compiler.extract_closed false
set_option genInjectivity false
set_option genSizeOf false
set_option autoImplicit true
set_option relaxedAutoImplicit true
set_option Elab.async false
set_option linter.all false
set_option maxRecDepth 100000
namespace L2
open PySem PySem.Spec PyProof.Rows
abbrev Key:=Sum Int Str
def F8:Key->Ä->Bool
 |.inl k,v=>Vf k v|.inr x,v=>Ä.isStrOf x v
def Mw(w:ü):Key->Int
 |.inl k=>hashInt k|.inr x=>hashStr w x
theorem bM:∀ {k:Key}{v:Ä},F8 k v=true->(∃ i t,k=S0 i/\v=Rk i t)∨(∃ x t,k=SY x/\v=Ä.str x t)
 |.inl i,v,h=>by
  obtain⟨t,e⟩:=Value.isInt_shape (k:=i) (v:=v) h;exact .inl ⟨i,t,rfl,e⟩
 |.inr x,v,h=>by
  obtain⟨t,e⟩:=Value.isStrOf_shape (x:=x) (v:=v) h;exact .inr ⟨x,t,rfl,e⟩
theorem GJ(a b:Int):decide ((S0 a:Key)=S0 b)=(a == b):=by
 by_cases e:a=b
 ·subst e;simp
 ·have h:¬ (S0 a:Key)=S0 b:=λq=>e (S0.inj q);rw[decide_eq_false h];exact(beq_eq_false_iff_ne.mpr e).symm
theorem GK(a b:Str):decide ((SY a:Key)=SY b)=decide (a=b):=by
 by_cases e:a=b
 ·subst e;simp
 ·have h:¬ (SY a:Key)=SY b:=λq=>e (SY.inj q);rw[decide_eq_false h,decide_eq_false e]
theorem GL(a:Int)(b:Str):decide ((S0 a:Key)=SY b)=false:=decide_eq_false (λq=>nomatch q)
theorem GN(a:Str)(b:Int):decide ((SY a:Key)=S0 b)=false:=decide_eq_false (λq=>nomatch q)
def xB(prog:í)(w:ü):PySem.KeyKind prog w Key where
 is:=F8
 hash:=Mw w
 inj:=λv a b ha hb=>by
  rcases bM ha with ⟨i,t,rfl,rfl⟩ | ⟨x,t,rfl,rfl⟩
  ·rcases bM hb with ⟨j,u,rfl,e⟩ | ⟨y,u,rfl,e⟩
   ·injection e with e1 _;rw[e1]
   ·exact nomatch e
  ·rcases bM hb with ⟨j,u,rfl,e⟩ | ⟨y,u,rfl,e⟩
   ·exact nomatch e
   ·injection e with e1 _;rw[e1]
 byValue:=λk v h=>by
  rcases bM h with ⟨i,t,rfl,rfl⟩ | ⟨x,t,rfl,rfl⟩ <;> rfl
 pyHash:=λhv h=>by
  rcases bM hv with ⟨i,t,rfl,rfl⟩ | ⟨x,t,rfl,rfl⟩
  ·exact wpAny_pyHash_int h
  ·exact wpAny_pyHash_str h
 eqBool:=λhu hv h=>by
  rcases bM hu with ⟨i,t,rfl,rfl⟩ | ⟨x,t,rfl,rfl⟩
  ·rcases bM hv with ⟨j,u,rfl,rfl⟩ | ⟨y,u,rfl,rfl⟩
   ·rw[GJ] at h;exact wpAny_eqBool_int h
   ·rw[GL] at h;exact SeqAt.EqAt.int_str i t y u _ _ _ _ h
  ·rcases bM hv with ⟨j,u,rfl,rfl⟩ | ⟨y,u,rfl,rfl⟩
   ·rw[GN] at h;exact SeqAt.EqAt.str_int x t j u _ _ _ _ h
   ·rw[GK] at h;exact wpAny_eqBool_str h
 «strs»:=λk x t v h=>by
  rcases bM h with ⟨i,u,rfl,e⟩ | ⟨y,u,rfl,e⟩
  ·exact nomatch e
  ·injection e with e1 _;subst e1;cases v <;> rfl
inductive V where
 |bw | bl (b:Bool) | int (i:Int) | str (x:Str) | byt (b:Array UInt8) | fk (b:UInt64) | ref (a:Addr) | ty (n:String)
 deriving DecidableEq
def RelV:V->Ä->Prop
 |.bw,u=>u=ð|.bl b,u=>u=QD b|.int i,u=>∃ t,u=Rk i t|.str x,u=>∃ t,u=Ä.str x t|.byt b,u=>∃ t,u=Ä.bytes b t|.fk b,u=>∃ t,u=Ä.float b t|.ref a,u=>u=Pf a|.ty n,u=>u=Pq n
abbrev Vals:List V->List Ä->Prop:=Pd RelV
theorem Vals.length{xs:List V}{us:List Ä}(r:Vals xs us):xs.length=us.length:=Pd.length r
theorem Vals.get:∀ {xs:List V}{us:List Ä}{i:Nat}{x:V},Vals xs us->xs[i]?=some x->∃ u,us[i]?=some u/\RelV x u
 |_,_,_,_,.nil,e=>by simp at e|_,_,0,_,.cons r _,e=>by simp at e;subst e;exact⟨_,rfl,r⟩
 |_,_,i + 1,x,.cons _ t,e=>by
  obtain⟨u,h1,h2⟩:=Vals.get (i:=i) (x:=x) t (by simpa using e)
  exact⟨u,by simpa using h1,h2⟩
theorem Vals.set{x:V}{u:Ä}(r:RelV x u):∀ {xs:List V}{us:List Ä} (i:Nat),Vals xs us->Vals (xs.set i x) (us.set i u)
 |_,_,_,.nil=>.nil|_,_,0,.cons _ t=>.cons r t|_,_,i + 1,.cons q t=>.cons q (Vals.set r i t)
theorem Vals.append:∀ {xs ys:List V}{us ws:List Ä},Vals xs us->Vals ys ws->Vals (xs++ys) (us++ws)
 |_,_,_,_,.nil,s=>s|_,_,_,_,.cons r t,s=>.cons r (Vals.append t s)
theorem Vals.take:∀ {xs:List V}{us:List Ä} (n:Nat),Vals xs us->Vals (xs.take n) (us.take n)
 |_,_,0,_=>.nil|_,_,_ + 1,.nil=>.nil|_,_,n + 1,.cons r t=>.cons r (Vals.take n t)
theorem Vals.drop:∀ {xs:List V}{us:List Ä} (n:Nat),Vals xs us->Vals (xs.drop n) (us.drop n)
 |_,_,0,r=>r|_,_,_ + 1,.nil=>.nil|_,_,n + 1,.cons _ t=>Vals.drop n t
def JN:Option V->Option Ä->Prop
 |some v,some u=>RelV v u|none,none=>True|_,_=>False
def KV{κ:Type}:List (κ × V)->List (κ × Ä)->Prop:=Pd λ(p:κ × V) (q:κ × Ä)=>p.1=q.1/\RelV p.2 q.2
def kV:Key->V
 |.inl i=>.int i|.inr x=>.str x
inductive HO where
 |lst (xs:List V)
 |tup (xs:List V)
 |dK (kvs:List (Key × V)) | dT (kvs:List (List Key × V))
 |set (S:Int->Bool) (n:Nat)
 |ins (C dx:Addr) (fs:List (Str × V))
 |own (x:Addr)
 |xd (fs:List (Str × V))
 |met (f x:Addr)
 |GF (lo hi:Int)
 |frz (o:Obj) (u:HO)
 |fj (ps:Array Value)
 |ext (φ:Heap->Prop)
abbrev Hp:=Ë->Option HO
def upd(H:Hp)(a:Ë)(o:HO):Hp:=λb=>if b=a then some o else H b
theorem a7{H:Hp}{a:Ë}{o:HO}:upd H a o a=some o:=by unfold upd;rw[if_pos rfl]
theorem ax{H:Hp}{a b:Ë}{o:HO}(h:b≠a):upd H a o b=H b:=by unfold upd;rw[if_neg h]
theorem aM{H:Hp}{a b:Ë}{o:HO}(h:H a=some o)(h':H b=none):a≠b:=by
 intro e;subst e;rw[h] at h';cases h'
section
variable (P:í) (w:ü)
def cD(H:Hp)(h:û)(a:Ë):HO->Prop
 |.lst xs=>xs.length<=sizeLine/\∃ (ai:List Ä) (n:Nat),Vals xs ai/\h.get? a=some { cls:=.type "list",data:=.seq ai.toArray n }|.tup xs=>xs.length<=sizeLine/\∃ ai:List Ä,Vals xs ai/\SA h a ai.toArray|.dK kvs=>kvs.length<=sizeLine/\(a == U6)=false/\∃ vs,KV kvs vs/\h.DictOf (xB P w) a vs
 |.dT kvs=>kvs.length<=sizeLine/\(a == U6)=false/\∃ xs:List (List Key × Ë × Ä),
   Pd (λ(p:List Key × V) (q:List Key × Ë × Ä)=>p.1=q.1/\H q.2.1=some (.tup (p.1.map kV))/\RelV p.2 q.2.2) kvs xs /\
   ∃ o es ep,h.get? a=some o/\o.ExactDict/\o.data=.dict es ep/\es.toList=xs.map (entryOfKey (VW (xB P w)))/\(xs.map (·.1)).Nodup
 |.set S n=>h.SetOf (QA P w) a S n
 |.ins C dx fs=>H dx=some (.own a)/\fs.length<=1000/\dx≠a/\h.get? a=some (PySem.W.instObj C dx) /\
   ∃ mA,h.Ns1 dx mA/\(∀ f,JN (fs.lookup f) (mA f))/\PySem.Within mA (fs.map (·.1))
 |.own _=>∃ o,h.get? a=some o|.xd fs=>∃ mA,h.Ns1 a mA/\∀ f,JN (fs.lookup f) (mA f)|.GF lo hi=>∃ t u v,h.get? a=some { cls:=.type "range",data:=.fields #[.int lo t,.int hi u,.int 1 v] }|.frz o u=>h.get? a=some o/\cD H h a u|.fj ps=>h.get? a=some { cls:=.none,data:=.fields ps }|.met f x=>h.get? a=some (U8 (.ref f) (.ref x))|.ext φ=>φ h/\(∃ o,h.get? a=some o)/\∀ h1 h2:û,φ h1->(∀ o,h1.get? a=some o->h2.get? a=some o)->φ h2
def jr(H:Hp)(h:û):Prop:=∀ a o,H a=some o->cD P w H h a o
end
section
variable {P:í}{w:ü}{H H':Hp}{h h':û}{a:Ë}{o:HO}
theorem cD.lt(x:cD P w H h a o):a < h.objs.size:=by
 cases o with
 |lst xs=>obtain⟨_,_,_,_,e⟩:=x;exact ë e
 |tup xs=>obtain⟨_,_,_,p⟩:=x;exact p.lt
 |dK kvs=>obtain⟨_,_,_,_,o,_,_,e,_⟩:=x;exact ë e
 |dT kvs=>obtain⟨_,_,_,_,o,_,_,e,_⟩:=x;exact ë e
 |set S n=>obtain⟨o,_,_,_,e,_⟩:=x;exact ë e
 |ins C dx fs=>obtain⟨_,_,_,e,_⟩:=x;exact ë e
 |own y=>obtain⟨_,e⟩:=x;exact ë e
 |xd fs=>obtain⟨_,⟨_,_,_,e,_⟩,_⟩:=x;exact ë e
 |GF lo hi=>obtain⟨_,_,_,e⟩:=x;exact ë e
 |frz ob u=>obtain⟨e,_⟩:=x;exact ë e
 |fj ps=>exact ë (show h.get? a=some _ from x)|met f y=>exact ë (show h.get? a=some _ from x)|ext φ=>obtain⟨_,⟨_,e⟩,_⟩:=x;exact ë e
theorem Pd.ze{α β:Type}{F G:α->β->Prop}:∀ {l₁:List α}{l₂:List β},Pd F l₁ l₂->(∀ a b,F a b->G a b)->Pd G l₁ l₂
 |_,_,.nil,_=>.nil|_,_,.cons r t,f=>.cons (f _ _ r) (Pd.ze t f)
theorem cD.rg(x:cD P w H h a o)(k:∀ b u,(b=a∨H b=some (.own a))->h.get? b=some u->h'.get? b=some u)
  (ho:∀ b,H b=some (.own a)->H' b=some (.own a)) (ht:∀ b xs,H b=some (.tup xs)->H' b=some (.tup xs)):cD P w H' h' a o:=by
 induction o with
 |lst xs=>obtain⟨z,ai,n,r,e⟩:=x;exact⟨z,ai,n,r,k _ _ (.inl rfl) e⟩
 |tup xs=>obtain⟨z,ai,r,ob,e,c⟩:=x;exact⟨z,ai,r,ob,k _ _ (.inl rfl) e,c⟩
 |dK kvs=>obtain⟨z,y,vs,r,ob,es,ep,e,c⟩:=x;exact⟨z,y,vs,r,ob,es,ep,k _ _ (.inl rfl) e,c⟩
 |dT kvs =>
  obtain⟨z,y,xs,r,ob,es,ep,e,c⟩:=x;exact⟨z,y,xs,Pd.ze r λp q z=>⟨z.1,ht _ _ z.2.1,z.2.2⟩,ob,es,ep,k _ _ (.inl rfl) e,c⟩
 |set S n=>obtain⟨ob,es,ep,t,e,c⟩:=x;exact⟨ob,es,ep,t,k _ _ (.inl rfl) e,c⟩
 |ins C dx fs =>
  obtain⟨d,z,ne,e,mA,⟨od,es,ep,e2,c⟩,r⟩:=x;exact⟨ho _ d,z,ne,k _ _ (.inl rfl) e,mA,⟨od,es,ep,k _ _ (.inr d) e2,c⟩,r⟩
 |own y=>obtain⟨ob,e⟩:=x;exact⟨ob,k _ _ (.inl rfl) e⟩
 |xd fs=>obtain⟨mA,⟨od,es,ep,e,c⟩,r⟩:=x;exact⟨mA,⟨od,es,ep,k _ _ (.inl rfl) e,c⟩,r⟩
 |GF lo hi=>obtain⟨t,u,v,e⟩:=x;exact⟨t,u,v,k _ _ (.inl rfl) e⟩
 |frz ob u ih=>obtain⟨e,q⟩:=x;exact⟨k _ _ (.inl rfl) e,ih q⟩
 |fj ps =>
  have e:h.get? a=some { cls:=.none,data:=.fields ps }:=x;show h'.get? a=some { cls:=.none,data:=.fields ps };exact k a _ (.inl rfl) e
 |met f y =>
  have e:h.get? a=some (U8 (.ref f) (.ref y)):=x;show h'.get? a=some (U8 (.ref f) (.ref y));exact k a _ (.inl rfl) e
 |ext φ=>obtain⟨p,⟨o,e⟩,st⟩:=x;exact⟨st _ _ p λo q=>k _ _ (.inl rfl) q,⟨o,k _ _ (.inl rfl) e⟩,st⟩
theorem jr.lt(x:jr P w H h)(e:H a=some o):a < h.objs.size:=(x a o e).lt
theorem jr.fresh(x:jr P w H h)(e:h.objs.size<=a):H a=none:=by
 cases q:H a with
 |none=>rfl|some u=>exact absurd (ê (x.lt q) e) (O1 _)
theorem jr.kept(x:jr P w H h)(k:∀ b u,h.get? b=some u->h'.get? b=some u):jr P w H h':=λa o e =>
 (x a o e).rg (λb u _ q=>k b u q) (λ_ q=>q) λ_ _ q=>q
theorem jr.laid(x:jr P w H h)(k:∀ b u,h.get? b=some u->h'.get? b=some u)(hp:h.objs.size<=a)(new:cD P w (upd H a o) h' a o):jr P w (upd H a o) h':=λb u e=>by
 have hn:=x.fresh hp;by_cases hb:b=a
 ·subst hb;rw[a7] at e;cases e;exact new
 ·rw[ax hb] at e;exact(x b u e).rg (λc v _ q=>k c v q) (λc q=>by rw[ax (aM q hn)];exact q) λc xs q=>by rw[ax (aM q hn)];exact q
end
def Rd(H:Hp)(a:Ë)(u:HO):Prop:=H a=some u∨∃ o,H a=some (.frz o u)
theorem Rd.ok{P:í}{w:ü}{H:Hp}{h:û}{a:Ë}{u:HO}(r:Rd H a u)(x:jr P w H h):cD P w H h a u:=by
 rcases r with r | ⟨o,r⟩
 ·exact x a u r
 ·obtain⟨_,q⟩:=x a _ r;exact q
def Ma:Option HO->Prop
 |some (.lst _)=>True|some (.dK _)=>True|some (.dT _)=>True|some (.set _ _)=>True|some (.ins _ _ _)=>True|some (.ext _)=>True|_=>False
section
variable {P:í}{w:ü}{H:Hp}{h h':û}{x e:Ë}{o':HO}
theorem jr.write(ok:jr P w H h)(mu:Ma (H x))(he:e=x∨H e=some (.own x))(k:∀ b u,b≠e->h.get? b=some u->h'.get? b=some u)(heo:∃ u,h'.get? e=some u)
  (new:cD P w (upd H x o') h' x o'):jr P w (upd H x o') h':=λb u q=>by
 have nown:∀ c y,H c=some (.own y)->c≠x:=λc y r z=>by subst z;rw[r] at mu;exact mu
 have ntup:∀ c xs,H c=some (.tup xs)->c≠x:=λc xs r z=>by subst z;rw[r] at mu;exact mu
 by_cases hb:b=x
 ·subst hb;rw[a7] at q;cases q;exact new
 ·rw[ax hb] at q;by_cases hbe:b=e
  ·have q':H b=some (.own x):=by
    rcases he with z | z
    ·exact absurd (hbe.trans z) hb
    ·rw[hbe];exact z
   rw[q] at q';cases q';obtain⟨v,hv⟩:=heo;exact⟨v,by rw[hbe];exact hv⟩
  ·refine(ok b u q).rg (λc v hc r=>k c v ?_ r) (λc r=>by rw[ax (nown c b r)];exact r) λc xs r=>by rw[ax (ntup c xs r)];exact r
   rcases hc with rfl | hc
   ·exact hbe
   ·rintro rfl;rcases he with z | z
    ·exact nown c b hc z
    ·rw[hc] at z;cases z;exact hb rfl
end
structure Un(fs ex:List Addr)(H H':Hp)(h h':Heap):Prop where
 keep:∀ b o,h.get? b=some o->H b=none->b ∉ fs->b ∉ ex->h'.get? b=some o
 slot:∀ b o,h.get? b=some o->H b=none->b∈fs->b ∉ ex->∃ sl,h'.get? b=some { o with slots:=sl }
 free:∀ b o,h.get? b=some o->H b=none->b ∉ ex->H' b=none
 there:∀ b o,h.get? b=some o->b ∉ ex->∃ o',h'.get? b=some o'
 tups:∀ b xs,H b=some (.tup xs)->H' b=some (.tup xs)
 frzs:∀ b o u,H b=some (.frz o u)->H' b=some (.frz o u)
 tbls:∀ b ps,H b=some (.fj ps)->∃ more,H' b=some (.fj (ps++more))
section
variable {fs fs' ex ex':List Ë}{H H1 H2:Hp}{h h1 h2 h':û}{a x e:Ë}{o:HO}
theorem Un.any(u:Un fs ex H H1 h h1){b:Ë}{ob:Obj}(q:h.get? b=some ob)(n:H b=none)(hx:b ∉ ex):∃ sl,h1.get? b=some { ob with slots:=sl }:=by
 by_cases hb:b∈fs
 ·exact u.slot b ob q n hb hx
 ·exact⟨ob.slots,u.keep b ob q n hb hx⟩
theorem Un.trans(a:Un fs ex H H1 h h1)(b:Un fs ex H1 H2 h1 h2):Un fs ex H H2 h h2 where
 keep:=λc ob q n hc hx=>b.keep c ob (a.keep c ob q n hc hx) (a.free c ob q n hx) hc hx
 slot:=λc ob q n hc hx=>by
  obtain⟨sl,e1⟩:=a.slot c ob q n hc hx;obtain⟨sl',e2⟩:=b.slot c _ e1 (a.free c ob q n hx) hc hx;exact⟨sl',e2⟩
 free:=λc ob q n hx=>by
  obtain⟨o',e1⟩:=a.there c ob q hx;exact b.free c o' e1 (a.free c ob q n hx) hx
 there:=λc ob q hx=>by
  obtain⟨o',e1⟩:=a.there c ob q hx;exact b.there c o' e1 hx
 tups:=λc xs q=>b.tups c xs (a.tups c xs q)
 frzs:=λc ob xs q=>b.frzs c ob xs (a.frzs c ob xs q)
 tbls:=λc ps q=>by
  obtain⟨m1,e1⟩:=a.tbls c ps q;obtain⟨m2,e2⟩:=b.tbls c _ e1;exact⟨m1++m2,by rw[e2,VV]⟩
theorem Un.kept(k:∀ b u,h.get? b=some u->h'.get? b=some u):Un fs ex H H h h' :=
 ⟨λb ob q _ _ _=>k b ob q,λb ob q _ _ _=>⟨ob.slots,k b ob q⟩,λ_ _ _ n _=>n,λb ob q _=>⟨ob,k b ob q⟩,λ_ _ q=>q,λ_ _ _ q=>q,λ_ ps q=>⟨#[],by rw[q];simp⟩⟩
theorem Un.refl:Un fs ex H H h h:=Un.kept λ_ _ q=>q
theorem Un.laid(k:∀ b u,h.get? b=some u->h'.get? b=some u)(hp:h.objs.size<=a)(hn:H a=none):Un fs ex H (upd H a o) h h' where
 keep:=λb u q _ _ _=>k b u q
 slot:=λb u q _ _ _=>⟨u.slots,k b u q⟩
 free:=λb u q n _=>by rw[ax (â (ê (ë q) hp))];exact n
 there:=λb u q _=>⟨u,k b u q⟩
 tups:=λb xs q=>by rw[ax (aM q hn)];exact q
 frzs:=λb u xs q=>by rw[ax (aM q hn)];exact q
 tbls:=λb ps q=>⟨#[],by rw[ax (aM q hn),q];simp⟩
theorem Un.write(mu:Ma (H x))(he:e=x∨H e=some (.own x))(k:∀ b u,b≠e->h.get? b=some u->h'.get? b=some u)(heo:∃ u,h'.get? e=some u):Un fs ex H (upd H x o) h h':=by
 have hx:∀ b,H b=none->b≠x:=λb n z=>by subst z;rw[n] at mu;exact mu
 have hb:∀ b,H b=none->b≠e:=λb n z=>by
  subst z;rcases he with r | r
  ·exact hx b n r
  ·rw[n] at r;cases r
 have hm:∀ b u,H b=some u->¬ Ma (some u)->b≠x:=λb u q nm z=>by subst z;rw[q] at mu;exact nm mu
 refine⟨λb u q n _ _=>k b u (hb b n) q,λb u q n _ _=>⟨u.slots,k b u (hb b n) q⟩,λb u q n _=>by rw[ax (hx b n)];exact n,λb u q _=>?_,
  λb xs q=>by rw[ax (hm b _ q λz=>z)];exact q,λb u xs q=>by rw[ax (hm b _ q λz=>z)];exact q,λb ps q=>⟨#[],by rw[ax (hm b _ q λz=>z),q];simp⟩⟩
 by_cases hbe:b=e
 ·subst hbe;exact heo
 ·exact⟨u,k b u hbe q⟩
theorem Un.mono(u:Un fs ex H H1 h h1)(hs:∀ b∈fs,b∈fs')(hx:∀ b∈ex,b∈ex'):Un fs' ex' H H1 h h1 :=
 ⟨λb ob q n hb he=>u.keep b ob q n (λz=>hb (hs b z)) λz=>he (hx b z),λ_ _ q n _ he=>u.any q n λz=>he (hx _ z),λb ob q n he=>u.free b ob q n λz=>he (hx b z),λb ob q he=>u.there b ob q λz=>he (hx b z),u.tups,u.frzs,u.tbls⟩
end
def GO(h:û)(H:Hp):List Addr:=(é h.objs.size).filter λa=>(H a).isSome
def rh(h:û)(H:Hp):Heap:=hideAll h (GO h H)
theorem zf(h:û)(H:Hp):(rh h H).objs.size=h.objs.size:=PySem.W.hideAll_size _ _
theorem nM{h:û}{H:Hp}{b:Ë}{o:Obj}(e:h.get? b=some o)(n:H b=none):(rh h H).get? b=some o :=
 hideAll_get _ e λhm=>by
  have q:(H b).isSome=true:=(õ.mp hm).2;rw[n] at q;simp at q
theorem DQ{h:û}{H:Hp}{b:Ë}{o:Obj}(e:(rh h H).get? b=some o):h.get? b=some o/\H b=none:=by
 have e':h.get? b=some o:=of_hideAll (GO h H) e;refine⟨e',?_⟩;cases q:H b with
 |none=>rfl
 |some x =>
  have hm:b∈GO h H:=õ.mpr ⟨ì.mpr (ë e'),by simp[q]⟩
  have z:(rh h H).get? b=none:=PySem.W.hideAll_none (GO h H) hm;rw[z] at e;cases e
structure Mod(K:PySem.W.Frag)(mg:Str->Option Value)(base:Heap):Prop where
 kin:K.In base
 glob:base.Ns mainGlobals mg
 blt:∃ mb,base.Ns builtinsNs mb/\∀ x:Str,x≠"__name__"->mb x=bootBuiltins x
 nolimit:base.NoLimit
structure Cx where
 prog:Program
 w:World
 K:PySem.W.Frag
 mg:Str->Option Value
 base:Heap
 A:Around
 N:List Str
 s₀:Shared
 H₀:Hp
 env:Env
 outer:List Env
 stack:List Env
 ex:List Addr
 fn:Str->Bool
 calm:Bool
 pn:List (Addr × Obj)
 xe:Value->Shared->Prop
def j6(l:List Env):List Addr:=l.filterMap (·.frame)
abbrev Cx.fs(X:Cx):List Addr:=j6 X.outer
def JO(sc:ON)(x:Str):Prop:=sc.names.lookup x=some .local∨sc.names.lookup x=some .cell∨sc.names.lookup x=some .free
def Loc(sc:ON)(x:Str):Prop:=sc.names.lookup x=some .local∨sc.names.lookup x=some .cell
def Look(env:Env)(h:û)(m:Str->Option Ä)(x:Str)(u:Ä):Prop :=
 (env.kindOf x=some .local/\m x=some u)∨((env.kindOf x=some .cell∨env.kindOf x=some .free)/\∃ c,env.cells.lookup x=some c/\h.IsCell c (some u))
structure Cx.Ok(X:Cx):Prop where
 mod:Mod X.K X.mg X.base
 kind:X.env.scope.kind=.function
 glob:X.env.globals=mainGlobals
 blt:X.env.builtins=builtinsNs
 above:X.s₀.heap.objs.size<=X.env.locals
 inj:∀ x y c,X.env.cells.lookup x=some c->X.env.cells.lookup y=some c->x=y
 has:∀ x,(X.env.kindOf x=some .cell∨X.env.kindOf x=some .free)->∃ c,X.env.cells.lookup x=some c
 cab:∀ x c,X.fn x=true->X.env.cells.lookup x=some c->X.s₀.heap.objs.size<=c
 hd:X.calm=true->X.A.handled=none
 frames:X.A.frames=some X.stack
 stk:X.stack=X.outer∨(X.stack=X.env::X.outer/\X.env.frame=some X.env.locals)
 exf:∀ b∈X.ex,b≠X.env.locals/\∀ x c,X.env.cells.lookup x=some c->c≠b
 bs:∀ b o,X.base.get? b=some o->X.s₀.heap.get? b=some o/\X.H₀ b=none
 bsz:X.base.objs.size<=X.s₀.heap.objs.size
 noex:∀ b o,X.base.get? b=some o->b ∉ X.ex
 exfs:∀ b∈X.ex,b ∉ X.fs
 pT:X.s₀.heap.FunFrames X.base X.outer
 frf:∀ b∈X.fs,X.H₀ b=none
structure Inv(X:Cx)(aa:List (Addr × Obj))(σ:List (Option V))(H:Hp)(s:Shared):Prop where
 ok:X.Ok
 os:s.os=X.s₀.os
 bare:AllBare s.gens
 base:Un X.fs X.ex X.H₀ H X.s₀.heap s.heap
 loc:∃ m,s.heap.Ns X.env.locals m/\∀ (i:Nat) (x:Str) (v:V),X.N[i]?=some x->σ[i]?=some (some v)->JO X.env.scope x->∃ u,RelV v u/\Look X.env s.heap m x u
 cell:∀ x c,X.env.cells.lookup x=some c->∃ v,s.heap.IsCell c v
 free:H X.env.locals=none
 freeC:∀ x c,X.env.cells.lookup x=some c->H c=none
 pin:∀ p∈X.pn++aa,s.heap.get? p.1=some p.2/\H p.1=none/\p.1≠X.env.locals/\p.1 ∉ X.fs/\∀ v,p.2.data≠.cell v
 bx:jr X.prog X.w H s.heap
 len:σ.length=X.N.length
section
variable {X:Cx}{aa:List (Ë × Obj)}{σ:List (Option V)}{H H':Hp}{s:É}{h':û}
theorem Cx.Ok.Mx(ok:X.Ok){b:Ë}{o:Obj}(e:X.base.get? b=some o):b ∉ X.fs:=λhb=>by
 have:=(ok.pT.mem hb).1;rw[e] at this;cases this
theorem Inv.bs(I:Inv X aa σ H s):∀ b o,X.base.get? b=some o->s.heap.get? b=some o/\H b=none:=λb o e =>
 ⟨I.base.keep b o (I.ok.bs b o e).1 (I.ok.bs b o e).2 (I.ok.Mx e) (I.ok.noex b o e),I.base.free b o (I.ok.bs b o e).1 (I.ok.bs b o e).2 (I.ok.noex b o e)⟩
theorem Inv.bk(I:Inv X aa σ H s):∀ b o,X.base.get? b=some o->s.heap.get? b=some o:=λb o e=>(I.bs b o e).1
theorem Inv.mod(I:Inv X aa σ H s):Mod X.K X.mg X.base:=I.ok.mod
theorem Inv.pQ(I:Inv X aa σ H s):X.K.In s.heap:=I.ok.mod.kin.keeps I.bk
theorem Inv.lt(I:Inv X aa σ H s):X.env.locals < s.heap.objs.size:=let ⟨_,hn,_⟩:=I.loc;hn.lt
theorem Inv.sz(I:Inv X aa σ H s):X.s₀.heap.objs.size<=s.heap.objs.size:=ã I.ok.above (RF I.lt)
theorem Inv.Mz(I:Inv X aa σ H s){a:Ë}(h:s.heap.objs.size<=a):a ∉ X.fs:=λhb=>by
 obtain⟨_,o,ho,_⟩:=I.ok.pT.mem hb;exact absurd (ê (ë ho) (ã I.sz h)) (O1 _)
theorem Inv.GP(I:Inv X aa σ H s):∀ x c,X.env.cells.lookup x=some c->c≠X.env.locals:=λx c e z=>by
 obtain⟨v,o,ho,hd⟩:=I.cell x c e;obtain⟨m,⟨o',es,ep,ho',hd',_⟩,_⟩:=I.loc;rw[z,ho'] at ho;cases ho;rw[hd'] at hd;cases hd
theorem Inv.pT(I:Inv X aa σ H s):s.heap.FunFrames X.base X.outer:=by
 have all:∀ (l:List Env),(∀ b∈j6 l,b∈X.fs)->X.s₀.heap.FunFrames X.base l->s.heap.FunFrames X.base l:=by
  intro l
  induction l with
  |nil=>intro _ _;trivial
  |cons env r ih =>
   intro hs hl;obtain⟨hk,⟨L,o,hf,hn,ho,hd⟩,hr⟩:=hl;have hL:L∈X.fs:=hs L (by unfold j6;rw[O4,hf];exact Å)
   obtain⟨sl,e⟩:=I.base.slot L o ho (I.ok.frf L hL) hL λz=>I.ok.exfs L z hL;exact⟨hk,⟨L,_,hf,hn,e,hd⟩,ih (λb hb=>hs b (by unfold j6;rw[O4,hf];exact Æ _ hb)) hr⟩
 exact all X.outer (λ_ hb=>hb) I.ok.pT
theorem Inv.stack(I:Inv X aa σ H s):s.heap.FunFrames X.base X.stack:=by
 rcases I.ok.stk with e | ⟨e,hf⟩
 ·rw[e];exact I.pT
 ·rw[e];obtain⟨m,hn,_⟩:=I.loc;refine .cons (by rw[I.ok.kind];decide) hf hn ?_ I.pT
  exact Heap.get?_none_of_le (ã I.ok.bsz I.ok.above)
theorem Inv.vP(I:Inv X aa σ H s):∀ b∈j6 X.stack,b∈X.env.locals::X.fs:=λb hb=>by
 rcases I.ok.stk with e | ⟨e,hf⟩
 ·rw[e] at hb;exact Æ _ hb
 ·rw[e] at hb;unfold j6 at hb;rw[O4,hf] at hb;exact hb
theorem Inv.rj(I:Inv X aa σ H s):∀ b∈j6 X.stack,H b=none:=λb hb=>by
 rcases Û.mp (I.vP b hb) with e | hb
 ·rw[e];exact I.free
 ·obtain⟨_,o,ho,_⟩:=I.ok.pT.mem hb;exact I.base.free b o ho (I.ok.frf b hb) λz=>I.ok.exfs b z hb
theorem Inv.step{g':Array Vq}{t':Nat}{d':Drawn}{ch:List Ë}(I:Inv X aa σ H s)
  (hch:∀ b∈ch,(b∈X.ex∨X.s₀.heap.objs.size<=b)/\b≠X.env.locals/\(∀ x c,X.env.cells.lookup x=some c->c≠b)/\∀ p∈X.pn++aa,p.1≠b)
  (keep:∀ b o,b≠X.env.locals->b ∉ X.fs->b ∉ ch->s.heap.get? b=some o->H b=none->h'.get? b=some o)
  (slot:∀ b o,b≠X.env.locals->b∈X.fs->b ∉ ch->s.heap.get? b=some o->H b=none->∃ sl,h'.get? b=some { o with slots:=sl }) (free:∀ b o,b ∉ ch->s.heap.get? b=some o->H b=none->H' b=none)
  (there:∀ b o,b ∉ ch->s.heap.get? b=some o->∃ o',h'.get? b=some o')
  (tups:∀ b xs,H b=some (.tup xs)->H' b=some (.tup xs)) (frzs:∀ b o u,H b=some (.frz o u)->H' b=some (.frz o u)) (tbls:∀ b ps,H b=some (.fj ps)->∃ more,H' b=some (.fj (ps++more)))
  (ns:∀ m,s.heap.Ns X.env.locals m->h'.Ns X.env.locals m) (bx:jr X.prog X.w H' h') (hg:SK g') :
  Inv X aa σ H' { s with heap:=h',gens:=g',drawn:=d',toks:=t' }:=by
 have neL:∀ b o,X.s₀.heap.get? b=some o->b≠X.env.locals:=λb o e=>â (ê (ë e) I.ok.above);have neC:∀ b o,X.s₀.heap.get? b=some o->b ∉ X.ex->b ∉ ch:=λb o e hx hb=>by
  rcases (hch b hb).1 with z | z
  ·exact hx z
  ·exact absurd (ê (ë e) z) (O1 _)
 have cellK:∀ x c,X.env.cells.lookup x=some c->∀ v,s.heap.IsCell c v->h'.IsCell c v:=λx c e v ⟨o,ho,hd⟩=>by
  have nch:c ∉ ch:=λz=>(hch c z).2.2.1 x c e rfl;by_cases hc:c∈X.fs
  ·obtain⟨sl,q⟩:=slot c o (I.GP x c e) hc nch ho (I.freeC x c e);exact⟨_,q,hd⟩
  ·exact⟨o,keep c o (I.GP x c e) hc nch ho (I.freeC x c e),hd⟩
 refine⟨I.ok,I.os,hg,⟨λb o e n hb hx=>?_,λb o e n hb hx=>?_,λb o e n hx=>?_,λb o e hx=>?_,λb xs e=>tups b xs (I.base.tups b xs e),λb o xs e=>frzs b o xs (I.base.frzs b o xs e),λb ps e=>?_⟩,?_,λx c e=>?_,?_,λx c e=>?_,λp hp=>?_,bx,I.len⟩
 ·exact keep b o (neL b o e) hb (neC b o e hx) (I.base.keep b o e n hb hx) (I.base.free b o e n hx)
 ·obtain⟨sl,e1⟩:=I.base.slot b o e n hb hx;obtain⟨sl',e2⟩:=slot b _ (neL b o e) hb (neC b o e hx) e1 (I.base.free b o e n hx);exact⟨sl',e2⟩
 ·obtain⟨o',e1⟩:=I.base.there b o e hx;exact free b o' (neC b o e hx) e1 (I.base.free b o e n hx)
 ·obtain⟨o',e1⟩:=I.base.there b o e hx;exact there b o' (neC b o e hx) e1
 ·obtain⟨m1,e1⟩:=I.base.tbls b ps e;obtain⟨m2,e2⟩:=tbls b _ e1;exact⟨m1++m2,by rw[e2,VV]⟩
 ·obtain⟨m,hn,hl⟩:=I.loc;refine⟨m,ns m hn,λi x v e1 e2 e3=>?_⟩;obtain⟨u,r,l⟩:=hl i x v e1 e2 e3;refine⟨u,r,?_⟩;rcases l with l | ⟨k,c,e,z⟩
  ·exact .inl l
  ·exact .inr ⟨k,c,e,cellK x c e _ z⟩
 ·obtain⟨v,z⟩:=I.cell x c e;exact⟨v,cellK x c e v z⟩
 ·obtain⟨m,⟨o,_,_,ho,_⟩,_⟩:=I.loc;exact free _ o (λz=>(hch _ z).2.1 rfl) ho I.free
 ·obtain⟨v,o,ho,hd⟩:=I.cell x c e;exact free c o (λz=>(hch c z).2.2.1 x c e rfl) ho (I.freeC x c e)
 ·obtain⟨e,n,ne,nf,d⟩:=I.pin p hp;have nch:p.1 ∉ ch:=λz=>(hch p.1 z).2.2.2 p hp rfl;exact⟨keep p.1 p.2 ne nf nch e n,free p.1 p.2 nch e n,ne,nf,d⟩
theorem Inv.un{t':Nat}(I:Inv X aa σ H s)(u:Un X.fs [] H H' s.heap h')(bx:jr X.prog X.w H' h'):Inv X aa σ H' { s with heap:=h',toks:=t' }:=by
 obtain⟨m,⟨o,es,ep,ho,r⟩,_⟩:=id I.loc;obtain⟨sl,hL⟩:=u.any ho I.free (by simp)
 exact I.step (g':=s.gens) (d':=s.drawn) (ch:=[]) (λ_ z=>nomatch z) (λb o _ hb _ e n=>u.keep b o e n hb (by simp)) (λb o _ hb _ e n=>u.slot b o e n hb (by simp)) (λb o _ e n=>u.free b o e n (by simp)) (λb o _ e=>u.there b o e (by simp)) u.tups u.frzs u.tbls (λm' hm=>by
  obtain⟨o',es',ep',ho',r'⟩:=hm;rw[ho] at ho';cases ho';exact⟨_,es',ep',hL,r'⟩) bx I.bare
theorem Inv.call{g':Array Vq}{t':Nat}{d':Drawn}{ch:List Ë}(I:Inv X aa σ H s)(u:Un (j6 X.stack) ch H H' s.heap h')(bx:jr X.prog X.w H' h')(hg:SK g')
  (hch:∀ b∈ch,(b∈X.ex∨X.s₀.heap.objs.size<=b)/\b≠X.env.locals/\(∀ x c,X.env.cells.lookup x=some c->c≠b)/\∀ p∈X.pn++aa,p.1≠b) :
  Inv X aa σ H' { s with heap:=h',gens:=g',drawn:=d',toks:=t' }:=by
 obtain⟨m,⟨o,es,ep,ho,r⟩,_⟩:=id I.loc;obtain⟨sl,hL⟩:=u.any ho I.free λz=>(hch _ z).2.1 rfl;exact I.step (ch:=ch) hch (λb o hL hb hc e n=>u.keep b o e n (λz=>(Û.mp (I.vP b z)).elim hL hb) hc) (λb o _ _ hc e n=>u.any e n hc) (λb o hc e n=>u.free b o e n hc) (λb o hc e=>u.there b o e hc) u.tups u.frzs u.tbls (λm' hm=>by
  obtain⟨o',es',ep',ho',r'⟩:=hm;rw[ho] at ho';cases ho';exact⟨_,es',ep',hL,r'⟩) bx hg
theorem Inv.turned{t':Nat}{it:Ë}(I:Inv X aa σ H s)(k:∀ b o,b≠it->s.heap.get? b=some o->h'.get? b=some o)(hn:H it=none)(hL:it≠X.env.locals)
  (h1:it∈X.ex∨X.s₀.heap.objs.size<=it) (h2:∀ x c,X.env.cells.lookup x=some c->c≠it) (h3:∀ p∈X.pn++aa,p.1≠it):Inv X aa σ H { s with heap:=h',toks:=t' }:=by
 have nit:∀ b u,H b=some u->b≠it:=λb u e z=>by rw[z,hn] at e;cases e
 refine I.step (g':=s.gens) (d':=s.drawn) (ch:=[it]) (λb hb=>?_) (λb o _ _ hc e _=>k b o (λz=>hc (by simp[z])) e) (λb o _ _ hc e _=>⟨o.slots,k b o (λz=>hc (by simp[z])) e⟩) (λ_ _ _ _ n=>n)
  (λb o hc e=>⟨o,k b o (λz=>hc (by simp[z])) e⟩) (λ_ _ e=>e) (λ_ _ _ e=>e) (λb ps e=>⟨#[],by rw[e];simp⟩) (λm hm=>?_) (λb u e=>?_) I.bare
 ·have e:b=it:=by simpa using hb
  subst e;exact⟨h1,hL,h2,h3⟩
 ·obtain⟨o,es,ep,ho,r⟩:=hm;exact⟨o,es,ep,k _ o (OT hL) ho,r⟩
 ·refine(I.bx b u e).rg (λc v hc q=>k c v ?_ q) (λ_ q=>q) λ_ _ q=>q;rcases hc with z | z
  ·rw[z];exact nit b u e
  ·exact nit c _ z
theorem Inv.tok(I:Inv X aa σ H s)(t:Nat):Inv X aa σ H { s with toks:=t }:=I.un (h':=s.heap) (t':=t) Un.refl I.bx
theorem Inv.kept{t':Nat}(I:Inv X aa σ H s)(k:∀ b u,s.heap.get? b=some u->h'.get? b=some u):Inv X aa σ H { s with heap:=h',toks:=t' }:=I.un (Un.kept k) (I.bx.kept k)
theorem Inv.laid{a:Ë}{o:HO}{t':Nat}(I:Inv X aa σ H s)(k:∀ b u,s.heap.get? b=some u->h'.get? b=some u)(hp:s.heap.objs.size<=a)(new:cD X.prog X.w (upd H a o) h' a o) :
  Inv X aa σ (upd H a o) { s with heap:=h',toks:=t' }:=I.un (Un.laid k hp (I.bx.fresh hp)) (I.bx.laid k hp new)
theorem Inv.write{x e:Ë}{o:HO}{t':Nat}(I:Inv X aa σ H s)(mu:Ma (H x))(he:e=x∨H e=some (.own x))(k:∀ b u,b≠e->s.heap.get? b=some u->h'.get? b=some u)(heo:∃ u,h'.get? e=some u)
  (new:cD X.prog X.w (upd H x o) h' x o):Inv X aa σ (upd H x o) { s with heap:=h',toks:=t' }:=I.un (Un.write mu he k heo) (I.bx.write mu he k heo new)
theorem Inv.j7{pins':List (Ë × Obj)}(I:Inv X aa σ H s)(h:∀ p∈pins',s.heap.get? p.1=some p.2/\H p.1=none/\p.1≠X.env.locals/\p.1 ∉ X.fs/\∀ v,p.2.data≠.cell v):Inv X pins' σ H s :=
 ⟨I.ok,I.os,I.bare,I.base,I.loc,I.cell,I.free,I.freeC,λp hp=>(Ì.mp hp).elim (λz=>I.pin p (ç _ z)) (h p),I.bx,I.len⟩
theorem tH{N:List Str}(hN:N.Nodup){i j:Nat}{x:Str}(a:N[i]?=some x)(b:N[j]?=some x):i=j:=by
 obtain⟨h1,e1⟩:=ï.mp a;obtain⟨h2,e2⟩:=ï.mp b;exact(List.getElem_inj hN).mp (e1.trans e2.symm)
theorem lu{M:Model}{A:p8}{E:Ä->É->Prop}{i:Nat}{x:Str}{v:V}{u:Ä}{Q:Unit->É->Prop}(I:Inv X aa σ H s)(hN:X.N.Nodup)(hi:X.N[i]?=some x)(hx:Loc X.env.scope x)(r:RelV v u)
  (h:∀ s',Inv X aa (σ.set i (some v)) H s'->(∃ a,Tt a s.heap s'.heap/\(a=X.env.locals∨X.env.cells.lookup x=some a))->Q () s') (hf:X.fn x=true∨X.env.scope.names.lookup x=some .local:=by first | exact .inl rfl | exact .inr rfl | assumption):Ú M A (X3 X.env x u) Q E s:=by
 obtain⟨m,hn,hl⟩:=id I.loc;have hcls:(X.env.scope.kind == .class || (X.env.scope.kind == .module&&X.env.locals != X.env.globals))=false:=by rw[I.ok.kind];rfl
 have hiσ:i < σ.length:=by rw[I.len];exact(ï.mp hi).1
 have GP:=I.GP;have tracked:∀ {a:Ë}{h':û},(∃ o,s.heap.get? a=some o/\H a=none)->Tt a s.heap h'->jr X.prog X.w H h':=λ{a h'} ha hs b ob e=>by
  obtain⟨_,_,hfree⟩:=ha;refine(I.bx b ob e).rg (λc w' hc q=>(hs.2 c ?_).trans q) (λ_ q=>q) λ_ _ q=>q;rintro rfl;rcases hc with rfl | hc
  ·rw[hfree] at e;cases e
  ·rw[hfree] at hc;cases hc
 rcases hx with hk | hk
 ·refine Rx hk hn (λh' hn' hs=>?_) hcls;obtain⟨oL,_,_,hoL,_⟩:=id hn;refine h _ ⟨I.ok,I.os,I.bare,⟨λb o e n hb hx=>?_,λb o e n hb hx=>?_,I.base.free,λb o e hx=>?_,I.base.tups,I.base.frzs,I.base.tbls⟩,⟨_,hn',λj y v' e1 e2 e3=>?_⟩,λy c e=>?_,I.free,I.freeC,λp hp=>?_,tracked ⟨oL,hoL,I.free⟩ hs,by simpa using I.len⟩ ⟨_,hs,.inl rfl⟩
  ·exact(hs.2 b (â (ê (ë e) I.ok.above))).trans (I.base.keep b o e n hb hx)
  ·obtain⟨sl,e1⟩:=I.base.slot b o e n hb hx;exact⟨sl,(hs.2 b (â (ê (ë e) I.ok.above))).trans e1⟩
  ·obtain⟨o',e1⟩:=I.base.there b o e hx;exact⟨o',(hs.2 b (â (ê (ë e) I.ok.above))).trans e1⟩
  ·by_cases hj:j=i
   ·subst hj;rw[hi] at e1;cases e1;rw[ú hiσ] at e2;cases e2;exact⟨u,r,.inl ⟨hk,by simp⟩⟩
   ·rw[ñ (OT hj)] at e2;obtain⟨u',r',q⟩:=hl j y v' e1 e2 e3;refine⟨u',r',?_⟩;rcases q with ⟨k,e⟩ | ⟨k,c,e,z⟩
    ·refine .inl ⟨k,?_⟩;have:y≠x:=λe=>hj (tH hN e1 (e ▸ hi));simp[this,e]
    ·exact .inr ⟨k,c,e,z.sameBut hs (GP y c e)⟩
  ·obtain⟨w',z⟩:=I.cell y c e;exact⟨w',z.sameBut hs (GP y c e)⟩
  ·obtain⟨e,n,ne,nf,d⟩:=I.pin p hp;exact⟨(hs.2 p.1 ne).trans e,n,ne,nf,d⟩
 ·have hfn:X.fn x=true:=by
   rcases hf with z | z
   ·exact z
   ·rw[z] at hk;cases hk
  obtain⟨c,hc⟩:=I.ok.has x (.inl hk);obtain⟨w',z⟩:=I.cell x c hc;refine wpAny_storeName_cell I.ok.kind hk hc z (λh' hc' hs=>?_);obtain⟨oc,hoc,hocd⟩:=id z;refine h { s with heap:=h' } ⟨I.ok,I.os,I.bare,⟨λb o e n hb hx=>?_,λb o e n hb hx=>?_,I.base.free,λb o e hx=>?_,I.base.tups,I.base.frzs,I.base.tbls⟩,⟨m,hn.sameBut hs (OT (GP x c hc)),λj y v' e1 e2 e3=>?_⟩,λy c' e=>?_,I.free,I.freeC,λp hp=>?_,tracked ⟨oc,hoc,I.freeC x c hc⟩ hs,by simpa using I.len⟩ ⟨c,hs,.inr hc⟩
  ·exact(hs.2 b (â (ê (ë e) (I.ok.cab x c hfn hc)))).trans (I.base.keep b o e n hb hx)
  ·obtain⟨sl,e1⟩:=I.base.slot b o e n hb hx;exact⟨sl,(hs.2 b (â (ê (ë e) (I.ok.cab x c hfn hc)))).trans e1⟩
  ·obtain⟨o',e1⟩:=I.base.there b o e hx;exact⟨o',(hs.2 b (â (ê (ë e) (I.ok.cab x c hfn hc)))).trans e1⟩
  ·by_cases hj:j=i
   ·subst hj;rw[hi] at e1;cases e1;rw[ú hiσ] at e2;cases e2;exact⟨u,r,.inr ⟨.inl hk,c,hc,hc'⟩⟩
   ·rw[ñ (OT hj)] at e2;obtain⟨u',r',q⟩:=hl j y v' e1 e2 e3;refine⟨u',r',?_⟩;rcases q with q | ⟨k,c',e,z'⟩
    ·exact .inl q
    ·refine .inr ⟨k,c',e,z'.sameBut hs ?_⟩;rintro rfl;exact hj (tH hN e1 (I.ok.inj _ _ _ e hc ▸ hi))
  ·by_cases hcc:c'=c
   ·subst hcc;exact⟨_,hc'⟩
   ·obtain⟨w2,z2⟩:=I.cell y c' e;exact⟨w2,z2.sameBut hs hcc⟩
  ·obtain⟨e,n,ne,nf,d⟩:=I.pin p hp;refine⟨(hs.2 p.1 ?_).trans e,n,ne,nf,d⟩;intro q;rw[q,hoc] at e;have q':oc=p.2:=OV e;exact d w' (by rw[← q'];exact hocd)
theorem ix{M:Model}{A:p8}{E:Ä->É->Prop}{i:Nat}{x:Str}{v:V}{u:Ä}{Q:Unit->É->Prop}(I:Inv X aa σ H s)(hN:X.N.Nodup)(hi:X.N[i]?=some x)(hx:Loc X.env.scope x)(r:RelV v u)
  (h:∀ s',Inv X aa (σ.set i (some v)) H s'->Q () s') (hf:X.fn x=true∨X.env.scope.names.lookup x=some .local:=by first | exact .inl rfl | exact .inr rfl | assumption):Ú M A (X3 X.env x u) Q E s :=
 lu I hN hi hx r (λs' I' _=>h s' I') hf
theorem Inv.JP{s':É}{ch:List Ë}(I:Inv X aa σ H s)(ho:s'.os=s.os)(u:Un (j6 X.stack) ch H H' s.heap s'.heap)(bx:jr X.prog X.w H' s'.heap)(hg:SK s'.gens)
  (hch:∀ b∈ch,(b∈X.ex∨X.s₀.heap.objs.size<=b)/\b≠X.env.locals/\(∀ x c,X.env.cells.lookup x=some c->c≠b)/\∀ p∈X.pn++aa,p.1≠b):Inv X aa σ H' s':=by
 obtain⟨h',g',d',t',o'⟩:=s';have e:o'=s.os:=ho;subst e;exact I.call (g':=g') (t':=t') (d':=d') u bx hg hch
end
abbrev XK:=Ä->Option Ë->Hp->Prop
abbrev St:=List (Option V)
abbrev VK:=V->Hp->Prop
abbrev TE:=St->Hp->VK->Prop
abbrev TT:=St->Hp->(Bool->Hp->Prop)->Prop
abbrev TA:=St->Hp->(List V->Hp->Prop)->Prop
structure Ends where
 nx:St->Hp->Prop
 rt:VK
 bk:St->Hp->Prop:=λ_ _=>False
 ct:St->Hp->Prop:=λ_ _=>False
abbrev TS:=Ends->St->Hp->Prop
def EP(X:Cx)(aa:List (Ë × Obj))(σ:St)(Q:VK)(u:Ä)(s':É):Prop:=∃ v H',Inv X aa σ H' s'/\RelV v u/\Q v H'
def TP(X:Cx)(aa:List (Ë × Obj))(σ:St)(Q:Bool->Hp->Prop)(b:Bool)(s':É):Prop:=∃ H',Inv X aa σ H' s'/\Q b H'
def AP(X:Cx)(aa:List (Ë × Obj))(σ:St)(Q:List V->Hp->Prop)(us:List Ä)(s':É):Prop:=∃ vs H',Inv X aa σ H' s'/\Vals vs us/\Q vs H'
def SP(X:Cx)(aa:List (Ë × Obj))(D:Ends)(f:Flow)(s':É):Prop :=
 match f with
 |.next=>∃ σ' H',Inv X aa σ' H' s'/\D.nx σ' H'
 |.brk=>∃ σ' H',Inv X aa σ' H' s'/\D.bk σ' H'|.cont=>∃ σ' H',Inv X aa σ' H' s'/\D.ct σ' H'|.ret u=>∃ v σ' H',Inv X aa σ' H' s'/\RelV v u/\D.rt v H'
def PE(X:Cx)(e:Ö)(t:TE):Prop :=
 ∀ (aa:List (Ë × Obj)) (s:É) (σ:St) (H:Hp) (Q:VK),Inv X aa σ H s->t σ H Q->Ú (Ù X.prog X.w) X.A (eval e X.env) (EP X aa σ Q) X.xe s
def PT(X:Cx)(e:Ö)(t:TT):Prop :=
 ∀ (aa:List (Ë × Obj)) (s:É) (σ:St) (H:Hp) (Q:Bool->Hp->Prop),Inv X aa σ H s->t σ H Q->Ú (Ù X.prog X.w) X.A (UD e X.env (eval e X.env)) (TP X aa σ Q) X.xe s
def PW(X:Cx)(e:Ö)(t:TT):Prop :=
 ∀ (whole:Sem Ä) (aa:List (Ë × Obj)) (s:É) (σ:St) (H:Hp) (Q:Bool->Hp->Prop),Inv X aa σ H s->t σ H Q->Ú (Ù X.prog X.w) X.A (UD e X.env whole) (TP X aa σ Q) X.xe s
theorem PW.pt{X:Cx}{e:Ö}{t:TT}(h:PW X e t):PT X e t:=h _
def PA(X:Cx)(es:List Ö)(t:TA):Prop :=
 ∀ (pos:Pos) (aa:List (Ë × Obj)) (s:É) (σ:St) (H:Hp) (Q:List V->Hp->Prop),Inv X aa σ H s->t σ H Q->Ú (Ù X.prog X.w) X.A (spliced (SJ pos (Of es X.env))) (AP X aa σ Q) X.xe s
def PS(X:Cx)(st:Qm)(t:TS):Prop :=
 ∀ (aa:List (Ë × Obj)) (s:É) (σ:St) (H:Hp) (D:Ends),Inv X aa σ H s->t D σ H->Ú (Ù X.prog X.w) X.A (exec st X.env) (SP X aa D) X.xe s
def mU(X:Cx)(st:List Qm)(t:TS):Prop :=
 ∀ (aa:List (Ë × Obj)) (s:É) (σ:St) (H:Hp) (D:Ends),Inv X aa σ H s->t D σ H->Ú (Ù X.prog X.w) X.A (execs st X.env) (SP X aa D) X.xe s
theorem b8{α:Type}{t:Sem α}{Q Q':α->É->Prop}{M:Model}{A:p8}{E:Ä->É->Prop}{s:É}(h:Ú M A t Q E s)(hQ:∀ a s,Q a s->Q' a s):Ú M A t Q' E s:=Pz h hQ λ_ _ x=>x
section
variable {X:Cx}
def GQ(i:Nat):TE:=λσ H Q=>∃ v,σ[i]?=some (some v)/\Q v H
def tC(v:V):TE:=λ_ H Q=>Q v H
theorem jD{i:Nat}{x:Str}{pos:Pos}(hN:X.N[i]?=some x)(hv:JO X.env.scope x)(hd:(x == ("__debug__":Str))=false:=by decide)(hcd:(x == ("__classdict__":Str))=false:=by decide):PE X (.Name x pos) (GQ i):=by
 intro aa s σ H Q I h;obtain⟨v,e,h⟩:=h;obtain⟨m,hn,hl⟩:=I.loc;obtain⟨u,r,l⟩:=hl i x v hN e hv;have fin:EP X aa σ Q u s:=⟨v,H,I,r,h⟩;rcases l with ⟨hk,hm⟩ | ⟨hk,c,hc,hcell⟩
 ·exact SH (QT I.ok.kind hk hn hm fin) hd
 ·rcases hk with hk | hk
  ·exact SH (Xb I.ok.kind hk hc hcell fin) hd
  ·exact SH (wpAny_loadName_free I.ok.kind hk hc hcell fin hcd) hd
theorem vQ{i j pos}:PE X (.Constant (.int i) j pos) (tC (.int i)):=λ_ _ _ H _ I h=>wpAny_Constant_int ⟨.int i,H,I.tok _,⟨_,rfl⟩,h⟩
theorem JQ{b j pos}:PE X (.Constant (.bool b) j pos) (tC (.bl b)):=λ_ _ _ H _ I h=>Constant_bool ⟨.bl b,H,I,rfl,h⟩
theorem GR{j pos}:PE X (.Constant .none j pos) (tC .bw):=λ_ _ _ H _ I h=>Constant_none ⟨.bw,H,I,rfl,h⟩
theorem AN{x j pos}:PE X (.Constant (.str x) j pos) (tC (.str x)):=λ_ _ _ H _ I h=>Calls.Constant_str ⟨.str x,H,I.tok _,⟨_,rfl⟩,h⟩
def Gl(X:Cx)(x:Str):Prop:=X.env.kindOf x=some .globalImplicit
theorem rk{E:Ä->É->Prop}{aa:List (Ë × Obj)}{s:É}{σ:St}{H:Hp}{x:Str}{u:Ä}{pos:Pos}{Q:Ä->É->Prop}(I:Inv X aa σ H s)(hg:Gl X x)(hm:X.mg x=some u)(h:Q u s)
  (hd:(x == ("__debug__":Str))=false:=by decide):Ú (Ù X.prog X.w) X.A (eval (.Name x pos) X.env) Q E s :=
 Ut I.ok.kind hg (Calls.loadGlobal_global (by rw[I.ok.glob];exact I.mod.glob.keeps I.bk) hm h) hd
theorem gu{E:Ä->É->Prop}{aa:List (Ë × Obj)}{s:É}{σ:St}{H:Hp}{x:Str}{u:Ä}{pos:Pos}{Q:Ä->É->Prop}(I:Inv X aa σ H s)(hg:Gl X x)(hm:X.mg x=none)(hv:ù x=some u)(h:Q u s)
  (hn:x≠"__name__":=by decide) (hd:(x == ("__debug__":Str))=false:=by decide):Ú (Ù X.prog X.w) X.A (eval (.Name x pos) X.env) Q E s:=by
 obtain⟨mb,h1,h2⟩:=I.mod.blt;exact Ut I.ok.kind hg (Calls.loadGlobal_builtin (by rw[I.ok.glob];exact I.mod.glob.keeps I.bk) hm (by rw[I.ok.blt];exact h1.keeps I.bk) ((h2 x hn).trans hv) h) hd
theorem DR{x:Str}{v:V}{u:Ä}{pos:Pos}(hg:Gl X x)(hm:X.mg x=some u)(r:RelV v u)(hd:(x == ("__debug__":Str))=false:=by decide):PE X (.Name x pos) (tC v) :=
 λ_ _ _ H _ I h=>rk I hg hm ⟨v,H,I,r,h⟩ hd
theorem rm{x:Str}{v:V}{u:Ä}{pos:Pos}(hg:Gl X x)(hm:X.mg x=none)(hv:ù x=some u)(r:RelV v u)(hn:x≠"__name__":=by decide)(hd:(x == ("__debug__":Str))=false:=by decide):PE X (.Name x pos) (tC v) :=
 λ_ _ _ H _ I h=>gu I hg hm hv ⟨v,H,I,r,h⟩ hn hd
variable {a b:Ö}{ta tb:TE}{pos:Pos}
def tB(t:TE):TT:=λσ H Q=>t σ H λx H1=>∃ c,x=.bl c/\Q c H1
theorem GU{e:Ö}{t:TE}(h:PE X e t)(he:∀ whole,UD e X.env whole=(do let v ← whole;Tg e.pos;Ui [v] (truthy v)):=by intro _;rfl):PT X e (tB t):=by
 intro aa s σ H Q I hw;refine isTrue_plain (b8 (h aa s σ H _ I hw) λv s1 ⟨x,H1,I1,r1,q1⟩=>?_) (he _);obtain⟨d,rfl,q⟩:=q1;cases r1;exact OX ⟨H1,I1,q⟩
variable {tA tB':TT}{rest:List Ö}
def MA(t u:TT):TT:=λσ H Q=>t σ H λc H1=>if c=true then u σ H1 Q else Q false H1
def Og(t u:TT):TT:=λσ H Q=>t σ H λc H1=>if c=true then Q true H1 else u σ H1 Q
def MB(t:TT):TT:=λσ H Q=>t σ H λc H1=>Q (!c) H1
theorem DS(ha:PT X a tA):PW X (.BoolOp .And [a] pos) tA:=by
 intro wh aa s σ H Q I h;refine isTrue_and (b8 (ha aa s σ H Q I h) λc s1 e=>?_);cases c with
 |true=>exact isTrue_and_nil e|false=>exact e
theorem GV(ha:PT X a tA):PW X (.BoolOp .Or [a] pos) tA:=by
 intro wh aa s σ H Q I h;refine isTrue_or (b8 (ha aa s σ H Q I h) λc s1 e=>?_);cases c with
 |false=>exact isTrue_or_nil e|true=>exact e
theorem GW(ha:PT X a tA)(hb:PW X (.BoolOp .And (b::rest) pos) tB'):PW X (.BoolOp .And (a::b::rest) pos) (MA tA tB'):=by
 intro wh aa s σ H Q I h;refine isTrue_and (b8 (ha aa s σ H _ I h) λc s1 ⟨H1,I1,q1⟩=>?_);cases c with
 |true=>exact hb wh aa s1 σ H1 Q I1 q1|false=>exact⟨H1,I1,q1⟩
theorem JR(ha:PT X a tA)(hb:PW X (.BoolOp .Or (b::rest) pos) tB'):PW X (.BoolOp .Or (a::b::rest) pos) (Og tA tB'):=by
 intro wh aa s σ H Q I h;refine isTrue_or (b8 (ha aa s σ H _ I h) λc s1 ⟨H1,I1,q1⟩=>?_);cases c with
 |true=>exact⟨H1,I1,q1⟩|false=>exact hb wh aa s1 σ H1 Q I1 q1
theorem GY(ha:PT X a tA):PT X (.UnaryOp .Not a pos) (MB tA):=by
 intro aa s σ H Q I h;exact isTrue_not (ha aa s σ H (λc H1=>Q (!c) H1) I h)
def JS(ta tb:TE):TE:=λσ H Q=>ta σ H λx H1=>∃ c,x=.bl c/\if c=true then tb σ H1 Q else Q (.bl false) H1
def MC(ta tb:TE):TE:=λσ H Q=>ta σ H λx H1=>∃ c,x=.bl c/\if c=true then Q (.bl true) H1 else tb σ H1 Q
def JT(ta:TE):TE:=λσ H Q=>ta σ H λx H1=>∃ c,x=.bl c/\Q (.bl (!c)) H1
theorem GZ{op}{t:TE}(h:PE X a t):PE X (.BoolOp op [a] pos) t:=λaa s σ H Q I hw=>BoolOp_one (h aa s σ H Q I hw)
theorem G0(ha:PE X a ta)(hb:PE X (.BoolOp .And (b::rest) pos) tb):PE X (.BoolOp .And (a::b::rest) pos) (JS ta tb):=by
 intro aa s σ H Q I h;refine BoolOp_and (b8 (ha aa s σ H _ I h) λv s1 ⟨x,H1,I1,r1,q1⟩=>?_);obtain⟨c,rfl,q1⟩:=q1;cases r1;refine OX ?_;cases c with
 |true=>exact hb aa s1 σ H1 Q I1 q1|false=>exact⟨.bl false,H1,I1,rfl,q1⟩
theorem JU(ha:PE X a ta)(hb:PE X (.BoolOp .Or (b::rest) pos) tb):PE X (.BoolOp .Or (a::b::rest) pos) (MC ta tb):=by
 intro aa s σ H Q I h;refine BoolOp_or (b8 (ha aa s σ H _ I h) λv s1 ⟨x,H1,I1,r1,q1⟩=>?_);obtain⟨c,rfl,q1⟩:=q1;cases r1;refine OX ?_;cases c with
 |false=>exact hb aa s1 σ H1 Q I1 q1|true=>exact⟨.bl true,H1,I1,rfl,q1⟩
theorem G1(ha:PE X a ta):PE X (.UnaryOp .Not a pos) (JT ta):=by
 intro aa s σ H Q I h;refine UnaryOp_ (b8 (ha aa s σ H _ I h) λv s1 ⟨x,H1,I1,r1,q1⟩=>?_);obtain⟨c,rfl,q1⟩:=q1;cases r1;exact not_of (OX ⟨.bl (!c),H1,I1,rfl,q1⟩)
def Oh(t:TT)(ta tb:TE):TE:=λσ H Q=>t σ H λc H1=>if c=true then ta σ H1 Q else tb σ H1 Q
theorem AO{c:Ö}(hc:PT X c tA)(ha:PE X a ta)(hb:PE X b tb):PE X (.IfExp c a b pos) (Oh tA ta tb):=by
 intro aa s σ H Q I h;refine wpAny_IfExp (b8 (hc aa s σ H _ I h) λd s1 ⟨H1,I1,q1⟩=>?_);cases d with
 |true=>exact ha aa s1 σ H1 Q I1 q1|false=>exact hb aa s1 σ H1 Q I1 q1
end
def jj(K:Â)(H:Hp)(a:Ë)(xs:List V):Prop :=
 Rd H a (.lst xs) ∨
  ∃ (o:Obj) (ai:Array Ä) (n:Nat),K.lookup a=some o/\o.cls=.type "list"/\o.dict=none/\o.data=.seq ai n/\ai.size<=sizeLine/\Vals xs ai.toList
def cI(K:Â)(H:Hp)(a:Ë)(xs:List V):Prop :=
 Rd H a (.tup xs) ∨
  ∃ (o:Obj) (ai:Array Ä) (n:Nat),K.lookup a=some o/\o.cls=.type "tuple"/\o.data=.seq ai n/\ai.size<=sizeLine/\Vals xs ai.toList
def MD:Ä->Option V
 |.none=>some .bw|.bool b=>some (.bl b)|.int i _=>some (.int i)|.str x _=>some (.str x)|.bytes b _=>some (.byt b)|.float b _=>some (.fk b)|.ref a=>some (.ref a)|.type n=>some (.ty n)|_=>none
theorem RelV.abs{x:V}{u:Ä}(r:RelV x u):MD u=some x:=by
 cases x with
 |bw=>cases r;rfl
 |bl _=>cases r;rfl
 |int _=>obtain⟨t,rfl⟩:=r;rfl
 |str _=>obtain⟨t,rfl⟩:=r;rfl
 |byt _=>obtain⟨t,rfl⟩:=r;rfl
 |fk _=>obtain⟨t,rfl⟩:=r;rfl
 |ref _=>cases r;rfl
 |ty _=>cases r;rfl
theorem RelV.inj{x y:V}{u:Ä}(r:RelV x u)(q:RelV y u):x=y:=OV (r.abs.symm.trans q.abs)
theorem Vals.inj:∀ {xs ys:List V}{us:List Ä},Vals xs us->Vals ys us->xs=ys
 |_,_,_,.nil,.nil=>rfl|_,_,_,.cons r t,.cons r' t'=>by rw[r.inj r',Vals.inj t t']
section
variable {X:Cx}{aa:List (Ë × Obj)}{σ:St}{H:Hp}{s:É}{a:Ë}{xs ys:List V}
theorem jj.of{K:Â}(h:H a=some (.lst xs)):jj K H a xs:=.inl (.inl h)
theorem cI.of{K:Â}(h:H a=some (.tup xs)):cI K H a xs:=.inl (.inl h)
theorem Inv.list(I:Inv X aa σ H s)(h:jj X.K H a xs):∃ ai:List Ä,Vals xs ai/\PlainL s.heap a ai.toArray/\xs.length<=sizeLine:=by
 rcases h with h | ⟨o,ai,n,hk,hc,hd,hs,hz,r⟩
 ·obtain⟨z,ai,n,r,e⟩:=h.ok I.bx;exact⟨ai,r,⟨_,n,e,rfl,rfl,rfl⟩,z⟩
 ·refine⟨ai.toList,r,⟨o,n,I.pQ a o hk,hc,hd,by simpa using hs⟩,?_⟩
  have e:=r.length;simp only[Q0] at e;omega
theorem Inv.tuple(I:Inv X aa σ H s)(h:cI X.K H a xs):∃ ai:List Ä,Vals xs ai/\SA s.heap a ai.toArray/\xs.length<=sizeLine:=by
 rcases h with h | ⟨o,ai,n,hk,hc,hs,hz,r⟩
 ·obtain⟨z,ai,r,p⟩:=h.ok I.bx;exact⟨ai,r,p,z⟩
 ·refine⟨ai.toList,r,⟨o,I.pQ a o hk,hc,n,by simpa using hs⟩,?_⟩
  have e:=r.length;simp only[Q0] at e;omega
theorem Inv.tJ(I:Inv X aa σ H s)(h:jj X.K H a xs)(h':jj X.K H a ys):xs=ys:=by
 obtain⟨ai,r,⟨o,n,e,_,_,d⟩,_⟩:=I.list h;obtain⟨its',r',⟨o',n',e',_,_,d'⟩,_⟩:=I.list h';rw[e] at e';cases e';rw[d] at d';injection d' with d1 _;have:ai=its':=by simpa using congrArg toList d1
 subst this;exact r.inj r'
theorem Inv.qi(I:Inv X aa σ H s)(h:cI X.K H a xs)(h':cI X.K H a ys):xs=ys:=by
 obtain⟨ai,r,⟨o,e,_,n,d⟩,_⟩:=I.tuple h;obtain⟨its',r',⟨o',e',_,n',d'⟩,_⟩:=I.tuple h';rw[e] at e';cases e';rw[d] at d';injection d' with d1 _;have:ai=its':=by simpa using congrArg toList d1
 subst this;exact r.inj r'
end
section
variable {X:Cx}{st:Qm}{rest:List Qm}{t u:TS}{e:Ö}{te:TE}{pos:Pos}
def JV:TS:=λD σ H=>D.nx σ H
def ME(t u:TS):TS:=λD σ H=>t { D with nx:=u D } σ H
theorem DT:mU X [] JV:=λ_ _ σ H _ I h=>UQ ⟨σ,H,I,h⟩
theorem AQ(h1:PS X st t)(h2:mU X rest u):mU X (st::rest) (ME t u):=by
 intro aa s σ H D I h;refine wpAny_execs_cons (b8 (h1 aa s σ H { D with nx:=u D } I h) λf s1 q=>?_);cases f with
 |next =>
  obtain⟨σ',H',I',q⟩:=q;exact h2 aa s1 σ' H' D I' q
 |ret v=>exact q|brk=>exact q|cont=>exact q
theorem Inv.quiet{aa:List (Ë × Obj)}{σ:St}{H:Hp}{s:É}(I:Inv X aa σ H s):interactive X.env=false:=by simp[interactive,I.ok.kind]
def JW(te:TE):TS:=λD σ H=>te σ H λ_ H1=>D.nx σ H1
theorem xC(he:PE X e te)(hs:Rf e none pos.line X.env=pure false:=by rfl):PS X (.Expr e pos) (JW te):=by
 intro aa s σ H D I h;exact wpAny_Expr_any (b8 (he aa s σ H _ I h) λv s1 ⟨x,H1,I1,r1,q1⟩=>⟨σ,H1,I1,q1⟩) I.quiet hs
def MF(te:TE):TS:=λD σ H=>te σ H D.rt
theorem AR(he:PE X e te):PS X (.Return (some e) pos) (MF te):=by
 intro aa s σ H D I h;exact wpAny_Return_some (b8 (he aa s σ H _ I h) λv s1 ⟨x,H1,I1,r1,q1⟩=>⟨x,σ,H1,I1,r1,q1⟩)
def JX:TS:=λD _ H=>D.rt .bw H
theorem DU:PS X (.Return none pos) JX:=λ_ _ σ H _ I h=>wpAny_Return_none ⟨.bw,σ,H,I,rfl,h⟩
def MG(c:TT)(t u:TS):TS:=λD σ H=>c σ H λb H1=>if b=true then t D σ H1 else u D σ H1
theorem JY{c:Ö}{a b:List Qm}{tc:TT}(hc:PT X c tc)(ha:mU X a t)(hb:mU X b u):PS X (.If c a b pos) (MG tc t u):=by
 intro aa s σ H D I h;refine wpAny_If (b8 (hc aa s σ H _ I h) λd s1 ⟨H1,I1,q1⟩=>?_);cases d with
 |true=>exact ha aa s1 σ H1 D I1 q1|false=>exact hb aa s1 σ H1 D I1 q1
end
abbrev TG:=V->St->Hp->(St->Hp->Prop)->Prop
abbrev F9:=List V->St->Hp->(St->Hp->Prop)->Prop
def PG(X:Cx)(target:Ö)(t:TG):Prop :=
 ∀ (aa:List (Ë × Obj)) (s:É) (σ:St) (H:Hp) (v:V) (u:Ä) (Q:St->Hp->Prop),Inv X aa σ H s->RelV v u->t v σ H Q ->
  Ú (Ù X.prog X.w) X.A (Rr target X.env u) (λ_ s'=>∃ σ' H',Inv X aa σ' H' s'/\Q σ' H') X.xe s
def JZ(X:Cx)(ts:List Ö)(t:F9):Prop :=
 ∀ (aa:List (Ë × Obj)) (s:É) (σ:St) (H:Hp) (vs:List V) (us:List Ä) (Q:St->Hp->Prop),Inv X aa σ H s->Vals vs us->t vs σ H Q ->
  Ú (Ù X.prog X.w) X.A (VJ ((QV ts X.env).map (·.2)) us) (λ_ s'=>∃ σ' H',Inv X aa σ' H' s'/\Q σ' H') X.xe s
abbrev DV:=V->V->V->Hp->(Hp->Prop)->Prop
def J0(X:Cx)(t:DV):Prop :=
 ∀ (aa:List (Ë × Obj)) (s:É) (σ:St) (H:Hp) (o i v:V) (ov iv u:Ä) (Q:Hp->Prop),Inv X aa σ H s->RelV o ov->RelV i iv->RelV v u->t o i v H Q ->
  Ú (Ù X.prog X.w) X.A (setItem ov iv u) (λ_ s'=>∃ H',Inv X aa σ H' s'/\Q H') X.xe s
abbrev J1:=V->V->Hp->VK->Prop
def N0(X:Cx)(op:R7)(t:J1):Prop :=
 ∀ (aa:List (Ë × Obj)) (s:É) (σ:St) (H:Hp) (x y:V) (v u:Ä) (Q:VK),Inv X aa σ H s->RelV x v->RelV y u->t x y H Q ->
  Ú (Ù X.prog X.w) X.A (inplaceOp op v u) (EP X aa σ Q) X.xe s
section
variable {X:Cx}{pos:Pos}
def j8(i:Nat):TG:=λv σ H Q=>Q (σ.set i (some v)) H
theorem DW{i:Nat}{x:Str}(hN:X.N.Nodup)(hi:X.N[i]?=some x)(hx:Loc X.env.scope x)(hf:X.fn x=true∨X.env.scope.names.lookup x=some .local:=by first | exact .inl rfl | exact .inr rfl | assumption):PG X (.Name x pos) (j8 i):=by
 intro aa s σ H v u Q I r h;exact QH (ix I hN hi hx r (λs' I'=>⟨_,H,I',h⟩) hf)
def J2:F9:=λvs σ H Q=>vs=[]/\Q σ H
def Ga(t:TG)(u:F9):F9:=λvs σ H Q=>∃ v r,vs=v::r/\t v σ H λσ' H'=>u r σ' H' Q
theorem DX:JZ X [] J2:=by
 intro aa s σ H vs us Q I r h;obtain⟨e,h⟩:=h;subst e;cases r;exact XJ ⟨σ,H,I,h⟩
theorem AS{e:Ö}{es:List Ö}{t:TG}{u:F9}(h1:PG X e t)(h2:JZ X es u)
  (hs:(QV (e::es) X.env).map (·.2)=Rr e X.env::(QV es X.env).map (·.2):=by rfl):JZ X (e::es) (Ga t u):=by
 intro aa s σ H vs us Q I r h;obtain⟨v,vr,e1,h⟩:=h;subst e1;cases r with
 |cons r rr =>
  rw[hs];refine TZ (b8 (h1 aa s σ H _ _ _ I r h) λ_ s1 ⟨σ1,H1,I1,q1⟩=>?_);exact h2 aa s1 σ1 H1 _ _ Q I1 rr q1
def J3(K:Â)(n:Nat)(t:F9):TG:=λv σ H Q=>∃ a xs,v=.ref a/\cI K H a xs/\xs.length=n/\t xs σ H Q
theorem G2{es:List Ö}{k:Nat}{t:F9}{n:Nat}(hc:X.calm=true)(h:JZ X es t)
  (hn:(QV es X.env).length=n:=by rfl) (hst:(QV es X.env).findIdx? (·.1)=none:=by rfl):PG X (.Tuple es k pos) (J3 X.K n t):=by
 intro aa s σ H v u Q I r hw;obtain⟨a,xs,e1,hq,hl,hw⟩:=hw;subst e1;cases r;obtain⟨ai,rv,ht,hz⟩:=I.tuple hq;refine assign_Tuple_tuple (I.ok.hd hc) ht (by simp[hn,← hl,rv.length]) hst λh' hx=>?_
 have I1:Inv X aa σ H { s with heap:=h' }:=I.kept (t':=s.toks) λb o e=>hx b o (â (ë e)) e;exact h aa _ σ H xs _ Q I1 (by simpa using rv) hw
def MJ(to ti:TE)(t:DV):TG:=λv σ H Q=>to σ H λo H1=>ti σ H1 λi H2=>t o i v H2 λH3=>Q σ H3
theorem G3{o i:Ö}{to ti:TE}{t:DV}(ho:PE X o to)(hi:PE X i ti)(hs:J0 X t)
  (ha:∀ v,Rr (.Subscript o i pos) X.env v=(do
   let ov ← Ui [v] (eval o X.env)
   let iv ← Ui [v,ov] (eval i X.env)
   Tg pos
   Ui [v,ov,iv] (setItem ov iv v)
   release [v,ov,iv] []):=by intro _;rfl):PG X (.Subscript o i pos) (MJ to ti t):=by
 intro aa s σ H v u Q I r h;rw[ha];refine À (PC (b8 (ho aa s σ H _ I h) λov s1 ⟨x,H1,I1,r1,q1⟩=>?_));refine À (PC (b8 (hi aa s1 σ H1 _ I1 q1) λiv s2 ⟨y,H2,I2,r2,q2⟩=>?_));refine À (P5 (À (PC (b8 (hs aa s2 σ H2 x y v ov iv u _ I2 r1 r2 r q2) λ_ s3 ⟨H3,I3,q3⟩=>?_))));exact wpAny_release ⟨σ,H3,I3,q3⟩
def vR(te:TE)(g:TG):TS:=λD σ H=>te σ H λx H1=>g x σ H1 D.nx
theorem AU{tg e:Ö}{te:TE}{g:TG}(he:PE X e te)(hg:PG X tg g)(hs:swapsWithSole [tg] e pos.line X.env=pure false:=by rfl)(hw:PD [tg] e X.env=pure none:=by rfl)
  (h1:(QV [tg] X.env).map (·.2)=[Rr tg X.env]:=by rfl):PS X (.Assign [tg] e pos) (vR te g):=by
 intro aa s σ H D I h;refine wpAny_Assign_stores (b8 (he aa s σ H _ I h) λv s1 ⟨x,H1,I1,r1,q1⟩=>?_) hs hw;rw[h1];exact b8 (hg aa s1 σ H1 x v _ I1 r1 q1) λ_ s2 q=>q
theorem rp{i:Nat}{x:Str}{e:Ö}{te:TE}{pos':Pos}(hN:X.N.Nodup)(hi:X.N[i]?=some x)(hx:Loc X.env.scope x)(he:PE X e te)(hs:Rf e (some (.Name x pos')) pos.line X.env=pure false:=by rfl)(hf:X.fn x=true∨X.env.scope.names.lookup x=some .local:=by first | exact .inl rfl | exact .inr rfl | assumption) :
  PS X (.Assign [.Name x pos'] e pos) (vR te (j8 i)):=by
 intro aa s σ H D I h;refine wpAny_Assign_Name (b8 (he aa s σ H _ I h) λv s1 ⟨y,H1,I1,r1,q1⟩=>?_) hs;exact ix I1 hN hi hx r1 (λs2 I2=>⟨_,H1,I2,q1⟩) hf
def MK(i j:Nat)(ta:TA):TS:=λD σ H=>ta σ H λvs H1=>∃ v w,vs=[v,w]/\D.nx ((σ.set i (some v)).set j (some w)) H1
theorem G4{i j:Nat}{x y:Str}{a b:Ö}{ta:TA}{px py pt:Pos}{kt k2 pt2}(hc:X.calm=true)(hN:X.N.Nodup)(hi:X.N[i]?=some x)(hj:X.N[j]?=some y)(hij:i≠j)
  (hx:X.env.scope.names.lookup x=some .local) (hy:X.env.scope.names.lookup y=some .local) (ha:PA X [a,b] ta)
  (hw:PD [.Tuple [.Name x px,.Name y py] kt pt] (.Tuple [a,b] k2 pt2) X.env=pure (some [x,y]))
  (hs:swapsWithSole [.Tuple [.Name x px,.Name y py] kt pt] (.Tuple [a,b] k2 pt2) pos.line X.env=pure false:=by rfl) :
  PS X (.Assign [.Tuple [.Name x px,.Name y py] kt pt] (.Tuple [a,b] k2 pt2) pos) (MK i j ta):=by
 intro aa s σ H D I h;rw[exec_Assign_arm];refine À (P5 ?_);rw[hs];refine À (È ?_);rw[if_neg (-0)]
 refine À (Tuple_ (b8 (ha _ aa s σ H _ I h) λus s1 ⟨vs,H1,I1,r1,q1⟩=>?_));obtain⟨v,w,e1,q1⟩:=q1;subst e1;obtain⟨u1,u2,rfl,rv,rw'⟩:∃ u1 u2,us=[u1,u2]/\RelV v u1/\RelV w u2:=by
  cases r1 with
  |cons p q =>
   cases q with
   |cons p' q' =>
    cases q';exact⟨_,_,rfl,p,p'⟩
 refine My ?_ (by show 2<=sizeLine;decide)
 have I2:Inv X aa σ H1 { s1 with heap:=s1.heap.push { cls:=.type "tuple",data:=.seq [u1,u2].toArray } }:=I1.kept (t':=s1.toks) λb o e=>Ã _ e;rw[hw];refine À (È ?_);show Ú (Ù X.prog X.w) X.A (do rule "assign.swapped-stores";let items ← unpackItems (.ref s1.heap.objs.size) 2 none;VJ [λv=>WW X.env y v,λv=>WW X.env x v] items.reverse;pure Flow.next) _ _ _;refine À (Qy (À (unpackItems_tuple (items:=#[u1,u2]) (I.ok.hd hc) (Wu s1.heap _) λh' hx'=>?_)));have I3:=I2.kept (h':=h') (t':=s1.toks) λb o e=>hx' b o (â (ë e)) e;show Ú _ _ (VJ [λv=>WW X.env y v,λv=>WW X.env x v] [u2,u1] >>= λ_=>pure Flow.next) _ _ _;refine À (TZ (wpAny_bindName (ix I3 hN hj (.inl hy) rw' (λs2 I4=>?_) (.inr hy))));refine TZ (wpAny_bindName (ix I4 hN hi (.inl hx) rv (λs3 I5=>XJ (È ?_)) (.inr hx)));rw[List.set_comm _ _ (OT hij)] at I5;exact⟨_,H1,I5,q1⟩
def MM(i:Nat)(te:TE)(ti:J1):TS:=λD σ H=>∃ x,σ[i]?=some (some x)/\te σ H λy H1=>ti x y H1 λz H2=>D.nx (σ.set i (some z)) H2
theorem G5{i:Nat}{x:Str}{e:Ö}{te:TE}{op:R7}{ti:J1}{pos':Pos}(hN:X.N.Nodup)(hi:X.N[i]?=some x)(hx:Loc X.env.scope x)(he:PE X e te)(ho:N0 X op ti)(hf:X.fn x=true∨X.env.scope.names.lookup x=some .local:=by first | exact .inl rfl | exact .inr rfl | assumption) :
  PS X (.AugAssign (.Name x pos') op e pos) (MM i te ti):=by
 intro aa s σ H D I h;obtain⟨v,e1,h⟩:=h;obtain⟨m,hn,hl⟩:=I.loc;have vis:JO X.env.scope x:=by rcases hx with k | k;exact .inl k;exact .inr (.inl k)
 obtain⟨u,r,l⟩:=hl i x v hi e1 vis;refine wpAny_AugAssign_Name ?_;have go:Ú (Ù X.prog X.w) X.A (eval e X.env) (λw s₂=>Ú (Ù X.prog X.w) X.A (inplaceOp op u w) (λr s₃=>Ú (Ù X.prog X.w) X.A (X3 X.env x r) (λ_=>SP X aa D .next) X.xe s₃) X.xe s₂) X.xe s:=by
  refine b8 (he aa s σ H _ I h) λw s1 ⟨y,H1,I1,r1,q1⟩=>?_;refine b8 (ho aa s1 σ H1 v y u w _ I1 r r1 q1) λz s2 ⟨zv,H2,I2,r2,q2⟩=>?_;exact ix I2 hN hi hx r2 (λs3 I3=>⟨_,H2,I3,q2⟩) hf
 rcases l with ⟨hk,hm⟩ | ⟨hk,c,hc,hcell⟩
 ·exact QT I.ok.kind hk hn hm go
 ·rcases hk with hk | hk
  ·exact Xb I.ok.kind hk hc hcell go
  ·rcases hx with k | k
   ·have:X.env.scope.names.lookup x=some .free:=hk;rw[k] at this;cases this
   ·have:X.env.scope.names.lookup x=some .free:=hk;rw[k] at this;cases this
def N1(to ti te:TE)(tget:V->V->Hp->VK->Prop)(tip:J1)(tset:DV):TS:=λD σ H=>to σ H λo H1=>ti σ H1 λi H2=>tget o i H2 λx H3=>te σ H3 λy H4=>tip x y H4 λz H5=>tset o i z H5 λH6=>D.nx σ H6
def Oi(X:Cx)(t:V->V->Hp->VK->Prop):Prop :=
 ∀ (aa:List (Ë × Obj)) (s:É) (σ:St) (H:Hp) (o i:V) (ov iv:Ä) (Q:VK),Inv X aa σ H s->RelV o ov->RelV i iv->t o i H Q ->
  Ú (Ù X.prog X.w) X.A (Tn ov iv) (EP X aa σ Q) X.xe s
def OK(f:Int->Int->Int):J1:=λx y H Q=>∃ i j,x=.int i/\y=.int j/\Q (.int (f i j)) H
def G6(c:TT)(tb:TS):TS:=λD σ H=>∃ W:Nat->St->Hp->Prop,(∃ m,W m σ H)/\∀ m σ H,W m σ H ->
 c σ H λb H1=>if b=true then ∃ N:St->Hp->Prop,(∀ σ' H',N σ' H'->∃ m',m' < m/\W m' σ' H')/\tb { D with nx:=N,ct:=N,bk:=D.nx } σ H1 else D.nx σ H1
theorem AV{c:Ö}{body:List Qm}{tc:TT}{tb:TS}(hp:PassesOwn (Ù X.prog X.w) X.A X.env X.xe)(hc:PT X c tc)(hb:mU X body tb):PS X (.While c body [] pos) (G6 tc tb):=by
 intro aa s σ H D I h;obtain⟨W,⟨m0,w0⟩,turn⟩:=h;refine wpAny_While (codeAny_whileLoop (λn s'=>∃ σ' H',Inv X aa σ' H' s'/\W n σ' H') ?_ m0 ⟨σ,H,I,w0⟩);rintro n s1 ⟨σ1,H1,I1,w1⟩;refine QB hp (b8 (hc aa s1 σ1 H1 _ I1 (turn n σ1 H1 w1)) λb s2 ⟨H2,I2,q2⟩=>?_);cases b with
 |true =>
  obtain⟨N,hN,q2⟩:=q2;rw[if_pos rfl];refine QB hp (b8 (hb aa s2 σ1 H2 _ I2 q2) λf s3 q3=>?_);cases f with
  |next =>
   obtain⟨σ3,H3,I3,n3⟩:=q3;obtain⟨m',hm,w3⟩:=hN σ3 H3 n3;exact⟨m',hm,σ3,H3,I3,w3⟩
  |cont =>
   obtain⟨σ3,H3,I3,n3⟩:=q3;obtain⟨m',hm,w3⟩:=hN σ3 H3 n3;exact⟨m',hm,σ3,H3,I3,w3⟩
  |brk=>exact q3|ret v=>exact q3
 |false =>
  rw[if_neg Õ];exact UQ ⟨σ1,H2,I2,q2⟩
end
structure It where
 go:Nat->Hp->Prop
 yld:Nat->Hp->V->Hp->Prop
 stop:Nat->Hp->Prop
def j9(X:Cx)(aa:List (Ë × Obj))(H:Hp)(b:Ë):Prop :=
 H b=none/\b≠X.env.locals/\b ∉ X.fs/\(b∈X.ex∨X.s₀.heap.objs.size<=b)/\(∀ x c,X.env.cells.lookup x=some c->c≠b)/\∀ p∈X.pn++aa,p.1≠b
theorem Inv.ly{X:Cx}{aa:List (Ë × Obj)}{σ:St}{H H':Hp}{s:É}{b:Ë}(I:Inv X aa σ H s)(hb:s.heap.objs.size<=b)(hn:H' b=none):j9 X aa H' b:=by
 refine⟨hn,SO (ê I.lt hb),I.Mz hb,.inr (ã I.sz hb),λx c e z=>?_,λp hp z=>?_⟩
 ·obtain⟨v,q⟩:=I.cell x c e;exact absurd (ê q.lt (by rw[z];exact hb)) (O1 _)
 ·exact absurd (ê (ë (I.pin p hp).1) (by rw[z];exact hb)) (O1 _)
structure Turn(P:Program)(w:World)(K:PySem.W.Frag)(tg:Expr)(J:It)(fp:List Addr)(it:Addr)(tn:Nat->Heap->Prop):Prop where
 mem:it∈fp
 obj:∀ i h,tn i h->∀ b∈fp,∃ o,h.get? b=some o/\∀ v,o.data≠.cell v
 keep:∀ i h h',tn i h->(∀ b∈fp,∀ o,h.get? b=some o->h'.get? b=some o)->tn i h'
 item:∀ (X:Cx),X.prog=P->X.w=w->X.K=K->X.calm=true->∀ (i:Nat) (aa:List (Addr × Obj)) (s:Shared) (σ:St) (H:Hp) (E:Value->Shared->Prop),Inv X aa σ H s->(∀ b∈fp,j9 X aa H b)->tn i s.heap->J.go i H ->
  wpAny (model P w) X.A (pyNext (.ref it)) (λr s1=>∃ u,r=some u /\
   wpAny (model P w) X.A (letOwnedTupleGo tg (.ref it) u) (λ_ s2=>∃ x H',Inv X aa σ H' s2/\RelV x u/\J.yld i H x H'/\tn (i + 1) s2.heap/\∀ b∈fp,H' b=none) E s1) E s
 done:∀ (X:Cx),X.prog=P->X.w=w->X.K=K->X.calm=true->∀ (i:Nat) (aa:List (Addr × Obj)) (s:Shared) (σ:St) (H:Hp) (E:Value->Shared->Prop),Inv X aa σ H s->(∀ b∈fp,j9 X aa H b)->tn i s.heap->J.stop i H ->
  wpAny (model P w) X.A (pyNext (.ref it)) (λr s1=>r=none/\Inv X aa σ H s1) E s
 self:∀ (A:Around) (i:Nat) (s:Shared) (Q:Value->Shared->Prop) (E:Value->Shared->Prop),tn i s.heap->Q (.ref it) s->wpAny (model P w) A (pyIter (.ref it)) Q E s
abbrev TI:=St->Hp->(It->Hp->Prop)->Prop
def N2(X:Cx)(aa:List (Ë × Obj))(σ:St)(tg:Ö)(R:It->Hp->Prop)(itv:Ä)(s2:É):Prop :=
 ∃ (it:Ë) (fp:List Ë) (tn:Nat->û->Prop) (J:It) (H':Hp),itv=.ref it/\Inv X aa σ H' s2/\Turn X.prog X.w X.K tg J fp it tn/\tn 0 s2.heap/\(∀ b∈fp,j9 X aa H' b)/\R J H'
def PI(X:Cx)(tg iter:Ö)(wi:TI):Prop :=
 ∀ (aa:List (Ë × Obj)) (s:É) (σ:St) (H:Hp) (R:It->Hp->Prop),Inv X aa σ H s->wi σ H R ->
  Ú (Ù X.prog X.w) X.A (eval iter X.env) (λv s1=>Ú (Ù X.prog X.w) X.A (Wd v) (N2 X aa σ tg R) X.xe s1) X.xe s
theorem AW{M:Model}{A:p8}{E:Ä->É->Prop}{s:É}{tg:Ö}{it:Ë}{u:Ä}{o:Obj}{n:String}{vs:Array Ä}{Q:Unit->É->Prop}(ho:s.heap.get? it=some o)(hc:o.cls=.type n)(hd:o.data=.fields vs)
  (hn:["enumerate","zip","dict_itemiterator","dict_reverseitemiterator","odict_iterator","itertools.zip_longest","itertools.pairwise"].contains n=false) (hQ:Q () s):Ú M A (RL tg (.ref it) u) Q E s:=by
 unfold RL;cases tg <;> first
  |exact È hQ
  |(cases u <;> first
    |exact È hQ
    |(refine À (Xq ho ?_)
      rw[hc,hd];show Ú M A (if (["enumerate","zip","dict_itemiterator","dict_reverseitemiterator","odict_iterator","itertools.zip_longest","itertools.pairwise"].contains n&&vs[0]? == some (U7 _))=true then _ else _) Q E s;rw[if_neg (by intro h;rw[hn,Rb] at h;cases h)]
      exact È hQ))
def J4(K:Â)(a:Ë):It :=
 ⟨λi H=>∃ xs x,jj K H a xs/\xs[i]?=some x,λi H x H'=>H'=H/\∀ xs,jj K H a xs->xs[i]?=some x,λi H=>∃ xs,jj K H a xs/\xs.length<=i⟩
def Mb(K:Â)(a:Ë):It :=
 ⟨λi H=>∃ xs x,cI K H a xs/\xs[i]?=some x,λi H x H'=>H'=H/\∀ xs,cI K H a xs->xs[i]?=some x,λi H=>∃ xs,cI K H a xs/\xs.length<=i⟩
def J5(lo:Int)(n:Nat):It:=⟨λi _=>i < n,λi H x H'=>H'=H/\x=.int (lo + i),λi _=>n<=i⟩
theorem zg{P:í}{w:ü}{K:Â}{tg:Ö}(a it:Ë):Turn P w K tg (J4 K a) [it] it (λi h=>h.IsListIter it a i) where
 mem:=by simp
 obj:=λi h st b hb=>by
  have e:b=it:=by simpa using hb
  subst e;obtain⟨o,e,c,d⟩:=st;exact⟨o,e,λv z=>by rw[d] at z;cases z⟩
 keep:=λi h h' st k=>st.at λo e=>k it (by simp) o e
 item:=by
  intro X hP hw hK hc i aa s σ H E I hf st hg;subst hP hw hK;obtain⟨xs,x,hq,hx⟩:=hg;obtain⟨ai,rv,p,hz⟩:=I.list hq;obtain⟨u,hu,ru⟩:=rv.get hx;obtain⟨f0,f1,f2,f3,f4,f5⟩:=hf it (by simp)
  refine wpAny_pyNext_list_item st p.isList (x:=u) (by simpa using hu) λh' st' sb=>?_
  have I1:Inv X aa σ H { s with heap:=h' }:=I.turned (t':=s.toks) (λb o hb e=>(sb.2 b hb).trans e) f0 f1 f3 f4 f5;obtain⟨o,e,c,d⟩:=id st';exact⟨u,rfl,AW (s:={ s with heap:=h' }) e c d (-0) ⟨x,H,I1,ru,⟨rfl,λys hy=>by rw[I.tJ hy hq];exact hx⟩,st',λb hb=>(hf b hb).1⟩⟩
 done:=by
  intro X hP hw hK hc i aa s σ H E I hf st hg;subst hP hw hK;obtain⟨xs,hq,hx⟩:=hg;obtain⟨ai,rv,p,hz⟩:=I.list hq;obtain⟨f0,f1,f2,f3,f4,f5⟩:=hf it (by simp)
  have hl:=rv.length;exact wpAny_pyNext_list_end (I.ok.hd hc) st p.isList (by simp;omega) λh' eb=>⟨rfl,I.turned (t':=s.toks) (λb o hb e=>eb b o hb e) f0 f1 f3 f4 f5⟩
 self:=λ_ _ _ _ _ st h=>WB st h
theorem vS{P:í}{w:ü}{K:Â}{tg:Ö}(a it:Ë):Turn P w K tg (Mb K a) [it] it (λi h=>h.IsTupleIter it a i) where
 mem:=by simp
 obj:=λi h st b hb=>by
  have e:b=it:=by simpa using hb
  subst e;obtain⟨o,e,c,d⟩:=st;exact⟨o,e,λv z=>by rw[d] at z;cases z⟩
 keep:=λi h h' st k=>st.at λo e=>k it (by simp) o e
 item:=by
  intro X hP hw hK hc i aa s σ H E I hf st hg;subst hP hw hK;obtain⟨xs,x,hq,hx⟩:=hg;obtain⟨ai,rv,p,hz⟩:=I.tuple hq;obtain⟨u,hu,ru⟩:=rv.get hx;obtain⟨f0,f1,f2,f3,f4,f5⟩:=hf it (by simp)
  refine wpAny_pyNext_tuple_item st (show s.heap.IsTuple a ai.toArray from p) (x:=u) (by simpa using hu) λh' st' sb=>?_
  have I1:Inv X aa σ H { s with heap:=h' }:=I.turned (t':=s.toks) (λb o hb e=>(sb.2 b hb).trans e) f0 f1 f3 f4 f5;obtain⟨o,e,c,d⟩:=id st';exact⟨u,rfl,AW (s:={ s with heap:=h' }) e c d (-0) ⟨x,H,I1,ru,⟨rfl,λys hy=>by rw[I.qi hy hq];exact hx⟩,st',λb hb=>(hf b hb).1⟩⟩
 done:=by
  intro X hP hw hK hc i aa s σ H E I hf st hg;subst hP hw hK;obtain⟨xs,hq,hx⟩:=hg;obtain⟨ai,rv,p,hz⟩:=I.tuple hq;obtain⟨f0,f1,f2,f3,f4,f5⟩:=hf it (by simp)
  have hl:=rv.length;exact wpAny_pyNext_tuple_end (I.ok.hd hc) st (show s.heap.IsTuple a ai.toArray from p) (by simp;omega) λh' eb=>⟨rfl,I.turned (t':=s.toks) (λb o hb e=>eb b o hb e) f0 f1 f3 f4 f5⟩
 self:=λ_ _ _ _ _ st h=>SG st h
theorem vT{P:í}{w:ü}{K:Â}{tg:Ö}(it:Ë)(lo:Int)(n:Nat):Turn P w K tg (J5 lo n) [it] it (λi h=>IsRangeIter h it (lo + (i:Nat) * 1) ((n:Int) - (i:Nat)) 1) where
 mem:=by simp
 obj:=λi h st b hb=>by
  have e:b=it:=by simpa using hb
  subst e;exact⟨_,st,λv z=>by
   have z':Data.fields _=Data.cell v:=z;cases z'⟩
 keep:=λi h h' st k=>k it (by simp) _ st
 item:=by
  intro X hP hw hK hc i aa s σ H E I hf st hg;subst hP hw hK;obtain⟨f0,f1,f2,f3,f4,f5⟩:=hf it (by simp)
  have W:=Walks.range (prog:=X.prog) (w:=X.w) (I.ok.hd hc) it lo 1 n;refine W.item i s _ _ hg st λv h' tk hv st' kk=>?_;obtain⟨t,rfl⟩:=hv;have I1:Inv X aa σ H { s with heap:=h',toks:=tk }:=I.turned (λb o hb e=>kk b o (by simpa using hb) e) f0 f1 f3 f4 f5
  refine⟨_,rfl,AW (s:={ s with heap:=h',toks:=tk }) (n:="range_iterator") st' rfl rfl (-0) ⟨.int (lo + i),H,I1,⟨t,?_⟩,⟨rfl,rfl⟩,st',λb hb=>(hf b hb).1⟩⟩
  rw[TJ]
 done:=by
  intro X hP hw hK hc i aa s σ H E I hf st hg;subst hP hw hK;obtain⟨f0,f1,f2,f3,f4,f5⟩:=hf it (by simp)
  exact wpAny_pyNext_range_end (I.ok.hd hc) st (by have:n<=i:=hg;omega) λh' eb=>⟨rfl,I.turned (t':=s.toks) (λb o hb e=>eb b o hb e) f0 f1 f3 f4 f5⟩
 self:=λ_ _ _ _ _ st h=>wpAny_pyIter_rangeiter st h
section
variable {X:Cx}{tg:Ö}
def J6(K:Â)(tl:TE):TI:=λσ H R=>tl σ H λx H1=>∃ a,x=.ref a/\(∃ xs,jj K H1 a xs)/\R (J4 K a) H1
def MN(K:Â)(tl:TE):TI:=λσ H R=>tl σ H λx H1=>∃ a,x=.ref a/\(∃ xs,cI K H1 a xs)/\R (Mb K a) H1
theorem rq{l:Ö}{tl:TE}(hl:PE X l tl):PI X tg l (J6 X.K tl):=by
 intro aa s σ H R I h;refine b8 (hl aa s σ H _ I h) λv s1 ⟨x,H1,I1,r1,q1⟩=>?_;obtain⟨a,e,⟨xs,hq⟩,q⟩:=q1;subst e;cases r1;obtain⟨ai,rv,p,hz⟩:=I1.list hq;refine Rp p.isList ?_;refine⟨s1.heap.objs.size,[s1.heap.objs.size],_,_,H1,rfl,I1.kept (t':=s1.toks) λb o e=>Ã _ e,zg a _,⟨_,Í _ rfl,rfl,rfl⟩,λb hb=>?_,q⟩;have e:b=s1.heap.objs.size:=by simpa using hb
 subst e;exact I1.ly (Ô _) (I1.bx.fresh (Ô _))
theorem AX{l:Ö}{tl:TE}(hl:PE X l tl):PI X tg l (MN X.K tl):=by
 intro aa s σ H R I h;refine b8 (hl aa s σ H _ I h) λv s1 ⟨x,H1,I1,r1,q1⟩=>?_;obtain⟨a,e,⟨xs,hq⟩,q⟩:=q1;subst e;cases r1;obtain⟨ai,rv,p,hz⟩:=I1.tuple hq;refine Py (show s1.heap.IsTuple a ai.toArray from p) ?_;refine⟨s1.heap.objs.size,[s1.heap.objs.size],_,_,H1,rfl,I1.kept (t':=s1.toks) λb o e=>Ã _ e,vS a _,⟨_,Í _ rfl,rfl,rfl⟩,λb hb=>?_,q⟩;have e:b=s1.heap.objs.size:=by simpa using hb
 subst e;exact I1.ly (Ô _) (I1.bx.fresh (Ô _))
theorem tK{aa:List (Ë × Obj)}{σ:St}{H:Hp}{s:É}{R:It->Hp->Prop}{E:Ä->É->Prop}{lo hi:Int}{t u v:Tok}{tk:Nat}(I:Inv X aa σ H s)(h1:-(2 ^ 62)<=lo)(h2:lo < 2 ^ 62)(h3:-(2 ^ 62)<=hi)(h4:hi < 2 ^ 62)
  (q:R (J5 lo (hi - lo).toNat) H):Ú (Ù X.prog X.w) X.A (Wd (.ref s.heap.objs.size)) (N2 X aa σ tg R) E { s with heap:=s.heap.push { cls:=.type "range",data:=.fields #[.int lo t,.int hi u,.int 1 v] },toks:=tk }:=by
 refine wpAny_pyIter_range (UU ..) (X4 h1 h2 h3 h4) ?_;have I1:Inv X aa σ H { s with heap:=s.heap.push { cls:=.type "range",data:=.fields #[.int lo t,.int hi u,.int 1 v] },toks:=tk }:=I.kept λb o e=>Ã _ e;refine⟨(s.heap.push { cls:=.type "range",data:=.fields #[.int lo t,.int hi u,.int 1 v] }).objs.size,[(s.heap.push { cls:=.type "range",data:=.fields #[.int lo t,.int hi u,.int 1 v] }).objs.size],_,_,H,rfl,
  I1.kept (t':=tk) λb o e=>Ã _ e,vT _ lo (hi - lo).toNat,?_,λb hb=>?_,q⟩
 ·have e1:lo + ((0:Nat):Int) * 1=lo:=by simp
  have e2:(((hi - lo).toNat:Nat):Int) - ((0:Nat):Int)=Po lo hi 1:=by rw[VH];split <;> omega
  show IsRangeIter _ _ (lo + ((0:Nat):Int) * 1) ((((hi - lo).toNat:Nat):Int) - ((0:Nat):Int)) 1;rw[e1,e2];exact Í _ rfl
 ·have e:b=(s.heap.push { cls:=.type "range",data:=.fields #[.int lo t,.int hi u,.int 1 v] }).objs.size:=by simpa using hb
  subst e;exact I1.ly (Ô _) (I1.bx.fresh (Ô _))
def J7(ta:TA):TI:=λσ H R=>ta σ H λvs H1=>∃ j:Int,vs=[.int j]/\-(2 ^ 62)<=j/\j < 2 ^ 62/\R (J5 0 j.toNat) H1
def J8(ta:TA):TI:=λσ H R=>ta σ H λvs H1=>∃ i j:Int,vs=[.int i,.int j]/\(-(2 ^ 62)<=i/\i < 2 ^ 62/\-(2 ^ 62)<=j/\j < 2 ^ 62)/\R (J5 i (j - i).toNat) H1
theorem zh{a:Ö}{ta:TA}{p pos:Pos}(hg:Gl X "range")(hm:X.mg "range"=none)(ha:PA X [a] ta)(hs:Of [a] X.env=[(false,eval a X.env)]:=by rfl):PI X tg (.Call (.Name "range" p) [a] [] pos) (J7 ta):=by
 intro aa s σ H R I h;refine XY (gu I hg hm boot_range (OS (b8 (ha pos aa s σ H _ I h) λus s1 ⟨vs,H1,I1,r1,q1⟩=>?_) hs rfl));obtain⟨j,e,q1,q2,q⟩:=q1;subst e;cases r1 with
 |cons r rr =>
  cases rr;obtain⟨t,rfl⟩:=r;exact call_range_1 (tK I1 ∅ ∅ q1 q2 (by simpa using q))
theorem zi{a b:Ö}{ta:TA}{p pos:Pos}(hg:Gl X "range")(hm:X.mg "range"=none)(ha:PA X [a,b] ta)(hs:Of [a,b] X.env=[(false,eval a X.env),(false,eval b X.env)]:=by rfl)(hs2:Of [b] X.env=[(false,eval b X.env)]:=by rfl) :
  PI X tg (.Call (.Name "range" p) [a,b] [] pos) (J8 ta):=by
 intro aa s σ H R I h;refine XY (gu I hg hm boot_range (OS (b8 (ha pos aa s σ H _ I h) λus s1 ⟨vs,H1,I1,r1,q1⟩=>?_) (by rw[hs,hs2]) (by rw[hs2];rfl)))
 obtain⟨i,j,e,⟨q1,q2,q3,q4⟩,q⟩:=q1;subst e;cases r1 with
 |cons r rr =>
  cases rr with
  |cons r' rr =>
   cases rr;obtain⟨t,rfl⟩:=r;obtain⟨t',rfl⟩:=r';exact call_range_2 (tK I1 q1 q2 q3 q4 q)
def MO(wi:TI)(g:TG)(tb:TS):TS:=λD σ H=>wi σ H λJ H1=>∃ W:Nat->Nat->St->Hp->Prop,(∃ m,W 0 m σ H1)/\∀ i m σ H,W i m σ H ->
 (J.stop i H/\D.nx σ H)∨(J.go i H/\∃ N:St->Hp->Prop,(∀ σ' H',N σ' H'->∃ m',m' < m/\W (i + 1) m' σ' H')/\∀ x H',J.yld i H x H'->g x σ H' λσ2 H2=>tb { D with nx:=N,ct:=N,bk:=D.nx } σ2 H2)
def jE(fp:List Ë)(h:û):List (Ë × Obj):=fp.filterMap λb=>(h.get? b).map λo=>(b,o)
theorem eL{fp:List Ë}{h:û}{b:Ë}{o:Obj}(hb:b∈fp)(e:h.get? b=some o):(b,o)∈jE fp h:=S3.mpr ⟨b,hb,by rw[e];rfl⟩
theorem qj{fp:List Ë}{h:û}{p:Ë × Obj}(hp:p∈jE fp h):p.1∈fp/\h.get? p.1=some p.2:=by
 obtain⟨b,hb,e⟩:=S3.mp hp;cases q:h.get? b with
 |none=>rw[q] at e;cases e
 |some o =>
  rw[q] at e;have e':(b,o)=p:=OV e;subst e';exact⟨hb,q⟩
theorem Inv.pinned{aa:List (Ë × Obj)}{σ:St}{H:Hp}{s:É}{fp:List Ë}(I:Inv X aa σ H s)(hf:∀ b∈fp,j9 X aa H b)(ho:∀ b∈fp,∃ o,s.heap.get? b=some o/\∀ v,o.data≠.cell v):Inv X (aa++jE fp s.heap) σ H s :=
 I.j7 λp hp=>(Ì.mp hp).elim (λz=>I.pin p (Ò _ z)) λz=>by
  obtain⟨hb,e⟩:=qj z;obtain⟨f0,f1,f2,_⟩:=hf p.1 hb;obtain⟨o,e',d⟩:=ho p.1 hb;rw[e] at e';cases e';exact⟨e,f0,f1,f2,d⟩
theorem Inv.nN{aa pl:List (Ë × Obj)}{σ:St}{H:Hp}{s:É}(I:Inv X (aa++pl) σ H s):Inv X aa σ H s:=I.j7 λp hp=>I.pin p (Ò _ (ç _ hp))
theorem AY{iter:Ö}{body:List Qm}{wi:TI}{g:TG}{tb:TS}{pos:Pos}(hp:PassesOwn (Ù X.prog X.w) X.A X.env X.xe)(hc:X.calm=true)(hi:PI X tg iter wi)(hg:PG X tg g)(hb:mU X body tb)
  (hs:∀ x,Pn iter X.env x=pure x:=by intro _;rfl):PS X (.For tg iter body [] pos) (MO wi g tb):=by
 intro aa s σ H D I h;refine wpAny_For (b8 (hi aa s σ H _ I h) λv s1 h1=>b8 h1 λitv s2 h2=>?_) hs;obtain⟨it,fp,tn,J,H2,e,I2,T,st2,f2,W,⟨m0,w0⟩,turn⟩:=h2;subst e;have stat:∀ {H':Hp},(∀ b∈fp,H' b=none)->∀ b∈fp,j9 X aa H' b:=λhn b hb=>⟨hn b hb,(f2 b hb).2⟩;refine codeAny_forLoop_any (λn s'=>∃ i σ' H',Inv X aa σ' H' s'/\tn i s'.heap/\(∀ b∈fp,H' b=none)/\W i n σ' H') ?_ m0 ⟨0,σ,H2,I2,st2,λb hb=>(f2 b hb).1,w0⟩;rintro n s3 ⟨i,σ3,H3,I3,st3,fr3,w3⟩;rcases turn i n σ3 H3 w3 with ⟨stop,qn⟩ | ⟨go,N,hN,step⟩
 ·refine QB hp (b8 (T.done X rfl rfl rfl hc i aa s3 σ3 H3 X.xe I3 (stat fr3) st3 stop) λr s4 ⟨hr,I4⟩=>?_);subst hr;exact UQ ⟨σ3,H3,I4,qn⟩
 ·refine QB hp (b8 (T.item X rfl rfl rfl hc i aa s3 σ3 H3 X.xe I3 (stat fr3) st3 go) λr s4 ⟨u,hr,h4⟩=>?_);subst hr;refine QB hp (b8 h4 λ_ s5 ⟨x,H5,I5,r5,y5,st5,fr5⟩=>?_);have I5':=I5.pinned (stat fr5) (T.obj _ _ st5);refine QB hp (b8 (hg _ s5 σ3 H5 x u _ I5' r5 (step x H5 y5)) λ_ s6 ⟨σ6,H6,I6,q6⟩=>?_);refine QB hp (b8 (hb _ s6 σ6 H6 _ I6 q6) λf s7 q7=>?_);have again:∀ {σ7:St}{H7:Hp},Inv X (aa++jE fp s5.heap) σ7 H7 s7->N σ7 H7->∃ m,m < n/\∃ i σ' H',Inv X aa σ' H' s7/\tn i s7.heap/\(∀ b∈fp,H' b=none)/\W i m σ' H':=λ{σ7 H7} I7 n7=>by
   obtain⟨m',hm,w7⟩:=hN σ7 H7 n7;refine⟨m',hm,i + 1,σ7,H7,I7.nN,T.keep _ _ _ st5 λb hb o e=>(I7.pin (b,o) (Ò _ (Ò _ (eL hb e)))).1,λb hb=>?_,w7⟩;obtain⟨o,e,d⟩:=T.obj _ _ st5 b hb;exact(I7.pin (b,o) (Ò _ (Ò _ (eL hb e)))).2.1
  cases f with
  |next=>obtain⟨σ7,H7,I7,n7⟩:=q7;exact again I7 n7
  |cont=>obtain⟨σ7,H7,I7,n7⟩:=q7;exact again I7 n7
  |brk=>obtain⟨σ7,H7,I7,q7⟩:=q7;exact⟨σ7,H7,I7.nN,q7⟩
  |ret v=>obtain⟨x7,σ7,H7,I7,r7,q7⟩:=q7;exact⟨x7,σ7,H7,I7.nN,r7,q7⟩
end
abbrev R2:=V->V->Hp->VK->Prop
def eM(X:Cx)(f:Ä->Ä->Sem Ä)(r:R2):Prop :=
 ∀ (aa:List (Ë × Obj)) (s:É) (σ:St) (H:Hp) (x y:V) (v u:Ä) (Q:VK),Inv X aa σ H s->RelV x v->RelV y u->r x y H Q ->
  Ú (Ù X.prog X.w) X.A (f v u) (EP X aa σ Q) X.xe s
def MP(X:Cx)(f:Ä->Sem Ä)(r:V->Hp->VK->Prop):Prop :=
 ∀ (aa:List (Ë × Obj)) (s:É) (σ:St) (H:Hp) (x:V) (v:Ä) (Q:VK),Inv X aa σ H s->RelV x v->r x H Q ->
  Ú (Ù X.prog X.w) X.A (f v) (EP X aa σ Q) X.xe s
def bP(X:Cx)(f:Ä)(r:List V->Hp->VK->Prop):Prop :=
 ∀ (aa:List (Ë × Obj)) (s:É) (σ:St) (H:Hp) (xs:List V) (us:List Ä) (Q:VK),Inv X aa σ H s->Vals xs us->r xs H Q ->
  Ú (Ù X.prog X.w) X.A (call f us) (EP X aa σ Q) X.xe s
def JH(r:R2)(ta tb:TE):TE:=λσ H Q=>ta σ H λx H1=>tb σ H1 λy H2=>r x y H2 Q
def Oj(r:V->Hp->VK->Prop)(ta:TE):TE:=λσ H Q=>ta σ H λx H1=>r x H1 Q
def rI(C:Int->Int->Prop)(g:Int->Int->V):R2:=λx y H Q=>∃ i j,x=.int i/\y=.int j/\C i j/\Q (g i j) H
def G7(g:Int->Int->V):R2:=λx y H Q=>∃ i j,x=.int i/\y=.int j/\Q (g i j) H
def rU(g:Int->V):V->Hp->VK->Prop:=λx H Q=>∃ i,x=.int i/\Q (g i) H
section
variable {X:Cx}{a b c:Ö}{ta tb tc:TE}{pos:Pos}
theorem G8(ha:PE X a ta)(hb:PE X b tb){aa:List (Ë × Obj)}{s:É}{σ:St}{H:Hp}{R:V->V->Hp->Prop}(I:Inv X aa σ H s)
  (h:ta σ H λx H1=>tb σ H1 λy H2=>R x y H2) {Q:Ä->É->Prop}{f:Ä->Ä->Sem Ä}
  (hf:∀ v u s2 x y H2,Inv X aa σ H2 s2->RelV x v->RelV y u->R x y H2->Ú (Ù X.prog X.w) X.A (f v u) Q X.xe s2) :
  Ú (Ù X.prog X.w) X.A (eval a X.env) (λv s₁=>Ú (Ù X.prog X.w) X.A (eval b X.env) (λu s₂=>Ú (Ù X.prog X.w) X.A (f v u) Q X.xe s₂) X.xe s₁) X.xe s:=by
 refine b8 (ha aa s σ H _ I h) λv s1 ⟨x,H1,I1,r1,q1⟩=>?_;refine b8 (hb aa s1 σ H1 _ I1 q1) λu s2 ⟨y,H2,I2,r2,q2⟩=>?_;exact hf v u s2 x y H2 I2 r1 r2 q2
theorem J9{op:R7}{r:R2}(ho:eM X (Qa op) r)(ha:PE X a ta)(hb:PE X b tb):PE X (.BinOp a op b pos) (JH r ta tb):=by
 intro aa s σ H Q I h;exact wpAny_BinOp (G8 ha hb I h λv u s2 x y H2 I2 rx ry q=>ho aa s2 σ H2 x y v u Q I2 rx ry q)
theorem Ka{op:UnaryOp}{r:V->Hp->VK->Prop}(ho:MP X (unaryOp op) r)(ha:PE X a ta):PE X (.UnaryOp op a pos) (Oj r ta):=by
 intro aa s σ H Q I h;exact UnaryOp_ (b8 (ha aa s σ H _ I h) λv s1 ⟨x,H1,I1,r1,q1⟩=>ho aa s1 σ H1 x v Q I1 r1 q1)
theorem N3{f:Ä->Ä->Sem Ä}{C:Int->Int->Prop}{g:Int->Int->Int}
  (rule:∀ (i j:Int) (t u:Tok) (s:É) (Q:Ä->É->Prop) (E:Ä->É->Prop),C i j->Q (.int (g i j) s.toks) { s with toks:=s.toks + 1 }->Ú (Ù X.prog X.w) X.A (f (.int i t) (.int j u)) Q E s) :
  eM X f (rI C λi j=>.int (g i j)):=by
 intro aa s σ H x y v u Q I rx ry h;obtain⟨i,j,rfl,rfl,hc,q⟩:=h;obtain⟨t,rfl⟩:=rx;obtain⟨t',rfl⟩:=ry;exact rule i j t t' s _ _ hc ⟨.int (g i j),H,I.tok _,⟨_,rfl⟩,q⟩
theorem Kb{f:Ä->Ä->Sem Ä}{g:Int->Int->Int}
  (rule:∀ (i j:Int) (t u:Tok) (s:É) (Q:Ä->É->Prop) (E:Ä->É->Prop),Q (.int (g i j) s.toks) { s with toks:=s.toks + 1 }->Ú (Ù X.prog X.w) X.A (f (.int i t) (.int j u)) Q E s) :
  eM X f (G7 λi j=>.int (g i j)):=by
 intro aa s σ H x y v u Q I rx ry h;obtain⟨i,j,rfl,rfl,q⟩:=h;obtain⟨t,rfl⟩:=rx;obtain⟨t',rfl⟩:=ry;exact rule i j t t' s _ _ ⟨.int (g i j),H,I.tok _,⟨_,rfl⟩,q⟩
theorem G9{f:Ä->Ä->Sem Ä}{g:Int->Int->Bool}
  (rule:∀ (i j:Int) (t u:Tok) (s:É) (Q:Ä->É->Prop) (E:Ä->É->Prop),Q (.bool (g i j)) s->Ú (Ù X.prog X.w) X.A (f (.int i t) (.int j u)) Q E s) :
  eM X f (G7 λi j=>.bl (g i j)):=by
 intro aa s σ H x y v u Q I rx ry h;obtain⟨i,j,rfl,rfl,q⟩:=h;obtain⟨t,rfl⟩:=rx;obtain⟨t',rfl⟩:=ry;exact rule i j t t' s _ _ ⟨.bl (g i j),H,I,rfl,q⟩
def MQ(i j:Int):Prop:=0<=j/\j<=1000000/\i.natAbs < 2 ^ 64
theorem Hb:eM X (Qa .Add) (G7 λi j=>.int (i + j)):=Kb λ_ _ _ _ _ _ _ q=>add_int q
theorem Hc:eM X (Qa .Sub) (G7 λi j=>.int (i - j)):=Kb λ_ _ _ _ _ _ _ q=>sub_int q
theorem He:eM X (binaryOp .Mod) (rI (λ_ j=>0 < j) λi j=>.int (i % j)):=N3 λi j _ _ _ _ _ hc q=>by
 have h1:(0:Int) < j:=hc;exact mod_int' ∅ (by rw[Int.fmod_eq_emod_of_nonneg i ∅];exact q)
theorem Hf:eM X (Qa .Pow) (rI MQ λi j=>.int (i ^ j.toNat)):=N3 λ_ _ _ _ _ _ _ hc q=>pow_int_small hc.1 hc.2.1 hc.2.2 q
theorem Ol{f:Ä->Sem Ä}{g:Int->Int}
  (rule:∀ (i:Int) (t:Tok) (s:É) (Q:Ä->É->Prop) (E:Ä->É->Prop),Q (.int (g i) s.toks) { s with toks:=s.toks + 1 }->Ú (Ù X.prog X.w) X.A (f (.int i t)) Q E s) :
  MP X f (rU λi=>.int (g i)):=by
 intro aa s σ H x v Q I rx h;obtain⟨i,rfl,q⟩:=h;obtain⟨t,rfl⟩:=rx;exact rule i t s _ _ ⟨.int (g i),H,I.tok _,⟨_,rfl⟩,q⟩
theorem Hg:MP X (unaryOp .USub) (rU λi=>.int (-i)):=Ol λ_ _ _ _ _ q=>neg_int q
theorem rz{aa:List (Ë × Obj)}{σ:St}{H:Hp}{s:É}{Q:VK}{k k':Bool}(I:Inv X aa σ H s)(q:Q (.bl k) H)(e:k=k'):EP X aa σ Q (.bool k') s:=by
 subst e;exact⟨.bl k,H,I,rfl,q⟩
theorem Kc:eM X (c0 .LtE) (G7 λi j=>.bl (decide (i<=j))):=G9 λ_ _ _ _ _ _ _ q=>le_int q
theorem Kd:eM X (c0 .Gt) (G7 λi j=>.bl (decide (j < i))):=G9 λ_ _ _ _ _ _ _ q=>gt_int q
theorem Kf:eM X (c0 .GtE) (G7 λi j=>.bl (decide (j<=i))):=G9 λ_ _ _ _ _ _ _ q=>ge_int q
theorem Hh:eM X (c0 .Is) (λx y H Q=>y=.bw/\Q (.bl (decide (x=.bw))) H):=by
 intro aa s σ H x y v u Q I rx ry h;obtain⟨rfl,q⟩:=h;cases ry;refine is_none_gen (rz I q ?_);cases x <;> first
  |(cases rx;rfl)
  |(obtain⟨t,rfl⟩:=rx;rfl)
theorem DY:eM X (c0 .IsNot) (λx y H Q=>y=.bw/\Q (.bl (!decide (x=.bw))) H):=by
 intro aa s σ H x y v u Q I rx ry h;obtain⟨rfl,q⟩:=h;cases ry;refine isnot_none_gen (rz I q ?_);cases x <;> first
  |(cases rx;rfl)
  |(obtain⟨t,rfl⟩:=rx;rfl)
theorem xD{op:UO}{r:R2}(ho:eM X (c0 op) r)(ha:PE X a ta)(hb:PE X b tb)(hm:VI op b=false):PE X (.Compare a [op] [b] pos) (JH r ta tb):=by
 intro aa s σ H Q I h;exact wpAny_Compare1 (G8 ha hb I h λv u s2 x y H2 I2 rx ry q=>ho aa s2 σ H2 x y v u Q I2 rx ry q) hm
def Gb(t:TE):TT:=λσ H Q=>t σ H λx H'=>∃ k,x=.bl k/\Q k H'
theorem xE{op:UO}{r:R2}(ho:eM X (c0 op) r)(ha:PE X a ta)(hb:PE X b tb)(hm:VI op b=false):PT X (.Compare a [op] [b] pos) (Gb (JH r ta tb)):=by
 intro aa s σ H Q I h;refine wpAny_isTrue_Compare1 (b8 (ha aa s σ H _ I h) λv s1 ⟨x,H1,I1,r1,q1⟩=>b8 (hb aa s1 σ H1 _ I1 q1) λu s2 ⟨y,H2,I2,r2,q2⟩ =>
  b8 (ho aa s2 σ H2 x y v u _ I2 r1 r2 q2) λc s3 ⟨z,H3,I3,r3,k,e,q3⟩=>?_) hm
 subst e;cases r3;exact OX ⟨H3,I3,q3⟩
def vU(r r':R2)(ta tb tc:TE):TE:=λσ H Q=>ta σ H λx H1=>tb σ H1 λy H2=>r x y H2 λz H3=>∃ k,z=.bl k /\
 (if k=true then tc σ H3 λw' H4=>r' y w' H4 Q else Q (.bl false) H3)
theorem AZ{op op':UO}{r r':R2}(ho:eM X (c0 op) r)(ho':eM X (c0 op') r')(ha:PE X a ta)(hb:PE X b tb)(hc:PE X c tc)
  (hm:X6 [op,op'] [b,c]=false:=by with_unfolding_all rfl):PE X (.Compare a [op,op'] [b,c] pos) (vU r r' ta tb tc):=by
 intro aa s σ H Q I h;refine Compare_chain (b8 (ha aa s σ H _ I h) λv s1 ⟨x,H1,I1,r1,q1⟩=>chain_link (b8 (hb aa s1 σ H1 _ I1 q1) λu s2 ⟨y,H2,I2,r2,q2⟩ =>
  b8 (ho aa s2 σ H2 x y v u _ I2 r1 r2 q2) λd s3 ⟨z,H3,I3,r3,k,e,q3⟩=>?_)) hm
 subst e;cases r3;refine OX ?_;cases k with
 |false=>exact ite_ff ⟨.bl false,H3,I3,rfl,q3⟩|true=>exact ite_tt (chain_last (b8 (hc aa s3 σ H3 _ I3 q3) λw' s4 ⟨z',H4,I4,r4,q4⟩=>ho' aa s4 σ H4 y z' u w' Q I4 r2 r4 q4))
theorem A0{op op':UO}{r r':R2}(ho:eM X (c0 op) r)(ho':eM X (c0 op') r')(ha:PE X a ta)(hb:PE X b tb)(hc:PE X c tc)
  (hm:X6 [op,op'] [b,c]=false:=by with_unfolding_all rfl):PT X (.Compare a [op,op'] [b,c] pos) (Gb (vU r r' ta tb tc)):=by
 intro aa s σ H Q I h;refine isTrue_chain (b8 (ha aa s σ H _ I h) λv s1 ⟨x,H1,I1,r1,q1⟩=>test_link (b8 (hb aa s1 σ H1 _ I1 q1) λu s2 ⟨y,H2,I2,r2,q2⟩ =>
  b8 (ho aa s2 σ H2 x y v u _ I2 r1 r2 q2) λd s3 ⟨z,H3,I3,r3,k,e,q3⟩=>?_)) hm
 subst e;cases r3;refine OX ?_;cases k with
 |false =>
  obtain⟨k',e',q'⟩:=q3;cases e';exact ite_ff ⟨H3,I3,q'⟩
 |true =>
  refine ite_tt (test_last (b8 (hc aa s3 σ H3 _ I3 q3) λw' s4 ⟨z',H4,I4,r4,q4⟩=>b8 (ho' aa s4 σ H4 y z' u w' _ I4 r2 r4 q4) λd' s5 ⟨z2,H5,I5,r5,k2,e2,q5⟩=>?_));subst e2;cases r5;exact OX ⟨H5,I5,q5⟩
theorem rA:(sizeLine:Nat) < 2 ^ 63:=by rw[O2];decide
theorem vals1{x:V}{us:List Ä}(r:Vals [x] us):∃ u,us=[u]/\RelV x u:=by
 cases r with
 |cons r1 r2=>cases r2;exact⟨_,rfl,r1⟩
theorem vals2{x y:V}{us:List Ä}(r:Vals [x,y] us):∃ u w',us=[u,w']/\RelV x u/\RelV y w':=by
 cases r with
 |cons r1 r2 =>
  cases r2 with
  |cons r3 r4=>cases r4;exact⟨_,_,rfl,r1,r3⟩
theorem zj(hc:X.calm=true):bP X (.builtin "max") (λxs H Q=>∃ i j,xs=[.int i,.int j]/\Q (.int (if j > i then j else i)) H):=by
 intro aa s σ H xs us Q I r h;obtain⟨i,j,rfl,q⟩:=h;obtain⟨u,w',rfl,⟨t,rfl⟩,⟨t',rfl⟩⟩:=vals2 r;refine max_two_ints (I.ok.hd hc) λh' tk k=>⟨_,H,I.kept k,?_,q⟩;by_cases hj:j > i
 ·rw[if_pos hj,if_pos hj];exact⟨_,rfl⟩
 ·rw[if_neg hj,if_neg hj];exact⟨_,rfl⟩
theorem zk(hc:X.calm=true):bP X (.builtin "min") (λxs H Q=>∃ i j,xs=[.int i,.int j]/\Q (.int (if j < i then j else i)) H):=by
 intro aa s σ H xs us Q I r h;obtain⟨i,j,rfl,q⟩:=h;obtain⟨u,w',rfl,⟨t,rfl⟩,⟨t',rfl⟩⟩:=vals2 r;refine min_two_ints (I.ok.hd hc) λh' tk k=>⟨_,H,I.kept k,?_,q⟩;by_cases hj:j < i
 ·rw[if_pos hj,if_pos hj];exact⟨_,rfl⟩
 ·rw[if_neg hj,if_neg hj];exact⟨_,rfl⟩
theorem qk:bP X (.type "int") (λxs H Q=>(∃ i,xs=[.int i]/\Q (.int i) H)∨∃ k,xs=[.bl k]/\Q (.int (if k then 1 else 0)) H):=by
 intro aa s σ H xs us Q I r h;rcases h with ⟨i,rfl,q⟩ | ⟨k,rfl,q⟩
 ·obtain⟨u,rfl,t,rfl⟩:=vals1 r;exact call_int_int ⟨.int i,H,I,⟨_,rfl⟩,q⟩
 ·obtain⟨u,rfl,r1⟩:=vals1 r;cases r1;exact call_int_bool ⟨.int (if k then 1 else 0),H,I.tok _,⟨_,rfl⟩,q⟩
end
structure iy(k:Nat)(A:Around):Prop where
 hd:A.handled=none
 dp:A.depth + 3 * k + 5 < recursionLimit
 un:A.units + 16 * k + 200 < cLine
theorem iy.deeper{k:Nat}{A:p8}(r:iy (k + 1) A)(env:Env):iy k (A.deeper env) :=
 ⟨r.hd,by have:=r.dp;show A.depth + 1 + 3 * k + 5 < _;omega,by have:=r.un;show A.units + 3 + 16 * k + 200 < _;omega⟩
theorem iy.depth{k:Nat}{A:p8}(r:iy k A):A.depth < recursionLimit:=by have:=r.dp;omega
theorem iy.units{k:Nat}{A:p8}(r:iy k A):A.units + 64 < cLine:=by have:=r.un;omega
def MS:TA:=λ_ H Q=>Q [] H
def Kg(ta:TE)(tr:TA):TA:=λσ H Q=>ta σ H λx H1=>tr σ H1 λxs H2=>Q (x::xs) H2
section
variable {X:Cx}{e:Ö}{es:List Ö}{te:TE}{t:TA}{pos:Pos}
theorem lz:PA X [] MS:=λ_ _ _ _ H Q I h=>Tf ⟨[],H,I,.nil,h⟩
theorem eh(ha:PE X e te)(hr:PA X es t)(hs:Of (e::es) X.env=(false,eval e X.env)::Of es X.env:=by rfl):PA X (e::es) (Kg te t):=by
 intro pos aa s σ H Q I h;rw[hs];show Ú _ _ (spliced ((false,eval e X.env)::SJ pos (Of es X.env))) _ _ s;refine VT (b8 (ha aa s σ H _ I h) λu s1 ⟨x,H1,I1,r1,q1⟩=>?_);exact b8 (hr pos aa s1 σ H1 _ I1 q1) λus s2 ⟨xs,H2,I2,r2,q2⟩=>⟨x::xs,H2,I2,.cons r1 r2,q2⟩
def MT(t:TA):TE:=λσ H Q=>t σ H λxs H1=>xs.length<=sizeLine/\∀ p,H1 p=none->Q (.ref p) (upd H1 p (.tup xs))
def MU(t:TA):TE:=λσ H Q=>t σ H λxs H1=>xs.length<=sizeLine/\∀ p,H1 p=none->Q (.ref p) (upd H1 p (.lst xs))
theorem A1{x1}(h:PA X es t):PE X (.Tuple es x1 pos) (MT t):=by
 intro aa s σ H Q I hq;refine wpAny_Tuple_spliced (b8 (h pos aa s σ H _ I hq) λus s1 ⟨xs,H1,I1,r,z,q⟩=>⟨by rw[← r.length];exact z,?_⟩)
 have hf:H1 s1.heap.objs.size=none:=I1.bx.fresh (Ô _);refine⟨.ref s1.heap.objs.size,upd H1 s1.heap.objs.size (.tup xs),I1.laid (t':=s1.toks) (λb u e=>Ã _ e) (Ô _) ?_,rfl,q _ hf⟩;exact⟨z,us,r,⟨_,Í _ rfl,rfl,_,rfl⟩⟩
theorem Hi(h:PA X es t):PE X (.List es pos) (MU t):=by
 intro aa s σ H Q I hq;refine wpAny_List_spliced (b8 (h pos aa s σ H _ I hq) λus s1 ⟨xs,H1,I1,r,z,q⟩=>⟨by rw[← r.length];exact z,?_⟩)
 have hf:H1 s1.heap.objs.size=none:=I1.bx.fresh (Ô _);refine⟨.ref s1.heap.objs.size,upd H1 s1.heap.objs.size (.lst xs),I1.laid (t':=s1.toks) (λb u e=>Ã _ e) (Ô _) ?_,rfl,q _ hf⟩;exact⟨z,us,0,r,Í _ rfl⟩
end
abbrev Sp:=List V->Hp->VK->XK->Prop
abbrev DL:=List Env->Hp->É->XK->Ä->É->Prop
structure DZ(P:Program)(w:World)(K:PySem.W.Frag)(mg:Str->Option Value)(base:Heap)(A:Around)(outer:List Env)(s:Shared)(H:Hp):Prop where
 frames:A.frames=some outer
 mod:Mod K mg base
 bs:∀ b o,base.get? b=some o->s.heap.get? b=some o/\H b=none
 bsz:base.objs.size<=s.heap.objs.size
 pT:s.heap.FunFrames base outer
 frf:∀ b∈j6 outer,H b=none
 bx:jr P w H s.heap
 bare:AllBare s.gens
def CE(outer:List Env)(P:í)(w:ü)(H:Hp)(s:É)(Q:VK)(u:Ä)(s':É):Prop :=
 ∃ v H',s'.os=s.os/\SK s'.gens/\Un (j6 outer) [] H H' s.heap s'.heap/\jr P w H' s'.heap/\RelV v u/\Q v H'
def CR(CX:DL)(outer:List Env)(P:í)(w:ü)(H:Hp)(s:É)(Q:VK)(E:XK)(r:Vh)(s':É):Prop :=
 match r with
 |.ok (.ret u)=>CE outer P w H s Q u s'|.ok _=>False|.error e=>CX outer H s E e s'
structure lB(P:Program)(w:World)(K:PySem.W.Frag)(mg:Str->Option Value)(base:Heap)(CX:DL)(k:Nat)(f:Addr)(fd:FuncData)(ps:List Str)(sp:Sp):Prop where
 len:∀ vs H Q E,sp vs H Q E->vs.length=ps.length
 run:∀ (A:Around) (outer:List Env) (s:Shared) (H:Hp) (args:Args) (us:List Value) (vs:List V) (Q:VK) (E:XK),iy k A->DZ P w K mg base A outer s H->BindsTo s fd args (ps.zip us)->Vals vs us->sp vs H Q E ->
  codeAny (model P w) A (.call (.ref f) args) (CR CX outer P w H s Q E) s
section
variable {X:Cx}{aa:List (Ë × Obj)}{σ:St}{H:Hp}{s s':É}
theorem Inv.MV(I:Inv X aa σ H s):DZ X.prog X.w X.K X.mg X.base X.A X.stack s H :=
 ⟨I.ok.frames,I.ok.mod,I.bs,ã I.ok.bsz I.sz,I.stack,I.rj,I.bx,I.bare⟩
theorem Inv.after{Q:VK}{u:Ä}(I:Inv X aa σ H s)(h:CE X.stack X.prog X.w H s Q u s'):EP X aa σ Q u s':=by
 obtain⟨v,H',os,bare,un,bx,r,q⟩:=h;obtain⟨hh,g,d,t,os'⟩:=s';obtain rfl:os'=s.os:=os;exact⟨v,H',I.call (h':=hh) (g':=g) (d':=d) (t':=t) (ch:=[]) un bx bare (λb z=>absurd z (by simp)),r,q⟩
end
def Kh(sp:Sp)(dvs:List V)(E:XK)(t:TA):TE:=λσ H Q=>t σ H λvs H1=>sp (vs++dvs) H1 Q E
def Binds(K:Â)(fd:Q8)(ps:List Str)(ds:List Ä):Prop :=
 ∀ (s:É) (us:List Ä),K.In s.heap->(us++ds).length=ps.length->WA s fd ⟨us,[]⟩ (ps.zip (us++ds))
theorem Binds.all{K:Â}{fd:Q8}{ps:List Str}(h:∀ us:List Ä,us.length=ps.length->bindArgs fd ⟨us,[]⟩=pure (ps.zip us)):Binds K fd ps []:=λs us _ hl=>by
 rw[ö] at hl ⊢;exact .of_eq (h us hl)
def Passes(CX:DL)(X:Cx)(E:XK):Prop:=∀ (aa:List (Ë × Obj)) (σ:St) (H:Hp) (s:É) (e:Ä) (s':É),Inv X aa σ H s->CX X.stack H s E e s'->X.xe e s'
section
variable {X:Cx}{CX:DL}{k:Nat}{f C:Ë}{fd:Q8}{ps:List Str}{sp:Sp}{dvs:List V}{ds:List Ä}{E:XK}{x m:Str}{p pos apos:Pos}{e o:Ö}{es:List Ö}{ta:TE}{t:TA}
theorem Hj{aa:List (Ë × Obj)}{σ:St}{H:Hp}{s:É}{Q:VK}{us:List Ä}{vs:List V}(F:lB X.prog X.w X.K X.mg X.base CX k f fd ps sp)(hr:iy k X.A)(hb:Binds X.K fd ps ds)(hd:Vals dvs ds)(hx:Passes CX X E)
  (I:Inv X aa σ H s) (r:Vals vs us) (h:sp (vs++dvs) H Q E):Ú (Ù X.prog X.w) X.A (call (.ref f) us) (EP X aa σ Q) X.xe s:=by
 have r2:Vals (vs++dvs) (us++ds):=r.append hd;have hl:(us++ds).length=ps.length:=by rw[← r2.length];exact F.len _ _ _ _ h
 refine wpAny_call (Rq (F.run X.A X.stack s H ⟨us,[]⟩ (us++ds) (vs++dvs) Q E hr I.MV (hb s us I.pQ hl) r2 h) λr s' hq=>?_);cases r with
 |error e=>exact hx aa σ H s e s' I hq
 |ok fl =>
  cases fl with
  |ret u=>exact I.after hq|next=>exact Qd hq
  |brk=>exact Qd hq|cont=>exact Qd hq
theorem D0(F:lB X.prog X.w X.K X.mg X.base CX k f fd ps sp)(hr:iy k X.A)(hg:Gl X x)(hm:X.mg x=some (.ref f))(hk:Wi X.K (.ref f)=true)(hb:Binds X.K fd ps ds)(hd:Vals dvs ds)(hx:Passes CX X E)
  (ha:PA X (e::es) t) (hdb:(x == ("__debug__":Str))=false:=by decide) (he:Of (e::es) X.env=(false,eval e X.env)::Of es X.env:=by rfl) (hpl:(SJ pos (Of es X.env)).any (·.1)=false:=by rfl) :
  PE X (.Call (.Name x p) (e::es) [] pos) (Kh sp dvs E t):=by
 intro aa s σ H Q I h;refine TV (rk I hg hm ?_ hdb);refine PySem.W.callWith_K (h₀:=X.base) I.ok.mod.kin hk (b8 (ha pos aa s σ H _ I h) λus s1 ⟨vs,H1,I1,r,q⟩=>⟨I1.pQ,?_⟩) he hpl;exact Hj F hr hb hd hx I1 r q
end
structure gv(N P:List Str)(sc:Scope):Prop where
 kind:sc.kind=.function
 co:sc.isCoroutine=false
 gen:sc.isGenerator=false
 nd:N.Nodup
 pre:N.take P.length=P
 par:∀ x∈P,sc.names.lookup x=some .local∨sc.names.lookup x=some .cell
 nofree:∀ y∈sc.names,y.2≠.free
theorem ql{kindOf:Str->Option Q7}{x:Str}:∀ {binds:List (Str × Ä)}{m:Str->Option Ä},(∀ v,(x,v) ∉ binds)->bindL kindOf binds m x=m x
 |[],_,_=>rfl
 |(n,v)::r,m,h=>by
  unfold bindL;rw[ql λw hw=>h w (Æ _ hw)];split
  ·have:x≠n:=by rintro rfl;exact h v Å
   simp[this]
  ·rfl
theorem qm{kindOf:Str->Option Q7}{x:Str}:∀ {binds:List (Str × Ä)}{m:Str->Option Ä},(∀ v,(x,v) ∉ binds)->VZ kindOf binds m x=m x
 |[],_,_=>rfl
 |(n,v)::r,m,h=>by
  unfold VZ;rw[qm λw hw=>h w (Æ _ hw)];split
  ·rfl
  ·have:x≠n:=by rintro rfl;exact h v Å
   simp[this]
theorem qo{kindOf:Str->Option Q7}{x:Str}{v:Ä}:∀ {P:List Str}{vs:List Ä}{i:Nat}{m:Str->Option Ä},P.Nodup->P[i]?=some x->vs[i]?=some v->kindOf x=some .local ->
  bindL kindOf (P.zip vs) m x=some v
 |[],_,_,_,_,h,_,_=>by simp at h|_::_,[],_,_,_,_,h,_=>by simp at h
 |p::P,w::vs,0,m,nd,h1,h2,hk=>by
  simp at h1 h2;subst h1;subst h2;show bindL kindOf ((p,w)::P.zip vs) m p=_;unfold bindL;rw[ql λv hv=>(O6.mp nd).1 (UK hv).1,if_pos hk];simp
 |p::P,w::vs,i + 1,m,nd,h1,h2,hk=>by
  show bindL kindOf ((p,w)::P.zip vs) m x=_;unfold bindL;exact qo (i:=i) (O6.mp nd).2 (by simpa using h1) (by simpa using h2) hk
theorem qp{kindOf:Str->Option Q7}{x:Str}{v:Ä}:∀ {P:List Str}{vs:List Ä}{i:Nat}{m:Str->Option Ä},P.Nodup->P[i]?=some x->vs[i]?=some v->kindOf x≠some .local ->
  VZ kindOf (P.zip vs) m x=some v
 |[],_,_,_,_,h,_,_=>by simp at h|_::_,[],_,_,_,_,h,_=>by simp at h
 |p::P,w::vs,0,m,nd,h1,h2,hk=>by
  simp at h1 h2;subst h1;subst h2;show VZ kindOf ((p,w)::P.zip vs) m p=_;unfold VZ;rw[qm λv hv=>(O6.mp nd).1 (UK hv).1,if_neg hk];simp
 |p::P,w::vs,i + 1,m,nd,h1,h2,hk=>by
  show VZ kindOf ((p,w)::P.zip vs) m x=_;unfold VZ;exact qp (i:=i) (O6.mp nd).2 (by simpa using h1) (by simpa using h2) hk
def start(N:List Str)(vs:List V):St:=vs.map some++ø (N.length - vs.length) none
def iz(CX:DL)(P:í)(w:ü)(K:Â)(mg:Str->Option Ä)(base:û)(N:List Str)(qual:Str)(scope:ON)(f:Ë)(cd:Ä)(A:p8)(outer:List Env)(s:É)(H:Hp)(E:XK):Cx where
 prog:=P
 w:=w
 K:=K
 mg:=mg
 base:=base
 A:=A.deeper (S9 qual scope s.heap.objs.size f cd)
 N:=N
 s₀:=s
 H₀:=H
 env:=S9 qual scope s.heap.objs.size f cd
 outer:=outer
 stack:=S9 qual scope s.heap.objs.size f cd::outer
 ex:=[]
 calm:=true
 fn:=λ_=>true
 pn:=[]
 xe:=λe s'=>Ú (Ù P w) (A.deeper (S9 qual scope s.heap.objs.size f cd)) (leaving (S9 qual scope s.heap.objs.size f cd) e) (λ_ s''=>CX outer H s E e s'') (λe' s''=>CX outer H s E e' s'') s'
theorem tM{sc:ON}{n:Nat}{x:Str}(h:sc.names.lookup x=some .cell):∃ c,(X8 n sc.names []).lookup x=some c:=by
 have q:=UE sc.names n [] (.inl h);exact Ux.mp q
theorem zm{CX:DL}{P:í}{w:ü}{K:Â}{mg:Str->Option Ä}{base:û}{N ps:List Str}{qual:Str}{scope:ON}{f:Ë}{cd:Ä}{A:p8}{outer:List Env}{s s1:É}{H:Hp}{E:XK}{us:List Ä}{vs:List V}
  (S:gv N ps scope) (hd:A.handled=none) (e0:DZ P w K mg base A outer s H) (hl:vs.length=ps.length) (r:Vals vs us)
  (x:InCallC s s.heap.objs.size (bindL (S9 qual scope s.heap.objs.size f cd).kindOf (ps.zip us) λ_=>none) (X8 (s.heap.objs.size + 1) scope.names []) (VZ (S9 qual scope s.heap.objs.size f cd).kindOf (ps.zip us) λ_=>none) s1) :
  Inv (iz CX P w K mg base N qual scope f cd A outer s H E) [] (start N vs) H s1:=by
 have hpl:ps.length<=N.length:=by have:=congrArg Yj S.pre;rw[î] at this;omega
 obtain⟨h1,tk,rfl,hk⟩:=x.done;have noA:∀ b:Ë,b ∉ (iz CX P w K mg base N qual scope f cd A outer s H E).ex:=λb z=>absurd (show b∈([]:List Ë) from z) (by simp)
 refine⟨⟨e0.mod,S.kind,rfl,rfl,Ô _,λy z c h1 h2=>?_,λy hy=>?_,λy c _ h=>?_,λ_=>hd,Around.frames_deeper e0.frames,.inr ⟨rfl,rfl⟩,λb z=>absurd z (noA b),e0.bs,e0.bsz,λb _ _=>noA b,λb z=>absurd z (noA b),e0.pT,e0.frf⟩,
  rfl,e0.bare,Un.kept hk,⟨_,x.toInCall.ns,λi y v h1 h2 h3=>?_⟩,λy c h=>⟨_,x.cell y c h⟩,e0.bx.fresh (Ô _),λy c h=>?_,λp hp=>absurd (show p∈([]:List (Ë × Obj)) from hp) (by simp),e0.bx.kept hk,?_⟩
 ·exact name_of_addr x.apart (Qf h1) (Qf h2)
 ·have hy:scope.names.lookup y=some .cell∨scope.names.lookup y=some .free:=hy;rcases hy with hy | hy
  ·exact tM hy
  ·exact absurd rfl (S.nofree _ (Qf hy))
 ·exact RF (x.above y c (Qf h))
 ·have hi:i < vs.length:=by
   unfold start at h2;by_cases hi:i < vs.length
   ·exact hi
   ·rw[Pg (by simpa using hi)] at h2
    rw[Sf] at h2;split at h2 <;> cases h2
  have ha:vs[i]?=some v:=by
   unfold start at h2;rw[QN (by simpa using hi),è] at h2
   cases e:vs[i]? with
   |none=>rw[e] at h2;cases h2
   |some a=>rw[e] at h2;cases h2;rfl
  obtain⟨u,hu,rv⟩:=r.get ha;have hp:ps[i]?=some y:=by
   rw[← S.pre,List.getElem?_take_of_lt ∅];exact h1
  have ndP:ps.Nodup:=by rw[← S.pre];exact S.nd.sublist (PR _ _)
  refine⟨u,rv,?_⟩;rcases S.par y (p5 hp) with k | k
  ·exact .inl ⟨k,qo ndP hp hu k⟩
  ·obtain⟨c,e⟩:=tM (n:=s.heap.objs.size + 1) k;refine .inr ⟨.inl k,c,e,?_⟩;have q:=x.cell y c e;rw[qp ndP hp hu (by show scope.names.lookup y≠_;rw[k];decide)] at q
   exact q
 ·exact e0.bx.fresh (RF (x.above y c (Qf h)))
 ·unfold start;show _=N.length;rw[Ü,Ç,Vm];omega
theorem Ki{CX:DL}{P:í}{w:ü}{K:Â}{mg:Str->Option Ä}{base:û}{k:Nat}{f:Ë}{name qual:Str}{params:Wa}{body:List Qm}{scope:ON}{dV kV doc pm cdv ct oc:Ä}{an od:Option Ë}
  {osl:Array (Option Ä)}{N ps:List Str}{sp:Sp} (lk:K.lookup f=some ⟨oc,od,.func (fnOf name qual params body scope dV kV doc pm an cdv ct),osl⟩) (hcd:PySem.W.codeIn K cdv qual=true) (S:gv N ps scope)
  (len:∀ vs H Q E,sp vs H Q E->vs.length=ps.length)
  (hbody:∀ (A:p8) (outer:List Env) (s:É) (H:Hp) (vs:List V) (Q:VK) (E:XK),iy k (A.deeper (S9 qual scope s.heap.objs.size f cdv))->sp vs H Q E ->
   ∃ t,mU (iz CX P w K mg base N qual scope f cdv A outer s H E) body t/\t { nx:=λ_ H'=>Q .bw H',rt:=Q } (start N vs) H) :
  lB P w K mg base CX (k + 1) f (fnOf name qual params body scope dV kV doc pm an cdv ct) ps sp:=by
 refine⟨len,λA outer s H args us vs Q E hr e0 hb r hsp=>?_⟩;have hl:=len _ _ _ _ hsp;have KX:K.In s.heap:=e0.mod.kin.keeps λb o e=>(e0.bs b o e).1;have lim:s.heap.NoLimit:=e0.mod.nolimit.keeps λb o e=>(e0.bs b o e).1;have hkind:∀ y∈ps.zip us,scope.names.lookup y.1=some .local∨(scope.names.lookup y.1=some .cell/\((X8 (s.heap.objs.size + 1) scope.names []).lookup y.1).isSome=true):=λ⟨n,v⟩ hy=>by
  rcases S.par n (UK hy).1 with q | q
  ·exact .inl q
  ·exact .inr ⟨q,UE _ _ _ (.inl q)⟩
 refine codeAny_call_function hr.depth (KX _ _ lk) rfl S.co S.gen rfl (PySem.W.codeRec_of KX hcd) (hb _ _ _ _ ?_);refine wpAny_newFunctionEnv_cells S.kind hkind λenv he s1 x=>?_;subst he;refine⟨lim.keeps x.toInCall.keep,codeAny_func ?_⟩;obtain⟨t,ht,hq⟩:=hbody A outer s H vs Q E (hr.deeper _) hsp;have I:Inv (iz CX P w K mg base N qual scope f cdv A outer s H E) [] (start N vs) H s1:=zm S hr.hd e0 hl r x;refine Pz (ht [] s1 (start N vs) H _ I hq) (λfl s' hs=>?_) λe s' hs=>hs;have fin:∀ {σ':St}{H':Hp}{v:V}{u:Ä},Inv (iz CX P w K mg base N qual scope f cdv A outer s H E) [] σ' H' s'->RelV v u->Q v H'->CE outer P w H s Q u s' :=
  λ{σ' H' v u} J rv q=>⟨v,H',J.os,J.bare,J.base,J.bx,rv,q⟩
 cases fl with
 |ret u =>
  obtain⟨v,σ',H',J,rv,q⟩:=hs;exact fin J rv q
 |next =>
  obtain⟨σ',H',J,q⟩:=hs;exact fin (v:=V.bw) (u:=ð) J rfl q
 |brk =>
  obtain⟨_,_,_,q⟩:=hs;exact Qd q
 |cont =>
  obtain⟨_,_,_,q⟩:=hs;exact Qd q
section
variable {X:Cx}{x:Str}{p pos:Pos}{e:Ö}{es:List Ö}{t:TA}{id T:String}{r:List V->Hp->VK->Prop}
def MW(r:List V->Hp->VK->Prop)(t:TA):TE:=λσ H Q=>t σ H λvs H1=>r vs H1 Q
theorem kc(hc:bP X (.builtin id) r)(hg:Gl X x)(hm:X.mg x=none)(hv:ù x=some (.builtin id))(ha:PA X (e::es) t)(hn:x≠"__name__":=by decide)(hdb:(x == ("__debug__":Str))=false:=by decide)
  (he:Of (e::es) X.env=(false,eval e X.env)::Of es X.env:=by rfl) (hpl:(SJ pos (Of es X.env)).any (·.1)=false:=by rfl):PE X (.Call (.Name x p) (e::es) [] pos) (MW r t):=by
 intro aa s σ H Q I h;refine TV (gu I hg hm hv ?_ hn hdb);exact Yu (b8 (ha pos aa s σ H _ I h) λus s1 ⟨vs,H1,I1,r1,q1⟩=>hc aa s1 σ H1 vs us Q I1 r1 q1) he hpl
theorem qr(hc:bP X (.type T) r)(hg:Gl X x)(hm:X.mg x=none)(hv:ù x=some (.type T))(ha:PA X (e::es) t)(hn:x≠"__name__":=by decide)(hdb:(x == ("__debug__":Str))=false:=by decide)
  (he:Of (e::es) X.env=(false,eval e X.env)::Of es X.env:=by rfl) (hpl:(SJ pos (Of es X.env)).any (·.1)=false:=by rfl):PE X (.Call (.Name x p) (e::es) [] pos) (MW r t):=by
 intro aa s σ H Q I h;refine TV (gu I hg hm hv ?_ hn hdb);exact OS (b8 (ha pos aa s σ H _ I h) λus s1 ⟨vs,H1,I1,r1,q1⟩=>hc aa s1 σ H1 vs us Q I1 r1 q1) he hpl
end
end L2
namespace HT
open PySem PyProof.Rows
theorem A2(A:p8)(s:É)(a:Int)(t:Tok)(c:Int)(u:Tok):∃ e,Yc A s (.int a t) (.int c u) e/\(e=true↔a=c) :=
 ⟨(a == c),SeqAt.EqAt.int_int a t c u,by simp⟩
theorem tN(A:p8)(s:É)(a:Int)(t:Tok)(c:Int)(u:Tok)(prog:í)(w:ü)(E:Ä->É->Prop)(Q:Ä->É->Prop)(h:Q (.bool (decide (a < c))) s) :
  Ú (Ù prog w) A (WT .Lt (.int a t) (.int c u)) Q E s :=
 (lt_int h:Ú (Ù prog w) A (c0 .Lt (.int a t) (.int c u)) Q E s)
section
variable {prog:í}{w:ü}{A:p8}{E:Ä->É->Prop}{s:É}
theorem D1{t b:Ë}{vs ws:List Ä}{Q:Ä->É->Prop}(ht:SA s.heap t vs.toArray)(hb:SA s.heap b ws.toArray)(hv:vs≠[])
  (h1:ws=[]->Q (.ref t) s) (h2:ws≠[]->Q (.ref s.heap.objs.size) { s with heap:=s.heap.push { cls:=.type "tuple",data:=.seq (vs++ws).toArray } })
  (hsz:vs.length + ws.length<=sizeLine):Ú (Ù prog w) A (Qa .Add (.ref t) (.ref b)) Q E s:=by
 obtain⟨⟨cls,dd,data,sl⟩,ho,hc,n,hd⟩:=id ht;obtain⟨⟨cls2,dd2,XG,sl2⟩,ho2,hc2,n2,hd2⟩:=id hb;simp only at hc hd hc2 hd2;subst hc hd hc2 hd2;have e:vs.toArray++ws.toArray=(vs++ws).toArray:=by simp
 by_cases hw:ws=[]
 ·exact Wf ⟨_,ho,rfl⟩ ⟨_,ho2,rfl⟩ UC VF R6 RZ (RO _ _)
   (tuple_addW1 t b vs.toArray ws.toArray n n2 dd dd2 sl sl2 (by simpa using hv) (by simp[hw])) ⟨ho,ho2,h1 hw⟩
 ·refine Wf ⟨_,ho,rfl⟩ ⟨_,ho2,rfl⟩ UC VF R6 RZ (RO _ _)
   (tuple_addW2 t b vs.toArray ws.toArray n n2 dd dd2 sl sl2 (by simpa using hv) (by simpa using hw) (by rw[ß,ß];exact hsz)) ⟨ho,ho2,?_⟩
  rw[e];exact h2 hw
def c9(n d:Nat):Option Int->Nat
 |none=>d|some v=>if v < 0 then(v + (n:Int)).toNat else min v.toNat n
theorem rB(n d k:Nat):c9 n d (some (k:Int))=min k n:=by
 show(if (k:Int) < 0 then((k:Int) + (n:Int)).toNat else min (k:Int).toNat n)=min k n;rw[if_neg ∅,PY]
theorem Hk(n d:Nat)(hd:d<=n)(o:Option Int):c9 n d o<=n:=by
 cases o with
 |none=>exact hd
 |some v =>
  show(if v < 0 then(v + (n:Int)).toNat else min v.toNat n)<=n;by_cases hv:v < 0
  ·rw[if_pos hv];omega
  ·rw[if_neg hv];exact W2 _ _
theorem xF(v:Int)(n d:Nat):(if v < 0 then max (v + (n:Int)) 0 else min v (n:Int))=((c9 n d (some v):Nat):Int):=by
 show(if v < 0 then max (v + (n:Int)) 0 else min v (n:Int))=(((if v < 0 then(v + (n:Int)).toNat else min v.toNat n):Nat):Int);by_cases hv:v < 0
 ·simp only[if_pos hv];omega
 ·simp only[if_neg hv];omega
theorem vV(lo hi:Option Int)(n:Nat):Ug lo hi 1 (n:Int)=(((c9 n 0 lo:Nat):Int),((c9 n n hi:Nat):Int)):=by
 have h1:¬ ((1:Int) < 0):=by omega
 unfold Ug;simp only[h1,if_false];refine Vz ?_ ?_
 ·cases lo with
  |none=>rfl|some v=>exact xF v n 0
 ·cases hi with
  |none=>rfl|some v=>exact xF v n n
theorem vW(i j:Nat):SN (i:Int) (j:Int) 1=j - i:=by
 unfold SN;have h1:(1:Int) > 0:=by omega
 simp only[h1,if_true,Int.ediv_one];split <;> omega
theorem nO{v:Ä}{o:Option Int}{Q:Option Int->É->Prop}(p:Td v o)(h:Q o s):Ú (Ù prog w) A (Yq v) Q E s:=by
 cases p with
 |none=>exact slicePart_none h|int i t=>exact slicePart_int h
theorem fX{sl:Ë}{vl vu:Ä}{lo hi:Option Int}{n:Nat}{Q:Int × Int × Nat->É->Prop}(hs:s.heap.IsSliceOf sl vl vu .none)(pl:Td vl lo)(pu:Td vu hi)
  (h:Q (((c9 n 0 lo:Nat):Int),1,c9 n n hi - c9 n 0 lo) s):Ú (Ù prog w) A (sliceApplied (.ref sl) (pure (n:Int))) Q E s:=by
 obtain⟨os,hos,hcs,hds⟩:=id hs;unfold sliceApplied Yr;refine À (À (Pe hos hds (x:=vl) rfl (À (Pe hos hds (x:=vu) rfl (À (Pe hos hds (x:=.none) rfl (È ?_)))))));refine À (slicePart_none ?_);show Ú _ _ (if ((1:Int) == 0)=true then _ else _) _ _ s;rw[if_neg (-0)]
 refine À (nO pl (À (nO pu (À (È ?_)))));show Ú _ _ (match Ug lo hi 1 (n:Int) with | (lo,hi)=>pure (lo,(1:Int),SN lo hi 1)) _ _ s
 rw[vV lo hi n];show Ú _ _ (pure (((c9 n 0 lo:Nat):Int),(1:Int),SN ((c9 n 0 lo:Nat):Int) ((c9 n n hi:Nat):Int) 1)) _ _ s;rw[vW];exact È h
theorem A3(xs:Array Ä)(i k:Nat):((é k).filterMap λ(m:Nat)=>xs[((i:Int) + (m:Int) * 1).toNat]?).toArray=((xs.toList.drop i).take k).toArray:=by
 have e:(λ(m:Nat)=>xs[((i:Int) + (m:Int) * 1).toNat]?)=λm=>xs[i + m]?:=by
  funext m
  have:((i:Int) + (m:Int) * 1).toNat=i + m:=by omega
  rw[this]
 rw[e];have:=pick_run xs i k;rw[List.filterMap_map] at this;have e2:((λx=>xs[x]?) ∘ λx=>i + x)=λm=>xs[i + m]?:=rfl;rw[e2] at this;rw[this]
theorem kf{t sl:Ë}{items:Array Ä}{vl vu:Ä}{lo hi:Option Int}{Q:Ä->É->Prop}(ht:SA s.heap t items)(hs:s.heap.IsSliceOf sl vl vu .none)(pl:Td vl lo)(pu:Td vu hi)
  (hw:¬ (c9 items.size 0 lo=0/\c9 items.size items.size hi=items.size))
  (h:Q (.ref s.heap.objs.size) { s with heap:=s.heap.push { cls:=.type "tuple",data:=.seq ((items.toList.drop (c9 items.size 0 lo)).take (c9 items.size items.size hi - c9 items.size 0 lo)).toArray } })
  (hsz:items.size<=sizeLine):Ú (Ù prog w) A (Tn (.ref t) (.ref sl)) Q E s:=by
 have htake:sizeOk (.seq ((items.toList.drop (c9 items.size 0 lo)).take (c9 items.size items.size hi - c9 items.size 0 lo)).toArray):=by
  show((items.toList.drop (c9 items.size 0 lo)).take (c9 items.size items.size hi - c9 items.size 0 lo)).toArray.size<=sizeLine;rw[ß,î,OQ,Q0];omega
 have hj:c9 items.size items.size hi<=items.size:=Hk _ _ (Ô _) hi;obtain⟨os,hos,hcs,hds⟩:=id hs;have hTs:s.TypeIs (.ref sl) "slice":=⟨os,hos,hcs⟩;unfold Tn
 try with_reducible refine PC ?_
 first | refine À (È ?_) | skip
 refine À (XE ht.typeIs (-0) ?_)
 refine À (PL (name:=O8 "__getitem__") ht.typeIs Pc
  (Qq Pc ht.typeIs entry_tuple_getitem ?_ (Xu _ _)))
 show Ú _ _ (tupleItemsOf (.ref t) >>= _) _ _ s;refine À (tupleItemsOf_ ht ?_);refine À (RX hTs ?_);rw[if_pos (-0)]
 refine À (fX hs pl pu ?_);have hno:¬ ((((c9 items.size 0 lo:Nat):Int) == 0&&(1:Int) == 1&&(c9 items.size items.size hi - c9 items.size 0 lo) == items.size)=true):=by
  intro q;rw[Á,Á] at q;have q1:((c9 items.size 0 lo:Nat):Int)=0:=eq_of_beq q.1.1;have q2:c9 items.size items.size hi - c9 items.size 0 lo=items.size:=eq_of_beq q.2;exact hw ⟨by omega,by omega⟩
 show Ú _ _ (if (((c9 items.size 0 lo:Nat):Int) == 0&&(1:Int) == 1&&(c9 items.size items.size hi - c9 items.size 0 lo) == items.size)=true then _ else _) _ _ s;rw[if_neg hno,A3]
 first
  |exact À (m:=Ru _) (My (È ⟨_,rfl,È h⟩) htake)
  |exact À (m:=Ru _) (My (À (È (È ⟨_,rfl,È h⟩))) htake)
  |exact À (À (m:=Ru _) (My (È (È ⟨_,rfl,È h⟩)) htake))
  |exact À (À (m:=Ru _) (My (È ⟨_,rfl,È h⟩) htake))
end
end HT
namespace L2
open PySem PySem.Spec PyProof.Rows
abbrev TO:=St->Hp->(Option Int->Hp->Prop)->Prop
def PO(X:Cx)(e:Option Ö)(t:TO):Prop :=
 ∀ (aa:List (Ë × Obj)) (s:É) (σ:St) (H:Hp) (Q:Option Int->Hp->Prop),Inv X aa σ H s->t σ H Q ->
  Ú (Ù X.prog X.w) X.A (evalPart e X.env) (λu s'=>∃ o H',Inv X aa σ H' s'/\Td u o/\Q o H') X.xe s
def D3:TO:=λ_ H Q=>Q none H
def Kj(t:TE):TO:=λσ H Q=>t σ H λx H1=>∃ i,x=.int i/\Q (some i) H1
theorem intsAre_of{ns:List Int}:∀ {us:List Ä},Vals (ns.map V.int) us->Q9 us ns:=by
 induction ns with
 |nil=>intro us r;rw[map_nil] at r;cases r;exact .nil
 |cons n ns ih =>
  intro us r;rw[Qw] at r;cases r with
  |cons r1 r2 =>
   obtain⟨t,e⟩:=r1;subst e;exact .cons n t (ih r2)
section
variable {X:Cx}{e:Ö}{te:TE}{lo hi:Option Ö}{tl th:TO}{pos p2:Pos}
theorem D4:PO X none D3:=by
 intro aa s σ H Q I h;rw[evalPart_none];exact È ⟨none,H,I,.none,h⟩
theorem D5(h:PE X e te):PO X (some e) (Kj te):=by
 intro aa s σ H Q I hw;rw[evalPart_some];refine b8 (h aa s σ H _ I hw) λu s1 ⟨x,H1,I1,r1,q1⟩=>?_;obtain⟨i,rfl,q⟩:=q1;obtain⟨t,rfl⟩:=r1;exact⟨some i,H1,I1,.int i t,q⟩
def Mc(X:Cx)(r:V->Option Int->Option Int->Hp->VK->Prop):Prop :=
 ∀ (aa:List (Ë × Obj)) (s:É) (σ:St) (H:Hp) (x:V) (v vl vu:Ä) (lo hi:Option Int) (sl:Ë) (Q:VK),Inv X aa σ H s->RelV x v->s.heap.IsSliceOf sl vl vu .none->Td vl lo->Td vu hi->r x lo hi H Q ->
  ∃ T id,typeLookup (.type T) "__getitem__"=pure (some (.builtin id))/\s.TypeIs v T/\Ú (Ù X.prog X.w) X.A (Tn v (.ref sl)) (EP X aa σ Q) X.xe s
def Om(r:V->Option Int->Option Int->Hp->VK->Prop)(te:TE)(tl th:TO):TE:=λσ H Q=>te σ H λx H1=>tl σ H1 λl H2=>th σ H2 λu H3=>r x l u H3 Q
theorem A4{r:V->Option Int->Option Int->Hp->VK->Prop}(hr:Mc X r)(he:PE X e te)(hl:PO X lo tl)(hu:PO X hi th):PE X (.Subscript e (.Slice lo hi none p2) pos) (Om r te tl th):=by
 intro aa s σ H Q I h;refine Subscript_ (b8 (he aa s σ H _ I h) λv s1 ⟨x,H1,I1,r1,q1⟩=>?_);refine wpAny_Slice (b8 (hl aa s1 σ H1 _ I1 q1) λvl s2 ⟨l,H2,I2,pl,q2⟩=>b8 (hu aa s2 σ H2 _ I2 q2) λvu s3 ⟨u,H3,I3,pu,q3⟩=>?_);rw[evalPart_none];refine È ?_;have I4:Inv X aa σ H3 { s3 with heap:=s3.heap.push { cls:=.type "slice",data:=.fields #[vl,vu,.none] } }:=I3.kept (t':=s3.toks) λb ob q=>Ã _ q;obtain⟨T,id,hT,ht,hg⟩:=hr aa { s3 with heap:=s3.heap.push { cls:=.type "slice",data:=.fields #[vl,vu,.none] } } σ H3 x v vl vu l u s3.heap.objs.size Q I4 r1 (XT ..) pl pu q3;show Ú (Ù X.prog X.w) X.A (subscriptTail e (.Slice lo hi none p2) v (.ref s3.heap.objs.size)) (EP X aa σ Q) X.xe { s3 with heap:=s3.heap.push { cls:=.type "slice",data:=.fields #[vl,vu,.none] } };exact tail_any (ops:=[.ref s3.heap.objs.size,v]) ht hT hg (by with_unfolding_all rfl)
def rC(xs:List V)(lo hi:Option Int):List V:=(xs.drop (HT.c9 xs.length 0 lo)).take (HT.c9 xs.length xs.length hi - HT.c9 xs.length 0 lo)
theorem mh(xs:List V)(lo hi:Option Int):(rC xs lo hi).length<=xs.length:=by
 unfold rC;rw[î,OQ];omega
theorem Vals.mV{xs:List V}{us:List Ä}(r:Vals xs us):us=[]↔xs=[]:=by
 cases r with
 |nil=>simp|cons _ _=>simp
end
def Ge(n:Nat)(i:Int):Option Nat:=if 0<=i then(if i < n then some i.toNat else none) else if -(n:Int)<=i then some (i + n).toNat else none
def A5{α:Type}(xs:List α)(i:Int):Option α:=(Ge xs.length i).bind λj=>xs[j]?
theorem xG{n:Nat}{i:Int}{j:Nat}(h:Ge n i=some j):X5 i n=some j/\j < n/\-(n:Int)<=i/\i < n:=by
 unfold Ge at h;by_cases h0:0<=i
 ·rw[if_pos h0] at h;by_cases h1:i < n
  ·rw[if_pos h1] at h;have e:i.toNat=j:=OV h;exact⟨by rw[WR h0 h1,e],by omega,by omega,h1⟩
  ·rw[if_neg h1] at h;cases h
 ·rw[if_neg h0] at h;by_cases h1:-(n:Int)<=i
  ·rw[if_pos h1] at h;have e:(i + n).toNat=j:=OV h;exact⟨by rw[seqIndex_neg ∅ h1,e],by omega,h1,by omega⟩
  ·rw[if_neg h1] at h;cases h
theorem xH{α:Type}{xs:List α}{i:Int}{v:α}(h:A5 xs i=some v):∃ j,X5 i xs.length=some j/\xs[j]?=some v/\j < xs.length/\-(xs.length:Int)<=i/\i < xs.length:=by
 unfold A5 at h;cases e:Ge xs.length i with
 |none=>rw[e] at h;cases h
 |some j =>
  rw[e] at h;obtain⟨h1,h2,h3,h4⟩:=xG e;exact⟨j,h1,h,h2,h3,h4⟩
theorem rD{α:Type}{xs:List α}{j:Nat}{v:α}(h:xs[j]?=some v):A5 xs (j:Int)=some v:=by
 have hj:j < xs.length:=(ï.mp h).1;have e:Ge xs.length (j:Int)=some j:=by
  unfold Ge;rw[if_pos ∅,if_pos ∅];simp
 unfold A5;rw[e];exact h
def xI(b:Ö):Prop:=∀ o i,subscripted b false o i=operate [o,i] (Tn o i)
def Md(X:Cx)(r:R2):Prop :=
 ∀ (value slice:Ö) (aa:List (Ë × Obj)) (s:É) (σ:St) (H:Hp) (x y:V) (v u:Ä) (Q:VK),Inv X aa σ H s->RelV x v->RelV y u->r x y H Q ->
  subscripted slice false v u=operate [v,u] (Tn v u)->Ú (Ù X.prog X.w) X.A (subscriptTail value slice v u) (EP X aa σ Q) X.xe s
def N4(X:Cx)(id:String)(r:V->List V->Hp->VK->Prop):Prop :=
 ∀ (aa:List (Ë × Obj)) (s:É) (σ:St) (H:Hp) (x:V) (xs:List V) (v:Ä) (us:List Ä) (Q:VK),Inv X aa σ H s->RelV x v->Vals xs us->r x xs H Q ->
  Ú (Ù X.prog X.w) X.A (call (.builtin id) (v::us)) (EP X aa σ Q) X.xe s
section
variable {X:Cx}{a b:Ö}{ta tb:TE}{pos:Pos}
theorem Gf{r:R2}(hr:Md X r)(ha:PE X a ta)(hb:PE X b tb)(hs:xI b):PE X (.Subscript a b pos) (JH r ta tb):=by
 intro aa s σ H Q I h;exact Subscript_ (G8 ha hb I h λv u s2 x y H2 I2 rx ry q=>hr a b aa s2 σ H2 x y v u Q I2 rx ry q (hs _ _))
def MX(K:Â):R2:=λx y H Q=>∃ p xs i v,x=.ref p/\y=.int i/\jj K H p xs/\A5 xs i=some v/\Q v H
def MY(K:Â):R2:=λx y H Q=>∃ p xs i v,x=.ref p/\y=.int i/\cI K H p xs/\A5 xs i=some v/\Q v H
theorem xJ:Md X (MX X.K):=by
 intro value slice aa s σ H x y v u Q I rx ry h hs;obtain⟨p,xs,i,z,rfl,rfl,hq,he,q⟩:=h;cases rx;obtain⟨t,rfl⟩:=ry;obtain⟨ai,r,pl,hz⟩:=I.list hq;obtain⟨j,h1,h2,h3,h4,h5⟩:=xH he;obtain⟨w,ew,rw'⟩:=r.get h2;have hl:=r.length;have hn:=rA;have fin:EP X aa σ Q w s:=⟨z,H,I,rw',q⟩;by_cases h0:0<=i
 ·have hj:i.toNat=j:=by
   rw[WR h0 h5] at h1;exact OV h1
  exact item_listR pl.isList h0 ∅ (by rw[hj];simpa using ew) fin hs
 ·have hj:(i + (ai.toArray.size:Int)).toNat=j:=by
   rw[seqIndex_neg ∅ h4] at h1
   rw[ß,← hl];exact OV h1
  exact Wb (x:=w) pl.isList.typeIs slot_list_getitem.lookup
   (wpAny_getItem_list_neg (Q:=λr s'=>r=w/\EP X aa σ Q r s') pl.isList ∅ (by rw[ß] <;> omega) ∅ (by rw[hj];simpa using ew) ⟨rfl,fin⟩) hs
theorem Hl:Md X (MY X.K):=by
 intro value slice aa s σ H x y v u Q I rx ry h hs;obtain⟨p,xs,i,z,rfl,rfl,hq,he,q⟩:=h;cases rx;obtain⟨t,rfl⟩:=ry;obtain⟨ai,r,pl,hz⟩:=I.tuple hq;obtain⟨j,h1,h2,h3,h4,h5⟩:=xH he;obtain⟨w,ew,rw'⟩:=r.get h2;have hl:=r.length;have hn:=rA;have fin:EP X aa σ Q w s:=⟨z,H,I,rw',q⟩;exact Wb (x:=w) pl.typeIs slot_tuple_getitem.lookup
  (getItem_tuple (j:=j) (Q:=λr s'=>r=w/\EP X aa σ Q r s') pl ∅ ∅ (by rw[ß,← hl];exact h1) (by simpa using ew) ⟨rfl,fin⟩) hs
theorem vX(ai:List Ä)(n j:Nat)(u:Ä):OY (·.setIfInBounds j u) { cls:=.type "list",data:=.seq ai.toArray n }={ cls:=.type "list",data:=.seq (ai.set j u).toArray n }:=by
 simp[OY]
theorem Inv.lst{aa:List (Ë × Obj)}{σ:St}{H:Hp}{s:É}{p:Ë}{xs:List V}(I:Inv X aa σ H s)(h:H p=some (.lst xs)) :
  ∃ (ai:List Ä) (n:Nat),Vals xs ai/\s.heap.get? p=some { cls:=.type "list",data:=.seq ai.toArray n }/\xs.length<=sizeLine:=by
 obtain⟨z,ai,n,r,e⟩:=I.bx p _ h;exact⟨ai,n,r,e,z⟩
theorem Inv.Hm{aa:List (Ë × Obj)}{σ:St}{H:Hp}{s:É}{p:Ë}{xs ys:List V}{ai its':List Ä}{n n':Nat}{f:Obj->Obj}(I:Inv X aa σ H s)(h:H p=some (.lst xs))
  (ho:s.heap.get? p=some { cls:=.type "list",data:=.seq ai.toArray n }) (hf:f { cls:=.type "list",data:=.seq ai.toArray n }={ cls:=.type "list",data:=.seq its'.toArray n' }) (r:Vals ys its') (hz:ys.length<=sizeLine) (t:Nat) :
  Inv X aa σ (upd H p (.lst ys)) { s with heap:=s.heap.update p f,toks:=t }:=by
 have e:(s.heap.update p f).get? p=some { cls:=.type "list",data:=.seq its'.toArray n' }:=by
  rw[Su f ho (by rw[hf] <;> rfl),hf]
 refine I.write (x:=p) (e:=p) (by rw[h];trivial) (.inl rfl) (λb u hb q=>(U2 _ _ (OT hb)).trans q) ⟨_,e⟩ ?_
 exact⟨hz,its',n',r,e⟩
def Kk:V->V->V->Hp->(Hp->Prop)->Prop:=λo i v H Q=>∃ p xs k j,o=.ref p/\i=.int k/\H p=some (.lst xs)/\Ge xs.length k=some j/\Q (upd H p (.lst (xs.set j v)))
theorem set_list:J0 X Kk:=by
 intro aa s σ H o i v ov iv u Q I ro ri rv h;obtain⟨p,xs,k,j,rfl,rfl,hp,hj,q⟩:=h;cases ro;obtain⟨t,rfl⟩:=ri;obtain⟨ai,n,r,ho,hz⟩:=I.lst hp;obtain⟨h1,h2,h3,h4⟩:=xG hj;have hl:=r.length;have hn:=rA;have I':Inv X aa σ (upd H p (.lst (xs.set j v))) { s with heap:=s.heap.update p (OY (·.setIfInBounds j u)) } :=
  I.Hm hp ho (vX ai n j u) (r.set rv j) (by rw[PJ];exact hz) s.toks
 by_cases h0:0<=k
 ·have hk:k.toNat=j:=by
   rw[WR h0 h4] at h1;exact OV h1
  exact PySem.W.ki_setAt ho h0 ∅ (by rw[ß,← hl];exact h4) (by rw[hk];exact⟨_,I',q⟩)
 ·have hk:(k + (ai.toArray.size:Int)).toNat=j:=by
   rw[seqIndex_neg ∅ h3] at h1
   rw[ß,← hl];exact OV h1
  exact PySem.W.ki_setBack ho ∅ (by rw[ß,← hl];exact h3) ∅ (by rw[hk];exact⟨_,I',q⟩)
theorem rE(lo hi:Option Int)(n:Nat):(RE lo hi none n).1=((HT.c9 n 0 lo:Nat):Int)/\(RE lo hi none n).2.1=((HT.c9 n n hi:Nat):Int)/\(RE lo hi none n).2.2=1:=by
 refine⟨?_,?_,rfl⟩
 ·cases lo with
  |none=>simp[RE,HT.c9]
  |some i =>
   simp only[RE,HT.c9,getD_none,show(1:Int) > 0 by decide,if_true]
   by_cases h:i < 0
   ·simp only[h,if_true] <;> omega
   ·simp only[h,if_false] <;> omega
 ·cases hi with
  |none=>simp[RE,HT.c9]
  |some i =>
   simp only[RE,HT.c9,getD_none,show(1:Int) > 0 by decide,if_true]
   by_cases h:i < 0
   ·simp only[h,if_true] <;> omega
   ·simp only[h,if_false] <;> omega
theorem pU(ai:List Ä)(lo hi:Option Int):slicePick ai.toArray lo hi none=((ai.drop (HT.c9 ai.length 0 lo)).take (HT.c9 ai.length ai.length hi - HT.c9 ai.length 0 lo)).toArray:=by
 obtain⟨h1,h2,h3⟩:=rE lo hi ai.toArray.size;unfold slicePick;rw[h1,h2,h3];simp only[sliceRange_one,pick_run,ß] <;> rfl
def MZ(K:Â):V->Option Int->Option Int->Hp->VK->Prop:=λx lo hi H Q=>∃ a xs,x=.ref a/\jj K H a xs/\∀ p,H p=none->Q (.ref p) (upd H p (.lst (rC xs lo hi)))
theorem D6:Mc X (MZ X.K):=by
 intro aa s σ H x v vl vu lo hi sl Q I rx hs pl pu h;obtain⟨a,xs,rfl,hx,q⟩:=h;cases rx;obtain⟨ai,r,ht,hz⟩:=I.list hx;have hlen:=r.length;refine⟨"list",_,slot_list_getitem.lookup,ht.isList.typeIs,?_⟩;refine wpAny_getItem_list_slice ht.isList hs pl pu .none (by simp) ?_ (by rw[ß] <;> omega)
 rw[pU,← hlen];refine⟨.ref s.heap.objs.size,_,I.laid (t':=s.toks) (o:=.lst (rC xs lo hi)) (λb ob q=>Ã _ q) (Ô _) ?_,rfl,q _ (I.bx.fresh (Ô _))⟩;exact⟨ã (mh xs lo hi) hz,_,0,(r.drop (HT.c9 xs.length 0 lo)).take (HT.c9 xs.length xs.length hi - HT.c9 xs.length 0 lo),Í _ rfl⟩
theorem rF:bP X (.builtin "len") (λxs H Q=>∃ p ys,xs=[.ref p]/\(jj X.K H p ys∨cI X.K H p ys)/\Q (.int ys.length) H):=by
 intro aa s σ H xs us Q I r h;obtain⟨p,ys,rfl,hq,q⟩:=h;obtain⟨u,rfl,rx⟩:=vals1 r;cases rx;have hn:=rA;rcases hq with hq | hq
 ·obtain⟨ai,r',pl,hz⟩:=I.list hq;have hlen:=r'.length;exact Calls.call_len_list pl.isList (by simp only[ß] <;> omega) ⟨.int ys.length,H,I.tok _,⟨s.toks + 1,by rw[ß,hlen]⟩,q⟩
 ·obtain⟨ai,r',pl,hz⟩:=I.tuple hq;have hlen:=r'.length;exact len_tuple pl (by simp only[ß] <;> omega) ⟨.int ys.length,H,I.tok _,⟨s.toks + 1,by rw[ß,hlen]⟩,q⟩
theorem rG:bP X (.type "list") (λxs H Q=>∃ p ys,xs=[.ref p]/\(jj X.K H p ys∨cI X.K H p ys)/\∀ l,H l=none->Q (.ref l) (upd H l (.lst ys))):=by
 intro aa s σ H xs us Q I r h;obtain⟨p,ys,rfl,hq,q⟩:=h;obtain⟨u,rfl,rx⟩:=vals1 r;cases rx;have fin:∀ (ai:List Ä),Vals ys ai->ys.length<=sizeLine->∀ (h':û) (c':Nat),(∀ b o',s.heap.get? b=some o'->h'.get? b=some o') ->
   h'.get? s.heap.objs.size=some { cls:=.type "list",dict:=none,data:=.seq ai.toArray c',slots:=#[] }->EP X aa σ Q (.ref s.heap.objs.size) { s with heap:=h' }:=λai r' hz h' c' kp e =>
  ⟨.ref s.heap.objs.size,_,I.laid (t':=s.toks) kp (Ô _) (show cD X.prog X.w _ h' _ (.lst ys) from⟨hz,ai,c',r',e⟩),rfl,q _ (I.bx.fresh (Ô _))⟩
 rcases hq with hq | hq
 ·obtain⟨ai,r',pl,hz⟩:=I.list hq;have hlen:=r'.length;obtain⟨o,ho,hc,n,hd⟩:=pl.isList;exact call_list_seq p (.inl rfl) ho hc hd (λh' c' kp e=>fin ai r' hz h' c' kp e) (by simp only[ß] <;> omega)
 ·obtain⟨ai,r',pl,hz⟩:=I.tuple hq;have hlen:=r'.length;obtain⟨o,ho,hc,n,hd⟩:=pl;exact call_list_seq p (.inr rfl) ho hc hd (λh' c' kp e=>fin ai r' hz h' c' kp e) (by simp only[ß] <;> omega)
theorem pV:bP X (.type "tuple") (λxs H Q=>∃ p ys,xs=[.ref p]/\((jj X.K H p ys/\∀ l,H l=none->Q (.ref l) (upd H l (.tup ys)))∨(cI X.K H p ys/\Q (.ref p) H))):=by
 intro aa s σ H xs us Q I r h;obtain⟨p,ys,rfl,h⟩:=h;obtain⟨u,rfl,rx⟩:=vals1 r;cases rx;rcases h with ⟨hq,q⟩ | ⟨hq,q⟩
 ·obtain⟨ai,r',pl,hz⟩:=I.list hq;have hlen:=r'.length;refine call_tuple_list pl.isList (λh' kp=>?_) (by simp only[ß] <;> omega)
  have I1:Inv X aa σ H { s with heap:=h' }:=I.kept (t':=s.toks) kp;have I2:Inv X aa σ (upd H h'.objs.size (.tup ys)) { s with heap:=h'.push { cls:=.type "tuple",data:=.seq ai.toArray } } :=
   I1.laid (t':=s.toks) (λb o e=>Ã _ e) (Ô _) (show cD X.prog X.w _ _ _ (.tup ys) from⟨hz,ai,r',Wu _ _⟩)
  exact⟨.ref h'.objs.size,_,I2,rfl,q _ (I1.bx.fresh (Ô _))⟩
 ·obtain⟨ai,r',pl,hz⟩:=I.tuple hq;exact call_tuple_same pl ⟨.ref p,H,I,rfl,q⟩
def M0(K:Â)(T:String)(x:V)(H:Hp):Prop:=match x with
 |.str _=>T="str"|.int _=>T="int"
 |.ref p=>(T="list"/\∃ xs,jj K H p xs)∨(T="tuple"/\∃ o,K.lookup p=some o/\o.cls=.type "tuple"/\o.dict=none) ∨
   (T="dict"/\((∃ kvs,H p=some (.dK kvs))∨∃ kvs,H p=some (.dT kvs)))∨(T="set"/\∃ S n,H p=some (.set S n))
 |_=>False
theorem Hn{aa:List (Ë × Obj)}{σ:St}{H:Hp}{s:É}{T:String}{x:V}{v:Ä}(I:Inv X aa σ H s)(r:RelV x v)(ty:M0 X.K T x H) :
  s.TypeIs v T/\∀ a,v=.ref a->∃ ob,s.heap.get? a=some ob/\ob.dict=none:=by
 cases x with
 |str z =>
  obtain⟨t,rfl⟩:=r;cases (show T="str" from ty);exact⟨typeIs_str s z t,λ_ e=>nomatch e⟩
 |int i =>
  obtain⟨t,rfl⟩:=r;cases (show T="int" from ty);exact⟨TX s i t,λ_ e=>nomatch e⟩
 |ref p =>
  cases r;rcases ty with ⟨rfl,xs,hq⟩ | ⟨rfl,o,hk,hc,hd⟩ | ⟨rfl,hk⟩ | ⟨rfl,S,n,hk⟩
  ·obtain⟨ai,_,pl,_⟩:=I.list hq;refine⟨pl.isList.typeIs,λa e=>?_⟩;cases e;obtain⟨o,n,e,c,hd,_⟩:=pl;exact⟨o,e,hd⟩
  ·refine⟨⟨o,I.pQ p o hk,hc⟩,λa e=>?_⟩;cases e;exact⟨o,I.pQ _ o hk,hd⟩
  ·have z:∃ o,s.heap.get? p=some o/\o.ExactDict:=by
    rcases hk with ⟨kvs,hk⟩ | ⟨kvs,hk⟩
    ·obtain⟨_,_,_,_,o,_,_,e,ex,_⟩:=I.bx p _ hk;exact⟨o,e,ex⟩
    ·obtain⟨_,_,_,_,o,_,_,e,ex,_⟩:=I.bx p _ hk;exact⟨o,e,ex⟩
   obtain⟨o,e,ex⟩:=z;refine⟨⟨o,e,ex.1⟩,λa e2=>?_⟩;cases e2;exact⟨o,e,ex.2.1⟩
  ·obtain⟨o,_,_,_,e,ex,_⟩:=I.bx p _ hk;refine⟨⟨o,e,ex.1⟩,λa e2=>?_⟩;cases e2;exact⟨o,e,ex.2.1⟩
 |_=>exact Qd ty
def Oo(K:Â)(T:String)(r:V->List V->Hp->VK->Prop)(to:TE):TE:=λσ H Q=>to σ H λx H1=>M0 K T x H1/\r x [] H1 Q
def Oq(K:Â)(T:String)(r:V->List V->Hp->VK->Prop)(to:TE)(t:TA):TE:=λσ H Q=>to σ H λx H1=>M0 K T x H1/\t σ H1 λxs H2=>r x xs H2 Q
variable {o e:Ö}{es:List Ö}{to:TE}{t:TA}{name:Str}{apos cpos:Pos}{T id:String}{r:V->List V->Hp->VK->Prop}
theorem Kl(pa:PlainAttrs T)(slot:Slot T name id)(hty:typeOf (.builtin id)=pure (.type "method_descriptor"))(hm:N4 X id r)(ho:PE X o to)(ha:PA X (e::es) t)
  (hbase:attributeBase o name X.env (eval o X.env)=eval o X.env:=by rfl)
  (hfew:((SJ cpos (Of (e::es) X.env)).all (λx=>!x.1)&&(backToKw cpos (keywordEach [] X.env)).all (λx=>x.1.isSome)
   &&decide ((e::es).length + ([]:List Keyword).length + (if ([]:List Keyword).isEmpty then 0 else 1) < 30))=true:=by rfl)
  (hline:(apos.endLine == cpos.line)=true:=by rfl) (hs:Of (e::es) X.env=(false,eval e X.env)::Of es X.env:=by rfl) (hplain:(SJ cpos (Of es X.env)).any (·.1)=false:=by rfl) :
  PE X (.Call (.Attribute o name apos) (e::es) [] cpos) (Oq X.K T r to t):=by
 intro aa s σ H Q I h;refine wpAny_Call_method_late hbase hfew hline rfl (b8 (ho aa s σ H _ I h) λv s1 ⟨x,H1,I1,r1,ty,q1⟩=>?_);obtain⟨h1,h2⟩:=Hn I1 r1 ty;refine⟨T,id,pa,slot,hty,h1,h2,?_⟩;have hA:=ha cpos aa s1 σ H1 _ I1 q1;rw[hs] at hA ⊢;refine Calls.callWith_builtin (by show(false || (SJ cpos (Of es X.env)).any (·.1))=false;rw[hplain] <;> rfl) (Vt ?_)
 exact b8 hA λus s2 ⟨vs,H2,I2,r2,q2⟩=>hm aa s2 σ H2 x vs v us Q I2 r1 r2 q2
end
def Ot(X:Cx)(id:String)(r:V->List V->Hp->VK->Prop):Prop :=
 ∀ (aa:List (Ë × Obj)) (s:É) (σ:St) (H:Hp) (x:V) (xs:List V) (v:Ä) (us:List Ä) (Q:VK),Inv X aa σ H s->RelV x v->Vals xs us->r x xs H Q ->
  Ú (Ù X.prog X.w) X.A (call (.builtin id) (v::us)) (EP X aa σ Q) X.xe s
theorem Vals.one:∀ {x:V}{us:List Ä},Vals [x] us->∃ u,us=[u]/\RelV x u
 |_,_,.cons r .nil=>⟨_,rfl,r⟩
theorem Vals.eraseIdx:∀ {xs:List V}{us:List Ä} (i:Nat),Vals xs us->Vals (xs.eraseIdx i) (us.eraseIdx i)
 |_,_,_,.nil=>.nil|_,_,0,.cons _ t=>t|_,_,i + 1,.cons r t=>.cons r (Vals.eraseIdx i t)
theorem Vals.reverse{xs:List V}{us:List Ä}(h:Vals xs us):Vals xs.reverse us.reverse:=by
 induction h with
 |nil=>exact .nil|cons r t ih=>rw[RH,RH];exact Vals.append ih (.cons r .nil)
theorem Vals.rep{xs:List V}{us:List Ä}(h:Vals xs us):∀ k:Nat,Vals (ø k xs).flatten (ø k us).flatten
 |0=>.nil
 |k + 1=>by
  rw[Qj,Qj,Pj,Pj];exact Vals.append h (Vals.rep h k)
theorem foldl_rep(ai:List Ä):∀ (k:Nat) (acc:List Ä),
  UL (λx1 x2=>x1++x2) acc.toArray (ø k ai.toArray)=(acc++(ø k ai).flatten).toArray
 |0,acc=>by simp
 |k + 1,acc=>by
  have e:acc.toArray++ai.toArray=(acc++ai).toArray:=by simp
  have e2:(acc++ai)++(ø k ai).flatten=acc++(ø (k + 1) ai).flatten:=by
   rw[Qj,Pj,Ý]
  rw[← e2,← foldl_rep ai k (acc++ai),← e,Qj,W8]
section
variable {X:Cx}{aa:List (Ë × Obj)}{σ:St}{H:Hp}{s:É}{l b:Ë}{xs ys zs:List V}
theorem Inv.nP{ai its':List Ä}{n:Nat}{f:Array Ä->Array Ä}{t':Nat}(I:Inv X aa σ H s)(hH:H l=some (.lst xs))
  (e:s.heap.get? l=some { cls:=.type "list",data:=.seq ai.toArray n }) (hf:f ai.toArray=its'.toArray) (hv:Vals ys its') (hz:ys.length<=sizeLine) :
  Inv X aa σ (upd H l (.lst ys)) { s with heap:=s.heap.update l (OY f),toks:=t' }:=by
 have q:=PySem.IsL.update e f;rw[hf] at q;refine I.write (x:=l) (e:=l) (by rw[hH];exact trivial) (.inl rfl) (λb' u hb hu=>(U2 s.heap (OY f) (OT hb)).trans hu) ⟨_,q⟩ ?_
 exact⟨hz,its',_,hv,q⟩
theorem Inv.Km{ai:List Ä}{t':Nat}(I:Inv X aa σ H s)(hv:Vals ys ai)(hz:ys.length<=sizeLine) :
  Inv X aa σ (upd H s.heap.objs.size (.lst ys)) { s with heap:=s.heap.push { cls:=.type "list",data:=.seq ai.toArray },toks:=t' } :=
 I.laid (λ_ _ q=>Ã _ q) (Ô _) ⟨hz,ai,0,hv,Í _ rfl⟩
theorem Inv.fresh(I:Inv X aa σ H s):H s.heap.objs.size=none:=I.bx.fresh (Ô _)
theorem Inv.Kn(I:Inv X aa σ H s)(hH:H l=some (.lst xs)):xs.length<=sizeLine/\∃ (ai:List Ä) (n:Nat),Vals xs ai/\xs.length=ai.length/\s.heap.get? l=some { cls:=.type "list",data:=.seq ai.toArray n }:=by
 obtain⟨z,ai,n,r,e⟩:=I.bx l _ hH;exact⟨z,ai,n,r,r.length,e⟩
theorem A6{n:Nat}(h:n<=sizeLine):RC n=false:=by
 unfold RC;exact decide_eq_false ∅
end
section
variable {X:Cx}
def D7:V->List V->Hp->VK->Prop:=λx vs H Q=>∃ l xs y,x=.ref l/\vs=[y]/\H l=some (.lst xs)/\xs.length < sizeLine/\Q .bw (upd H l (.lst (xs++[y])))
theorem zo:Ot X "list.append" D7:=by
 intro aa s σ H x vs v us Q I rx rv h;obtain⟨l,xs,y,rfl,rfl,hH,hz,q⟩:=h;cases rx;obtain⟨u,rfl,ru⟩:=rv.one;obtain⟨z,ai,n,r,hl,e⟩:=I.Kn hH;refine QU F.slot_list_append ⟨_,e,rfl⟩ F.entry_list_append (F.args_list_append_2 _ _) (PySem.list_append l ai.toArray n u (by rw[ß];omega)) ⟨e,?_⟩
 refine⟨.bw,_,I.nP (its':=ai++[u]) hH e (by simp) (r.append (.cons ru .nil)) ?_,rfl,q⟩
 rw[Ü,Ss];omega
def M1:V->List V->Hp->VK->Prop:=λx vs H Q=>∃ l xs i k y,x=.ref l/\vs=[.int i]/\H l=some (.lst xs)/\-(2 ^ 63)<=i/\i < 2 ^ 63/\X5 i xs.length=some k/\xs[k]?=some y/\Q y (upd H l (.lst (xs.eraseIdx k)))
theorem len_rep{α:Type}(xs:List α)(k:Nat):(ø k xs).flatten.length=k * xs.length:=by
 induction k with
 |zero=>simp|succ k ih=>rw[Qj,Pj,Ü,ih,Nat.succ_mul,Nat.add_comm]
end
end L2
namespace Att
open PySem PySem.W PySem.Calls PyProof.Rows
theorem mM{P:Params}{h:û}:∀ (ns:List Int) (vs:List Ä),WellAll P h vs (ns.map WData.int)->Q9 vs ns:=by
 intro ns
 induction ns with
 |nil =>
  intro vs w;rw[map_nil] at w;cases w;exact .nil
 |cons n ns ih =>
  intro vs w;rw[Qw] at w;cases w with
  |cons a b =>
   cases a;exact .cons _ _ (ih _ b)
theorem zp{l:XN}{n:Nat}(hn:l.most=some n){P:Params}{h:û}{args:List WData}{vals:List Ä}
  (hpre:l.row.toRowW.claim.pre args=true) (hwl:WellAll P h vals args) :
  ∃ a vs ns,vals=[Pf a]/\args=[WData.list (ns.map WData.int)]/\h.get? a=some { cls:=.type "list",data:=.seq vs.toArray }/\Q9 vs ns/\ns.length<=n:=by
 have hsh:WShape.hasAll [] args [.list .int]=true:=(pre_splitW hpre).1;have hc:l.pre.holds [] { args:=args }=true:=(pre_splitW hpre).2;obtain⟨d,r,rfl,h1,h2⟩:=hasAllW_cons hsh;obtain rfl:=hasAllW_nil h2;obtain⟨xs,rfl,h3⟩:=hasW_list h1;obtain⟨ns,rfl⟩:=items_int h3;have hlen:ns.length<=n:=by
  unfold XN.pre at hc;have h4:(WTm.not (.lt (.lit (.int (n:Int))) (.len (.arg 0)))).holds [] { args:=[.list (ns.map .int)] }=true:=by
   have h4:=(holds_andW hc).1;rw[hn] at h4;exact h4
  have h5:=condW_of h4 (w_not (w_lt w_lit (w_len_list (w_arg rfl))));rw[Ç] at h5;refine Nat.le_of_not_lt λq=>?_;have q':(n:Int) < ((ns.length:Nat):Int):=by omega
  first
   |(rw[decide_eq_true q'] at h5;exact absurd h5 (-0))
   |(simp at h5;omega)
 cases hwl with
 |cons w1 w2 =>
  cases w2;cases w1 with
  |list ho hall=>exact⟨_,_,ns,rfl,rfl,ho,mM ns _ hall,hlen⟩
theorem zq(l:XN)(args:List WData):l.row.toRowW.claim.post args (.bool true) args=true :=
 postW_of (r:=l.row.toRowW) (X:=(true == true))
  (show XM [] (.bool true) .bool=true by first | rfl | decide | simp[XM,WShape.arms,WShape.armsAll])
  (show(WTm.eq .res (.lit (.bool true))).value [] { args:=args,res:=some (.bool true),after:=args }=some (.bool (true == true)) from w_eq_bool (w_res rfl) w_lit) rfl
theorem tO{l:XN}{n:Nat}{q:í}{loose:List Str}{XP:(Str->Option Ä)->û->Prop}{YP:ü->û->Prop}{d:DefRec}
  (hn:l.most=some n) (hdf:d.params.defaults=[])
  (call:∀ (w:ü) (s₀ s₁:É) (mg mb:Str->Option Ä) (fa:Ë) (o:Obj) (pm cd doc:Ä) (a:Ë) (vs:List Ä) (ns:List Int),
   Ground q loose [] XP w s₀ mg mb s₁.heap->YP w s₁.heap ->
   s₁.heap.get? fa=some o->o.data=.func (docDef d.name d.params d.body d.scope pm cd doc)->s₁.heap.CodeRec cd d.name->mg d.name=some (.ref fa) ->
   s₁.heap.get? a=some { cls:=.type "list",data:=.seq vs.toArray }->Q9 vs ns->ns.length<=n->s₁.gens=#[] ->
   Qc (Ù l.prog w) Uk (.call (.ref fa) ⟨[.ref a],[]⟩) (λr s'=>r=.ok (.ret (.bool true))/\OldK s₁.heap s'.heap/\s'.os=s₁.os/\SK s'.gens) s₁) :
  WalkO q loose XP YP l.row.toRowW d [] (λf vs=>Yd f vs):=by
 intro w s₀ s₁ mg mb G Y fa o pm cd doc dV kV ho hd hcd hD hmg hg args vals as hpre hlay hrd hwl hlo;obtain rfl:dV=.none:=Dflts.none hD hdf;obtain rfl:kV=.none:=Dflts.noKw hD;obtain⟨a,vs,ns,rfl,rfl,hobj,hints,hlen⟩:=zp hn hpre hwl;refine enter_call (Rq (call w s₀ s₁ mg mb fa o pm cd doc a vs ns G Y ho (fd_plain hd) hcd hmg hobj hints hlen hg) λr s' hq=>?_);obtain⟨rfl,h2,h3,h4⟩:=hq;exact⟨.inl ⟨.bool true,.bool true,[],rfl,λ_=>rfl,.bool true,zq l _,λ_=>⟨Ym,λ_ hm=>(nomatch hm)⟩⟩,h2,h3,h4⟩
end Att
namespace L2
open PySem PySem.Spec PyProof.Rows
theorem qt:∀ {vs:List Ä}{ns:List Int},Q9 vs ns->Vals (ns.map V.int) vs
 |_,_,.nil=>.nil|_,_,.cons n t h=>.cons ⟨t,rfl⟩ (qt h)
def mW(s:Qm):Arguments:=match s with
 |.FunctionDef _ a _ _ _ _ _ _ _ _=>a|_=>{ posonlyargs:=[],args:=[],vararg:=none,kwonlyargs:=[],kw_defaults:=[],kwarg:=none,defaults:=[] }
def fq(s:Qm):List Stmt:=match s with
 |.FunctionDef _ _ b _ _ _ _ _ _ _=>b|_=>[]
def bq(s:Qm):Scope:=match s with
 |.FunctionDef _ _ _ _ _ _ sc _ _ _=>sc|_=>{ kind:=.function,names:=[],isGenerator:=false,isCoroutine:=false }
abbrev Me:DL:=λ_ _ _ _ _ _=>False
structure Gg(K:PySem.W.Frag)(x qual:Str)(st:Stmt)(f:Addr)(fd:FuncData):Prop where
 ex:∃ (oc:Value) (od:Option Addr) (kV doc pm:Value) (an:Option Addr) (cdv ct:Value) (osl:Array (Option Value)),
  fd=fnOf x qual (mW st) (fq st) (bq st) .none kV doc pm an cdv ct/\K.lookup f=some ⟨oc,od,.func fd,osl⟩/\PySem.W.codeIn K cdv qual=true
 kp:PySem.W.keepIn K (.ref f)=true
section
variable {P:í}{w:ü}{K:Â}{mg:Str->Option Ä}{base:û}
theorem Gg.binds{x qual:Str}{st:Qm}{f:Ë}{fd:Q8}{ps:List Str}(F:Gg K x qual st f fd)
  (h:∀ (kV doc pm:Ä) (an:Option Ë) (cdv ct:Ä) (us:List Ä),us.length=ps.length->bindArgs (fnOf x qual (mW st) (fq st) (bq st) .none kV doc pm an cdv ct) ⟨us,[]⟩=pure (ps.zip us)):Binds K fd ps []:=by
 obtain⟨oc,od,kV,doc,pm,an,cdv,ct,osl,rfl,lk,hcd⟩:=F.ex;exact .all (h kV doc pm an cdv ct)
end
theorem A7{A:p8}{k:Nat}(hr:iy k A):A.units + 1 < cLine:=Q4 (Nat.add_le_add_left (by decide:1<=64) _) hr.units
def ae(H H':Hp):Prop:=∀ b o,H b=some o->H' b=some o
theorem ae.refl(H:Hp):ae H H:=λ_ _ h=>h
theorem ae.trans{H H1 H2:Hp}(a:ae H H1)(b:ae H1 H2):ae H H2:=λc o h=>b c o (a c o h)
end L2
set_option maxHeartbeats 4000000
namespace L2
open PySem
abbrev D8:Ä->É->Prop:=λ_ _=>False
theorem rH(env:Env):∀ (names:List (Str × Q7)) (acc:List (Str × Ë)),(∀ y∈names,y.2=.free->∃ c,env.cells.lookup y.1=some c)->(∀ x c,acc.lookup x=some c->env.cells.lookup x=some c) ->
  ∃ cl:List (Str × Ë),(forIn names acc λ(x:Str × Q7) (r:List (Str × Ë))=>(if (x.2 == .free)=true then do let c ← cellOf env x.1;pure (Sv ((x.1,c)::r)) else pure (Sv r):Sem (ForInStep (List (Str × Ë)))))=pure cl /\
   (∀ x c,cl.lookup x=some c->env.cells.lookup x=some c)/\(∀ x c,acc.lookup x=some c->∃ c',cl.lookup x=some c')/\(∀ y∈names,y.2=.free->∃ c,cl.lookup y.1=some c)
 |[],acc,_,ha=>⟨acc,by simp,ha,λx c e=>⟨c,e⟩,λy hy=>absurd hy (by simp)⟩
 |(n,k)::r,acc,hf,ha=>by
  by_cases hk:k=.free
  ·subst hk;obtain⟨c,hc⟩:=hf (n,.free) Å rfl;have hcell:cellOf env n=pure c:=by unfold cellOf;rw[hc]
   obtain⟨cl,e,h1,h2,h3⟩:=rH env r ((n,c)::acc) (λy hy=>hf y (Æ _ hy)) (λx c' e=>by
    rw[OP] at e;by_cases hx:(x == n)=true
    ·rw[hx] at e;have:x=n:=by simpa using hx
     subst this;cases e;exact hc
    ·rw[show(x == n)=false by simpa using hx] at e
     exact ha x c' e)
   refine⟨cl,?_,h1,λx c' e'=>?_,λy hy hyk=>?_⟩
   ·rw[To];simp only[beq_self_eq_true,if_true,hcell,pure_bind];exact e
   ·by_cases hx:(x == n)=true
    ·exact h2 x c (by rw[OP,hx])
    ·exact h2 x c' (by rw[OP,show(x == n)=false by simpa using hx];exact e')
   ·rcases Û.mp hy with rfl | hy
    ·exact h2 n c (by simp[OP])
    ·exact h3 y hy hyk
  ·obtain⟨cl,e,h1,h2,h3⟩:=rH env r acc (λy hy=>hf y (Æ _ hy)) ha;refine⟨cl,?_,h1,h2,λy hy hyk=>?_⟩
   ·rw[To];have hb:((k == ý)=true)=False:=by simpa using hk
    simp only[hb,if_false,pure_bind];exact e
   ·rcases Û.mp hy with rfl | hy
    ·exact absurd hyk hk
    ·exact h3 y hy hyk
theorem kg(hf:∀ y∈scope.names,y.2=.free->∃ c,env.cells.lookup y.1=some c) :
  ∃ cl:List (Str × Ë),closureFor scope env=pure cl/\(∀ x c,cl.lookup x=some c->env.cells.lookup x=some c)/\(∀ y∈scope.names,y.2=.free->∃ c,cl.lookup y.1=some c):=by
 obtain⟨cl,e,h1,_,h3⟩:=rH env scope.names [] hf (λx c e=>by simp at e)
 refine⟨cl,?_,h1,h3⟩;simp only[closureFor];exact(congrArg (λt=>t >>= λr=>(pure r:Sem _)) e).trans (by simp)
section
variable {P:í}{w:ü}{A:p8}{R:Vh->É->Prop}{s:É}
theorem zr{el tg src:Ö}{tests:List Ö}{sc:ON}{ps:Pos}{itv av:Ä}{en:Env}(J:Nat->É->Prop)
  (turn:∀ n s,J n s->Ú (Ù P w) A (SI itv) (λr s1=>match r with
   |none=>R (.ok .next) s1
   |some v=>Ú (Ù P w) A (RL tg itv v) (λ_ s2=>Ú (Ù P w) A (Rr tg en v) (λ_ s3 =>
     Ú (Ù P w) A (forIn tests true λc r=>if r=true then do let ok ← UD c en (eval c en);pure (Sv ok) else pure (Sv r)) (λok s4 =>
      if ok=true then Ú (Ù P w) A (eval el en) (λx s5 =>
       Ú (Ù P w) A (call (.builtin "list.append") [av,x]) (λ_ s6=>∃ m,m < n/\J m s6) D8 s5) D8 s4
      else ∃ m,m < n/\J m s4) D8 s3) D8 s2) D8 s1) D8 s)
  (n:Nat) (h:J n s) :
  Qc (Ù P w) A (.compLoop (.ListComp el [⟨tg,src,tests,0⟩] sc ps) 0 itv av en) R s:=by
 refine Wg rfl J (λn s hI=>?_) n h;show Ú _ A ((U9 (.ListComp el [⟨tg,src,tests,0⟩] sc ps) 0 itv av en).onRaise (λx=>do VX x en;UR x)) _ _ s;refine WN ?_;rw[compTurn_list];refine À (P5 (À (Pz (turn n s hI) (λr s1 h1=>?_) λ_ _ x=>x.elim)));cases r with
 |none=>exact È h1
 |some v =>
  refine À (Pz h1 (λ_ s2 h2=>?_) λ_ _ x=>x.elim);refine À (Pz h2 (λ_ s3 h3=>À (Pz h3 (λok s4 h4=>?_) λ_ _ x=>x.elim)) λ_ _ x=>x.elim);cases ok with
  |false=>exact È ⟨rfl,h4⟩|true=>exact À (À (Pz h4 (λx s5 h5=>À (Pz h5 (λ_ s6 h6=>È (È ⟨rfl,h6⟩)) λ_ _ x=>x.elim)) λ_ _ x=>x.elim))
end
open PySem PySem.Spec PyProof.Rows
abbrev aV(X:Cx)(N':List Str)(sc:ON)(cl:List (Str × Ë))(C:Ë)(s:É)(H:Hp)(fp:List Ë):Cx :=
 { X with N:=N',s₀:=s,H₀:=H,env:=Vb sc cl C X.env,outer:=X.stack,stack:=X.stack,ex:=fp,fn:=λ_=>false,pn:=[],xe:=D8 }
def a9(own:List Str)(aB:List (Str × Nat)):List Str:=own++aB.map (·.1)
def eO(own:List Str)(aB:List (Str × Nat))(σ:St):St:=own.map (λ_=>none)++aB.map λp=>(σ[p.2]?).getD none
structure fB(X:Cx)(sc:Scope)(own:List Str)(aB:List (Str × Nat)):Prop where
 kind:sc.kind=.function
 nocell:∀ y∈sc.names,y.2≠.cell
 locs:∀ y∈sc.names,y.2=.local->sc.names.lookup y.1=some .local
 frees:∀ y∈sc.names,y.2=.free->X.env.kindOf y.1=some .cell∨X.env.kindOf y.1=some .free
 captd:∀ p∈aB,X.N[p.2]?=some p.1/\sc.names.lookup p.1=some .free
theorem nQ{env:Env}:∀ {names:List (Str × Q7)}{x:Str}{k:Q7},
  (names.map λ(n,k)=>if (k == ý&&env.scope.kind == .function&&env.kindOf n == some .cell) then(n,P7) else(n,k)).lookup x=some k->(k=.cell∨k=.free)->(∀ y∈names,y.2≠.cell)->(x,ý)∈names
 |[],_,_,h,_,_=>by simp at h
 |(n,k0)::r,x,k,h,hk,hn=>by
  have h:Rw x ((if (k0 == ý&&env.scope.kind == .function&&env.kindOf n == some .cell)=true then(n,P7) else(n,k0))::_)=some k:=h;have hn0:k0≠.cell:=hn (n,k0) Å;cases hx:x == n with
  |true =>
   have e:x=n:=by simpa using hx
   subst e;by_cases hc:(k0 == ý&&env.scope.kind == .function&&env.kindOf x == some .cell)=true
   ·have:k0=.free:=by
     cases k0 <;> simp_all
    subst this;exact Å
   ·rw[if_neg hc] at h;simp only[OP,hx] at h;cases h;rcases hk with hk | hk
    ·exact absurd hk hn0
    ·subst hk;exact Å
  |false =>
   have h':(r.map λ(n,k)=>if (k == ý&&env.scope.kind == .function&&env.kindOf n == some .cell) then(n,P7) else(n,k)).lookup x=some k:=by
    by_cases hc:(k0 == ý&&env.scope.kind == .function&&env.kindOf n == some .cell)=true
    ·rw[if_pos hc] at h;simp only[OP,hx] at h;exact h
    ·rw[if_neg hc] at h;simp only[OP,hx] at h;exact h
   exact Æ _ (nQ h' hk λy hy=>hn y (Æ _ hy))
theorem gw{env:Env}:∀ {names:List (Str × Q7)}{x:Str},names.lookup x=some .free ->
  (names.map λ(n,k)=>if (k == ý&&env.scope.kind == .function&&env.kindOf n == some .cell) then(n,P7) else(n,k)).lookup x=some .cell ∨
  (names.map λ(n,k)=>if (k == ý&&env.scope.kind == .function&&env.kindOf n == some .cell) then(n,P7) else(n,k)).lookup x=some .free
 |[],_,h=>by simp at h
 |(n,k)::r,x,h=>by
  have ih:=@gw env r x;show Rw x ((if (k == ý&&env.scope.kind == .function&&env.kindOf n == some .cell)=true then(n,P7) else(n,k))::_)=_∨Rw x ((if (k == ý&&env.scope.kind == .function&&env.kindOf n == some .cell)=true then(n,P7) else(n,k))::_)=_;cases hx:x == n with
  |true =>
   simp only[OP,hx] at h;cases h;by_cases hc:(ý == ý&&env.scope.kind == .function&&env.kindOf n == some .cell)=true
   ·rw[if_pos hc];left;simp only[OP,hx]
   ·rw[if_neg hc];right;simp only[OP,hx]
  |false =>
   simp only[OP,hx] at h;by_cases hc:(k == ý&&env.scope.kind == .function&&env.kindOf n == some .cell)=true
   ·rw[if_pos hc];simp only[OP,hx];exact ih h
   ·rw[if_neg hc];simp only[OP,hx];exact ih h
theorem jr.xK{P:í}{w:ü}{H:Hp}{h:û}{D:Ë}{ys:List V}{ai:List Ä}{n:Nat}(x:jr P w H h)(hn:H D=none)(hv:Vals ys ai)(hz:ys.length<=sizeLine)
  (ho:h.get? D=some { cls:=.type "list",data:=.seq ai.toArray n }):jr P w (upd H D (.lst ys)) h:=λb u e=>by
 by_cases hb:b=D
 ·subst hb;rw[a7] at e;cases e;exact⟨hz,ai,n,hv,ho⟩
 ·rw[ax hb] at e;exact(x b u e).rg (λc v _ q=>q) (λc q=>by rw[ax (aM q hn)];exact q) λc xs q=>by rw[ax (aM q hn)];exact q
def Ho(X:Cx)(tests:List Ö)(t:TT):Prop :=
 ∀ (aa:List (Ë × Obj)) (s:É) (σ:St) (H:Hp) (Q:Bool->Hp->Prop),Inv X aa σ H s->t σ H Q ->
  Ú (Ù X.prog X.w) X.A (forIn tests true λc r=>if r=true then do let ok ← UD c X.env (eval c X.env);pure (Sv ok) else pure (Sv r)) (TP X aa σ Q) X.xe s
def xM:TT:=λ_ H Q=>Q true H
theorem D9:Ho X [] xM:=λ_ _ _ H _ I h=>SM ⟨H,I,h⟩
theorem Ea(hc:PT X c t):Ho X [c] t:=λaa s σ H Q I h=>wpAny_tests_one (hc aa s σ H Q I h)
section
variable {X:Cx}{aa:List (Ë × Obj)}{σ:St}{H2:Hp}{s2:É}{sc:ON}{own:List Str}{aB:List (Str × Nat)}{cl:List (Str × Ë)}{fp:List Ë}{C:Ë}
theorem qu(I:Inv X aa σ H2 s2)(S:fB X sc own aB)(hcl:∀ x c,cl.lookup x=some c->X.env.cells.lookup x=some c)(hcf:∀ y∈sc.names,y.2=.free->∃ c,cl.lookup y.1=some c)
  (hx:∀ x c,X.env.cells.lookup x=some c->c ∉ fp) {h':û} (un:∀ c o,s2.heap.get? c=some o->H2 c=none->c ∉ fp->∃ sl,h'.get? c=some { o with slots:=sl }) (m:Str->Option Ä) :
  ∀ (i:Nat) (x:Str) (v:V),(a9 own aB)[i]?=some x->(eO own aB σ)[i]?=some (some v)->∃ u,RelV v u/\Look (Vb sc cl C X.env) h' m x u:=by
 intro i x v e1 e2;unfold a9 at e1;unfold eO at e2;by_cases hi:i < own.length
 ·rw[QN (by simpa using hi),è] at e2
  cases q:own[i]? with
  |none=>rw[q] at e2;cases e2
  |some y=>rw[q] at e2;cases e2
 ·rw[Pg (by simpa using hi),Ç,è] at e2
  rw[Pg (by simpa using hi),è] at e1
  cases q:aB[i - own.length]? with
  |none=>rw[q] at e1;cases e1
  |some p =>
   rw[q] at e1 e2;obtain rfl:p.1=x:=OV e1;have e3:(σ[p.2]?).getD none=some v:=OV e2;have e4:σ[p.2]?=some (some v):=by
    cases z:σ[p.2]? with
    |none=>rw[z] at e3;cases e3
    |some w=>rw[z] at e3;exact congrArg some e3
   obtain⟨hN,hf⟩:=S.captd p (p5 q);have hmem:(p.1,ý)∈sc.names:=Qf hf;have hk:=S.frees _ hmem rfl;obtain⟨m0,_,hl⟩:=I.loc;have vis:JO X.env.scope p.1:=.inr hk;obtain⟨u,r,lk⟩:=hl p.2 p.1 v hN e4 vis;refine⟨u,r,.inr ⟨?_,?_⟩⟩
   ·exact gw hf
   ·rcases lk with ⟨hl0,_⟩ | ⟨_,c,hc,o,ho,hd⟩
    ·rcases hk with hk | hk <;> (rw[hk] at hl0;cases hl0)
    ·obtain⟨c',hc'⟩:=hcf _ hmem rfl;have:=hcl _ _ hc';rw[hc] at this;cases this;obtain⟨sl,q'⟩:=un c o ho (I.freeC _ _ hc) (hx _ _ hc);exact⟨c,hc',_,q',hd⟩
end
def xN(X:Cx)(aa:List (Ë × Obj))(σ:St)(R:V->Hp->Prop)(acc:Ä)(C:Ë)(s':É):Prop :=
 ∃ D H' m',acc=.ref D/\Inv X aa σ H' s'/\j9 X aa H' C/\s'.heap.Ns C m'/\R (.ref D) H'
def A8(J:It)(σ0:St)(H1:Hp)(g:TG)(tt:TT)(te:TE)(Q:VK):Prop:=∃ W:Nat->Nat->List V->Hp->Prop,(∃ m,W 0 m [] H1)/\∀ i m ys H,W i m ys H ->
 (J.stop i H/\∀ p,H p=none->Q (.ref p) (upd H p (.lst ys))) ∨
 (J.go i H/\ys.length < sizeLine/\∃ N:List V->Hp->Prop,(∀ zs H',N zs H'->∃ m',m' < m/\W (i + 1) m' zs H')/\∀ x H',J.yld i H x H'->g x σ0 H' λσ2 H2=>tt σ2 H2 λb H3 =>
  if b=true then te σ2 H3 (λy H4=>N (ys++[y]) H4) else N ys H3)
def A9(own:List Str)(aB:List (Str × Nat))(wi:TI)(g:TG)(tt:TT)(te:TE):TE:=λσ H Q=>wi σ H λJ H1=>A8 J (eO own aB σ) H1 g tt te Q
section
variable {X:Cx}{aa:List (Ë × Obj)}{σ:St}{H2:Hp}{s2:É}{sc:ON}{own:List Str}{aB:List (Str × Nat)}{cl:List (Str × Ë)}{el tg src:Ö}{tests:List Ö}{ps:Pos}{g:TG}{tt:TT}{te:TE}
theorem nR(hc:X.calm=true)(S:fB X sc own aB)(hcl:∀ x c,cl.lookup x=some c->X.env.cells.lookup x=some c)(hcf:∀ y∈sc.names,y.2=.free->∃ c,cl.lookup y.1=some c)
  (hg:∀ C s H fp,PG (aV X (a9 own aB) sc cl C s H fp) tg g) (ht:∀ C s H fp,Ho (aV X (a9 own aB) sc cl C s H fp) tests tt) (he:∀ C fp,(∀ b∈fp,j9 X aa H2 b)->PE (aV X (a9 own aB) sc cl C s2 H2 fp) el te)
  {it:Ë}{fp:List Ë}{tn:Nat->û->Prop}{J:It} (I2:Inv X aa σ H2 s2) (T:Turn X.prog X.w X.K tg J fp it tn) (st2:tn 0 s2.heap) (f2:∀ b∈fp,j9 X aa H2 b)
  {R:VK} (h:A8 J (eO own aB σ) H2 g tt te R) {RR:Ä->Ë->Vh->É->Prop} (hRR:∀ acc C s',xN X aa σ R acc C s'->RR acc C (.ok .next) s') {E:Ä->É->Prop} :
  Ú (Ù X.prog X.w) X.A (UW []) (λacc s3=>Ú (Ù X.prog X.w) X.A (newFunctionEnv sc X.env.globals cl [] X.env.qual none .none (some X.env)) (λce s4 =>
   Qc (Ù X.prog X.w) X.A (.compStart (.ListComp el [⟨tg,src,tests,0⟩] sc ps) 0 (.ref it) acc { ce with scope:=relabel sc X.env }) (RR acc ce.locals) s4) E s3) E s2:=by
 obtain⟨W,⟨m0,w0⟩,turn⟩:=h;refine My (S6 S.nocell (by intro y hy;simp at hy) (λh1 hns1 hsb1=>?_) S.kind)
 dsimp only at hns1 hsb1 ⊢;generalize hH3:s2.heap.push { cls:=.type "list",dict:=none,data:=.seq ([]:List Ä).toArray }=h3 at hns1 hsb1 ⊢;have hC:h3.objs.size=s2.heap.objs.size + 1:=by rw[← hH3,Qi]
 have below:∀ b,b < s2.heap.objs.size->b≠h3.objs.size/\b≠s2.heap.objs.size:=λb hb=>⟨by omega,by omega⟩
 have hDC:s2.heap.objs.size≠h3.objs.size:=by omega
 have old:∀ b o,s2.heap.get? b=some o->h1.get? b=some o:=λb o e=>hsb1.extBut b o (below b (ë e)).1 (Ã _ (hH3 ▸ Ã _ e));have hacc:h1.get? s2.heap.objs.size=some { cls:=.type "list",data:=.seq ([]:List Ä).toArray 0 }:=hsb1.extBut _ _ hDC (Ã _ (hH3 ▸ Í _ rfl));have fpLt:∀ b∈fp,b < s2.heap.objs.size:=λb hb=>by
  obtain⟨o,e,_⟩:=T.obj _ _ st2 b hb;exact ë e
 have celLt:∀ x c,X.env.cells.lookup x=some c->c < s2.heap.objs.size:=λx c e=>by
  obtain⟨v,o,q,_⟩:=I2.cell x c e;exact ë q
 have frLt:∀ b∈j6 X.stack,b < s2.heap.objs.size:=λb hb=>by
  obtain⟨_,o,q,_⟩:=I2.stack.mem hb;exact ë q
 have celFp:∀ x c,X.env.cells.lookup x=some c->c ∉ fp:=λx c e hb=>(f2 c hb).2.2.2.2.1 x c e rfl;have fpFr:∀ b∈fp,b ∉ j6 X.stack:=λb hb hf=>by
  rcases Û.mp (I2.vP b hf) with z | z
  ·exact(f2 b hb).2.1 z
  ·exact(f2 b hb).2.2.1 z
 have okX:(aV X (a9 own aB) sc cl h3.objs.size s2 H2 fp).Ok:=by
  refine⟨I2.ok.mod,S.kind,I2.ok.glob,I2.ok.blt,(by show s2.heap.objs.size<=h3.objs.size;omega),λx y c e1 e2=>I2.ok.inj x y c (hcl x c e1) (hcl y c e2),λx hx=>?_,λx c hx=>(by cases hx),I2.ok.hd,I2.ok.frames,.inl rfl,
   λb hb=>⟨(below b (fpLt b hb)).1,λx c e z=>celFp x c (hcl x c e) (z ▸ hb)⟩,I2.bs,ã I2.ok.bsz I2.sz,λb o e hb=>?_,fpFr,I2.stack,I2.rj⟩
  ·have hx':(x,ý)∈sc.names:=by
    rcases hx with hx | hx
    ·exact nQ hx (.inl rfl) S.nocell
    ·exact nQ hx (.inr rfl) S.nocell
   exact hcf _ hx' rfl
  ·rcases (f2 b hb).2.2.2.1 with z | z
   ·exact I2.ok.noex b o e z
   ·have l1:b < X.base.objs.size:=ë e;have l2:X.base.objs.size<=X.s₀.heap.objs.size:=I2.ok.bsz;have l3:X.s₀.heap.objs.size<=b:=z;exact absurd l1 (Wn.mpr (ã l2 l3))
 have reset:∀ {pl:List (Ë × Obj)}{σ':St}{H':Hp}{s':É},Inv (aV X (a9 own aB) sc cl h3.objs.size s2 H2 fp) pl σ' H' s'->Inv (aV X (a9 own aB) sc cl h3.objs.size s2 H2 fp) pl (eO own aB σ) H' s':=λ{pl σ' H' s'} I'=>by
  obtain⟨m,hn,_⟩:=I'.loc;refine⟨I'.ok,I'.os,I'.bare,I'.base,⟨m,hn,λi x v e1 e2 _=>qu I2 S hcl hcf celFp (λc o q n hx=>I'.base.any q n hx) m i x v e1 e2⟩,I'.cell,I'.free,I'.freeC,I'.pin,I'.bx,?_⟩;show(eO own aB σ).length=(a9 own aB).length;simp[eO,a9]
 have start:Inv (aV X (a9 own aB) sc cl h3.objs.size s2 H2 fp) [(s2.heap.objs.size,{ cls:=.type "list",data:=.seq ([]:List Ä).toArray 0 })] (eO own aB σ) H2 { s2 with heap:=h1,toks:=s2.toks + ([]:List (Str × Ä)).length }:=by
  refine⟨okX,rfl,I2.bare,Un.kept old,⟨_,hns1,λi x v e1 e2 _=>qu I2 S hcl hcf celFp (λc o q _ _=>⟨o.slots,old c o q⟩) _ i x v e1 e2⟩,λx c e=>?_,?_,λx c e=>I2.freeC x c (hcl x c e),λp hp=>?_,I2.bx.kept old,?_⟩
  ·obtain⟨v,q⟩:=I2.cell x c (hcl x c e);exact⟨v,q.keeps old⟩
  ·exact I2.bx.fresh (by show s2.heap.objs.size<=h3.objs.size;omega)
  ·have hp':p=(s2.heap.objs.size,{ cls:=.type "list",data:=.seq ([]:List Ä).toArray 0 }):=by simpa using hp
   subst hp';exact⟨hacc,I2.bx.fresh (Ô _),hDC,λz=>O1 _ (frLt _ z),λv z=>by cases z⟩
  ·show(eO own aB σ).length=(a9 own aB).length;simp[eO,a9]
 have ly:∀ {pl:List (Ë × Obj)}{H':Hp},(∀ p∈pl,p.1 ∉ fp)->(∀ b∈fp,H' b=none)->∀ b∈fp,j9 (aV X (a9 own aB) sc cl h3.objs.size s2 H2 fp) pl H' b:=λ{pl H'} hp hn b hb =>
  ⟨hn b hb,(below b (fpLt b hb)).1,fpFr b hb,.inl hb,λx c e z=>celFp x c (hcl x c e) (z ▸ hb),λp hpp z=>hp p (by simpa using hpp) (z ▸ hb)⟩
 have hDfp:s2.heap.objs.size ∉ fp:=λz=>O1 _ (fpLt _ z);have loop:∀ s3:É,s3={ s2 with heap:=h1,toks:=s2.toks + ([]:List (Str × Ä)).length } ->
   Qc (Ù X.prog X.w) X.A (.compLoop (.ListComp el [⟨tg,src,tests,0⟩] sc ps) 0 (.ref it) (.ref s2.heap.objs.size) (Vb sc cl h3.objs.size X.env)) (RR (.ref s2.heap.objs.size) h3.objs.size) s3:=by
  rintro s3 rfl;refine zr (λn s'=>∃ i ys H' ai k,Inv (aV X (a9 own aB) sc cl h3.objs.size s2 H2 fp) [(s2.heap.objs.size,{ cls:=.type "list",data:=.seq (TC ai) k })] (eO own aB σ) H' s'/\tn i s'.heap/\(∀ b∈fp,H' b=none)/\Vals ys ai/\ys.length<=sizeLine/\W i n ys H') ?_ m0
   ⟨0,[],H2,[],0,start,T.keep _ _ _ st2 λb _ o e=>old b o e,λb hb=>(f2 b hb).1,.nil,PQ _,w0⟩
  rintro n s' ⟨i,ys,H',ai,k,I',st',fr',hv,hz,w'⟩;have pinD:∀ p∈[((s2.heap.objs.size:Ë),({ cls:=.type "list",data:=.seq (TC ai) k }:Obj))],p.1 ∉ fp:=λp hp=>by
   have hp':p=(s2.heap.objs.size,{ cls:=.type "list",data:=.seq (TC ai) k }):=by simpa using hp
   subst hp';exact hDfp
  rcases turn i n ys H' w' with ⟨stop,q⟩ | ⟨go,hlt,N,hN,step⟩
  ·refine b8 (T.done (aV X (a9 own aB) sc cl h3.objs.size s2 H2 fp) rfl rfl rfl hc i _ s' _ H' D8 I' (ly pinD fr') st' stop) λr s1 hr=>?_;obtain⟨hr,I1⟩:=hr;subst hr;obtain⟨gD,nD,_,_,_⟩:=I1.pin _ (Ò _ Å);obtain⟨m',hn',_⟩:=id I1.loc;have un:Un (j6 X.stack) fp H2 (upd H' s2.heap.objs.size (.lst ys)) s2.heap s1.heap:=by
    have u:=I1.base;have nD2:H2 s2.heap.objs.size=none:=I2.bx.fresh (Ô _);refine⟨u.keep,u.slot,λb o e n hx=>?_,u.there,λb xs e=>?_,λb o xs e=>?_,λb ps' e=>?_⟩
    ·rw[ax (below b (ë e)).2];exact u.free b o e n hx
    ·rw[ax (aM e nD2)];exact u.tups b xs e
    ·rw[ax (aM e nD2)];exact u.frzs b o xs e
    ·obtain⟨more,e'⟩:=u.tbls b ps' e;exact⟨more,by rw[ax (aM e nD2)];exact e'⟩
   have IX:Inv X aa σ (upd H' s2.heap.objs.size (.lst ys)) s1:=I2.JP I1.os un (I1.bx.xK nD hv hz gD) I1.bare λb hb=>⟨(f2 b hb).2.2.2.1,(f2 b hb).2.1,(f2 b hb).2.2.2.2.1,(f2 b hb).2.2.2.2.2⟩;refine hRR _ _ _ ⟨_,_,m',rfl,IX,?_,hn',q _ nD⟩;exact I2.ly ∅ (by rw[ax hDC.symm];exact I1.free)
  ·refine b8 (T.item (aV X (a9 own aB) sc cl h3.objs.size s2 H2 fp) rfl rfl rfl hc i _ s' _ H' D8 I' (ly pinD fr') st' go) λr s1 hr=>?_;obtain⟨u,hr,h4⟩:=hr;subst hr;refine b8 h4 λ_ s5 hr5=>?_;obtain⟨x,H5,I5,r5,y5,st5,fr5⟩:=hr5;have I5p:=I5.pinned (ly pinD fr5) (T.obj _ _ st5);refine b8 (hg _ _ _ _ _ s5 _ H5 x u _ I5p r5 (step x H5 y5)) λ_ s6 hr6=>?_;obtain⟨σ6,H6,I6,q6⟩:=hr6;refine b8 (ht _ _ _ _ _ s6 σ6 H6 _ I6 q6) λok s7 hr7=>?_;obtain⟨H7,I7,q7⟩:=hr7;have memFp:∀ {pl:List (Ë × Obj)}{b:Ë}{o:Obj},b∈fp->s5.heap.get? b=some o->(b,o)∈([]:List (Ë × Obj))++(pl++jE fp s5.heap):=λhb e=>Ò _ (Ò _ (eL hb e));cases ok with
   |false =>
    rw[if_neg Õ] at q7 ⊢;obtain⟨m',hm,w7⟩:=hN _ _ q7;refine⟨m',hm,i + 1,ys,H7,ai,k,reset (I7.j7 λp hp=>I7.pin p (Ò _ (ç _ hp))),T.keep _ _ _ st5 λb hb o e=>(I7.pin (b,o) (memFp hb e)).1,λb hb=>?_,hv,hz,w7⟩;obtain⟨o,e,_⟩:=T.obj _ _ st5 b hb;exact(I7.pin (b,o) (memFp hb e)).2.1
   |true =>
    rw[if_pos rfl] at q7 ⊢;refine b8 (he _ _ f2 _ s7 σ6 H7 _ I7 q7) λuv s8 hr8=>?_;obtain⟨y,H8,I8,r8,q8⟩:=hr8;obtain⟨m',hm,w8⟩:=hN _ _ q8;obtain⟨gD,nD,dC,dF,_⟩:=I8.pin _ (Ò _ (ç _ Å));refine append_at gD (λh9 sb hD9=>?_) (by show(TC ai).size<=sizeLine;rw[ß,← hv.length];exact hz)
    have I8a:Inv (aV X (a9 own aB) sc cl h3.objs.size s2 H2 fp) (jE fp s5.heap) σ6 H8 s8:=I8.j7 λp hp=>I8.pin p (Ò _ (Ò _ hp));have I9:Inv (aV X (a9 own aB) sc cl h3.objs.size s2 H2 fp) (jE fp s5.heap) σ6 H8 { s8 with heap:=h9 }:=I8a.turned (t':=s8.toks) (λb o hb e=>(sb.2 b hb).trans e) nD dC (.inr (Ô _))
     (λx c e z=>O1 s2.heap.objs.size (by have:=celLt x c (hcl x c e);rw[z] at this;exact this)) (λp hp z=>hDfp (z ▸ (qj (by simpa using hp)).1))
    rw[Tr] at hD9;refine⟨m',hm,i + 1,ys++[y],H8,ai++[uv],k + 1,(reset I9).j7 λp hp=>?_,T.keep _ _ _ st5 λb hb o e=>?_,λb hb=>?_,hv.append (.cons r8 .nil),by rw[Ü];exact hlt,w8⟩
    ·have hp':p=(s2.heap.objs.size,{ cls:=.type "list",data:=.seq (TC (ai++[uv])) (k + 1) }):=by simpa using hp
     subst hp';exact⟨hD9,nD,dC,dF,λv z=>by cases z⟩
    ·exact(I9.pin (b,o) (Ò _ (eL hb e))).1
    ·obtain⟨o,e,_⟩:=T.obj _ _ st5 b hb;exact(I9.pin (b,o) (Ò _ (eL hb e))).2.1
 exact Wh (loop _ rfl) (T.self _ 0 _ _ _ (T.keep _ _ _ st2 λb _ o e=>old b o e) (loop _ rfl))
end
section
variable {X:Cx}{sc:ON}{own:List Str}{aB:List (Str × Nat)}{el tg src:Ö}{tests:List Ö}{ps pos:Pos}{wi:TI}{g:TG}{tt:TT}{te:TE}
theorem Eb(hc:X.calm=true)(S:fB X sc own aB)(hi:PI X tg src wi)(hg:∀ cl C s H fp,PG (aV X (a9 own aB) sc cl C s H fp) tg g)
  (ht:∀ cl C s H fp,Ho (aV X (a9 own aB) sc cl C s H fp) tests tt) (he:∀ cl C s H fp,PE (aV X (a9 own aB) sc cl C s H fp) el te)
  (hs:∀ x,Pn src X.env x=pure x:=by intro _;rfl):PE X (.ListComp el [⟨tg,src,tests,0⟩] sc ps) (A9 own aB wi g tt te):=by
 intro aa s σ H Q I h;obtain⟨cl,hclos,hcl,hcf⟩:=kg (scope:=sc) (env:=X.env) λy hy hk=>I.ok.has y.1 (S.frees y hy hk);rw[eval_ListComp];refine Qh (use:=none) rfl hs hclos S.kind S.locs (b8 (hi aa s σ H _ I h) λv s1 h1=>b8 h1 λitv s2 h2=>?_);obtain⟨it,fp,tn,J,H2,e,I2,T,st2,f2,hw⟩:=h2;subst e;refine nR hc S hcl hcf (hg cl) (ht cl) (λC fp _=>he cl C _ _ fp) I2 T st2 f2 hw (RR:=λacc C=>Va (Ù X.prog X.w) X.A X.xe none (EP X aa σ Q) acc C) λacc C s' hf=>?_;obtain⟨D,H',m',rfl,I',f',ns',r⟩:=hf;exact⟨m',ns',λh' sb=>⟨.ref D,H',I'.turned (t':=s'.toks) (λb o hb e=>(sb.2 b hb).trans e) f'.1 f'.2.1 f'.2.2.2.1 f'.2.2.2.2.1 f'.2.2.2.2.2,rfl,r⟩⟩
theorem Ec{i:Nat}{y:Str}{py:Pos}(hN:X.N.Nodup)(hiN:X.N[i]?=some y)(hy:Loc X.env.scope y)(hsw:Rf (.ListComp el [⟨tg,src,tests,0⟩] sc ps) (some (.Name y py)) pos.line X.env=pure true)
  (hc:X.calm=true) (S:fB X sc own aB) (hi:PI X tg src wi) (hg:∀ cl C s H fp,PG (aV X (a9 own aB) sc cl C s H fp) tg g)
  (ht:∀ cl C s H fp,Ho (aV X (a9 own aB) sc cl C s H fp) tests tt) (he:∀ cl C s H fp,PE (aV X (a9 own aB) sc cl C s H fp) el te)
  (hs:∀ x,Pn src X.env x=pure x:=by intro _;rfl) (hf:X.fn y=true∨X.env.scope.names.lookup y=some .local:=by first | exact .inl rfl | exact .inr rfl | assumption) :
  PS X (.Assign [.Name y py] (.ListComp el [⟨tg,src,tests,0⟩] sc ps) pos) (vR (A9 own aB wi g tt te) (j8 i)):=by
 intro aa s σ H D I h;obtain⟨cl,hclos,hcl,hcf⟩:=kg (scope:=sc) (env:=X.env) λy hy hk=>I.ok.has y.1 (S.frees y hy hk);rw[WC _ _ _ _ hsw];refine À (P5 (À ?_));show Ú _ X.A (do let _ ← comprehension (.ListComp el [⟨tg,src,tests,0⟩] sc ps) sc X.env _ (UW []) false (eval src X.env) (some (Rr (.Name y py) X.env))) _ _ s;refine À (Pz (Qh (use:=some (Rr (.Name y py) X.env)) (Q:=λ_ s'=>SP X aa D .next s') rfl hs hclos S.kind S.locs
  (b8 (hi aa s σ H _ I h) λv s1 h1=>b8 h1 λitv s2 h2=>?_)) (λ_ s' hq=>È (È hq)) λ_ _ e=>e)
 obtain⟨it,fp,tn,J,H2,e,I2,T,st2,f2,hw⟩:=h2;subst e;refine nR hc S hcl hcf (hg cl) (ht cl) (λC fp _=>he cl C _ _ fp) I2 T st2 f2 hw (RR:=λacc C=>Va (Ù X.prog X.w) X.A X.xe (some (Rr (.Name y py) X.env)) (λ_ s'=>SP X aa D .next s') acc C) λacc C s' hfn=>?_;obtain⟨DA,H',m',rfl,I',f',ns',r⟩:=hfn;show Ú _ X.A (Rr (.Name y py) X.env (.ref DA)) _ _ _;refine QH (lu (v:=.ref DA) I' hN hiN hy rfl (λs3 I3 ha=>?_) hf);obtain⟨a,sb,ha⟩:=ha;have hCa:C≠a:=λz=>by
  rcases ha with q | q
  ·exact f'.2.1 (z.trans q)
  ·exact f'.2.2.2.2.1 _ _ q z.symm
 exact⟨m',ns'.sameBut sb hCa,λh' sb'=>⟨_,H',I3.turned (t':=s3.toks) (λb o hb e=>(sb'.2 b hb).trans e) f'.1 f'.2.1 f'.2.2.2.1 f'.2.2.2.2.1 f'.2.2.2.2.2,r⟩⟩
end
end L2
namespace L2
open PySem
section
variable {P:í}{w:ü}{A:p8}{E:Ä->É->Prop}{s:É}
theorem gx{r t:Ë}{k:Nat}{vs:Array Ä}{x:Ä}{Q:Ä->É->Prop}(hr:s.heap.IsTupleIter r t k)(ht:s.heap.IsTuple t vs)(hx:vs[k]?=some x)
  (hQ:∀ h',h'.IsTupleIter r t (k + 1)->Tt r s.heap h'->Q x { s with heap:=h' }):Ú (Ù P w) A (Ti (.ref r)) Q E s:=by
 obtain⟨o,ho,hc,hd⟩:=id hr;obtain⟨ot,hot,_,nt,hdt⟩:=ht;unfold Ti;refine À (PL (name:=O8 "__next__") hr.typeIs QO (Qq QO hr.typeIs UN ?_ (UJ _)));show Ú _ _ (VY (.ref r) 0 >>= _) _ _ s;refine À (Pe ho hd (x:=.ref t) rfl ?_);show Ú _ _ (if (Pf t == ð)=true then _ else _) _ _ s;rw[if_neg (show ¬ ((Pf t == ð)=true) from Õ)];show Ú _ _ (VY (.ref r) 1 >>= _) _ _ s;refine À (Pe ho hd (x:=.int k 0) rfl ?_);show Ú _ _ (seqItems? (.ref t) >>= _) _ _ s;refine À (Qp hot hdt ?_);simp only[PY,hx];refine À (wpAny_setField ho hd (by simp) (È ⟨x,rfl,È (hQ _ ⟨_,Su _ ho (Obj.isFreed_of_fields (Wl hd _)),(Obj.cls_mapFields ..).trans hc,by rw[Wl hd];simp[U7]⟩ (P6 ..))⟩))
theorem fC{r t:Ë}{k:Nat}{vs:Array Ä}{Q:Ä->É->Prop}(hh:A.handled=none)(hr:s.heap.IsTupleIter r t k)(ht:s.heap.IsTuple t vs)(hx:vs[k]?=none)
  (hE:∀ h' e,û.ExtBut r s.heap h'->(∃ o,h'.get? e=some o/\o.cls=.type "StopIteration")->E (.ref e) { s with heap:=h' }):Ú (Ù P w) A (Ti (.ref r)) Q E s:=by
 obtain⟨o,ho,hc,hd⟩:=id hr;obtain⟨ot,hot,_,nt,hdt⟩:=ht;unfold Ti;refine À (PL (name:=O8 "__next__") hr.typeIs QO (Qq QO hr.typeIs UN ?_ (UJ _)));show Ú _ _ (VY (.ref r) 0 >>= _) _ _ s;refine À (Pe ho hd (x:=.ref t) rfl ?_);show Ú _ _ (if (Pf t == ð)=true then _ else _) _ _ s;rw[if_neg (show ¬ ((Pf t == ð)=true) from Õ)];show Ú _ _ (VY (.ref r) 1 >>= _) _ _ s;refine À (Pe ho hd (x:=.int k 0) rfl ?_);show Ú _ _ (seqItems? (.ref t) >>= _) _ _ s;refine À (Qp hot hdt ?_);simp only[PY,hx];refine À (Qy (À (wpAny_setField ho hd (by simp) ?_)));show Ú _ _ (newExc (.type "StopIteration") [] >>= _) _ _ _
 refine À ?_;simp only[newExc,newTuple];refine À (My ?_ (by size_fits));refine À (m:=firstArgMember _ _) (WM (a:=ð) (by first | rfl | (simp only[firstArgMember];rfl)) ?_)
 refine My ?_ (by size_fits);simp only[raiseNew];refine À (wpAny_handled ?_)
 first | rw[show A.in1.handled=none from hh] | rw[hh]
 refine À (È (wpAny_throw (hE _ _ (((P6 ..).extBut.push _).push _) ⟨_,Í _ rfl,rfl⟩)))
theorem zt{z TI TO i1 i2 l1 l2:Ë}{k:Nat}{xs ys:Array Ä}{x y a b:Ä}{Q:Option Ä->É->Prop}(D:Vd z TI TO i1 i2 l1 l2)(hz:R8 s.heap z TI TO .none)
  (hTI:Qb s.heap TI (.ref i1) (.ref i2)) (hTO:Qb s.heap TO a b) (h1:s.heap.IsTupleIter i1 l1 k) (h2:s.heap.IsTupleIter i2 l2 k) (hl1:s.heap.IsTuple l1 xs) (hl2:s.heap.IsTuple l2 ys)
  (hx:xs[k]?=some x) (hy:ys[k]?=some y)
  (hQ:∀ h',R8 h' z TI TO (U7 s.heap.objs.size)->Qb h' TO x y->h'.IsTupleIter i1 l1 (k + 1)->h'.IsTupleIter i2 l2 (k + 1)->Qb h' s.heap.objs.size x y->h'.objs.size=s.heap.objs.size + 1 ->
   (∀ c o,c≠z->c≠TO->c≠i1->c≠i2->s.heap.get? c=some o->h'.get? c=some o)->Q (some (.ref s.heap.objs.size)) { s with heap:=h' }):Ú (Ù P w) A (SI (.ref z)) Q E s:=by
 have hT:s.TypeIs (.ref z) "zip":=⟨_,hz,rfl⟩;unfold SI;refine À (VE (PL (name:=O8 "__next__") hT SE (Qq SE hT XB ?_ (Xn _))));show Ú _ _ (VY (.ref z) 2 >>= _) _ _ _;refine À (Pe hz rfl (x:=.bool false) rfl ?_);show Ú _ _ (VY (.ref z) 3 >>= _) _ _ _;refine À (Pe hz rfl (x:=.ref TI) rfl ?_);refine À (Qp hTI rfl ?_);show Ú _ _ (Rv (.ref z) >>= _) _ _ _;refine À ?_;unfold Rv;refine À (Pe hz rfl (x:=.none) rfl (È ?_));simp only[if_true];refine À (Qy (À (Pe hz rfl (x:=.ref TO) rfl (À (Qx hz (by simp) λg1 z1 e1=>?_)))))
 replace z1:R8 g1 z TI TO .ellipsis:=z1
 refine À ?_;simp only[WI,W5,To,Xh];refine À (À (Tx ?_));show Ú _ _ (Ti (.ref i1) >>= _) _ _ _;refine À (gx (h1.extBut e1.extBut D.i1z) (hl1.extBut e1.extBut D.l1z) hx λg2 r2 e2=>È ?_);have t2:Qb g2 TO a b:=e2.extBut _ _ D.TOi1 (e1.extBut _ _ D.TOz hTO);refine À (Qp t2 rfl (À (S5 t2 λg3 t3 e3=>?_)))
 replace t3:Qb g3 TO x b:=t3
 refine À (WO (È ?_));refine À (À (Tx ?_));show Ú _ _ (Ti (.ref i2) >>= _) _ _ _;refine À (gx (((h2.extBut e1.extBut D.i2z).extBut e2.extBut D.i12.symm).extBut e3.extBut D.TOi2.symm) (((hl2.extBut e1.extBut D.l2z).extBut e2.extBut D.l2i1).extBut e3.extBut D.l2TO) hy λg4 r4 e4=>È ?_);have t4:Qb g4 TO x b:=e4.extBut _ _ D.TOi2 t3;refine À (Qp t4 rfl (À (S5 t4 λg5 t5 e5=>?_)))
 replace t5:Qb g5 TO x y:=t5
 refine À (WO (È (È ?_)));refine À (Qp t5 rfl (À (wpAny_newTuple ?_)));have sz:g5.objs.size=s.heap.objs.size:=by rw[e5.1,e4.1,e3.1,e2.1,e1.1]
 have z5:R8 g5 z TI TO .ellipsis:=e5.extBut _ _ D.TOz.symm (e4.extBut _ _ D.i2z.symm (e3.extBut _ _ D.TOz.symm (e2.extBut _ _ D.i1z.symm z1)));have kp:∀ c o,c≠z->c≠TO->c≠i1->c≠i2->s.heap.get? c=some o->g5.get? c=some o:=λc o c1 c2 c3 c4 e=>e5.extBut _ _ c2 (e4.extBut _ _ c4 (e3.extBut _ _ c2 (e2.extBut _ _ c3 (e1.extBut _ _ c1 e))));have r1:g5.IsTupleIter i1 l1 (k + 1):=((r2.extBut e3.extBut D.TOi1.symm).extBut e4.extBut D.i12).extBut e5.extBut D.TOi1.symm;have r5:g5.IsTupleIter i2 l2 (k + 1):=r4.extBut e5.extBut D.TOi2.symm;have zl:z < g5.objs.size:=ë z5;show Ú _ _ (TH (.ref z) (.ref g5.objs.size) >>= _) _ _ _;refine À ?_;unfold TH;have z6:R8 (g5.push { cls:=.type "tuple",data:=.seq #[x,y] }) z TI TO .ellipsis:=Ã _ z5;refine À (Qx z6 (by simp) λg7 z7 e7=>?_)
 replace z7:R8 g7 z TI TO (U7 g5.objs.size):=z7
 refine Qx z7 (by simp) λg8 z8 e8=>?_
 replace z8:R8 g8 z TI TO (U7 g5.objs.size):=z8
 have up:∀ c o,c≠z->g5.get? c=some o->g8.get? c=some o:=λc o c1 e=>e8.extBut _ _ c1 (e7.extBut _ _ c1 (Ã _ e));have t8:Qb g8 g5.objs.size x y:=e8.extBut _ _ (SO zl) (e7.extBut _ _ (SO zl) (Í _ rfl));have s8:g8.objs.size=g5.objs.size + 1:=by rw[e8.1,e7.1,Qi]
 rw[sz] at z8 t8 s8;refine È ⟨_,rfl,?_⟩;refine È ?_;show Q (some (.ref g5.objs.size)) _;rw[sz];exact hQ g8 z8 (up _ _ D.TOz t5) (by obtain⟨o,ho,q⟩:=r1;exact⟨o,up _ o D.i1z ho,q⟩) (by obtain⟨o,ho,q⟩:=r5;exact⟨o,up _ o D.i2z ho,q⟩) t8 s8 λc o c1 c2 c3 c4 e=>up c o c1 (kp c o c1 c2 c3 c4 e)
theorem Ba{z TI TO i1 i2 l1 l2:Ë}{k:Nat}{xs ys:Array Ä}{a b:Ä}{Q:Option Ä->É->Prop}(hh:A.handled=none)(D:Vd z TI TO i1 i2 l1 l2)(hz:R8 s.heap z TI TO .none)
  (hTI:Qb s.heap TI (.ref i1) (.ref i2)) (hTO:Qb s.heap TO a b) (h1:s.heap.IsTupleIter i1 l1 k) (h2:s.heap.IsTupleIter i2 l2 k) (hl1:s.heap.IsTuple l1 xs) (hl2:s.heap.IsTuple l2 ys)
  (hend:xs[k]?=none∨ys[k]?=none) (hQ:∀ h',(∀ c o,c≠z->c≠TO->c≠i1->c≠i2->s.heap.get? c=some o->h'.get? c=some o)->Q none { s with heap:=h' }):Ú (Ù P w) A (SI (.ref z)) Q E s:=by
 have hT:s.TypeIs (.ref z) "zip":=⟨_,hz,rfl⟩;have fin:∀ (h':û) (e:Ë),(∀ c o,c≠z->c≠TO->c≠i1->c≠i2->s.heap.get? c=some o->h'.get? c=some o)->(∃ o,h'.get? e=some o/\o.cls=.type "StopIteration") ->
   Ú (Ù P w) A (isInstance (.ref e) (.type "StopIteration") >>= λb=>if b=true then pure none else throw (.ref e)) Q E { s with heap:=h' }:=λh' e kp he=>by
  obtain⟨o,ho,hc⟩:=he;exact À (wpAny_isInstance (T:="StopIteration") (b:=true) ⟨o,ho,hc⟩ isSubtype_stop (È (hQ _ kp)))
 unfold SI;refine À (VE (PL (name:=O8 "__next__") hT SE (Qq SE hT XB ?_ (Xn _))));show Ú _ _ (VY (.ref z) 2 >>= _) _ _ _;refine À (Pe hz rfl (x:=.bool false) rfl ?_);show Ú _ _ (VY (.ref z) 3 >>= _) _ _ _;refine À (Pe hz rfl (x:=.ref TI) rfl ?_);refine À (Qp hTI rfl ?_);show Ú _ _ (Rv (.ref z) >>= _) _ _ _;refine À ?_;unfold Rv;refine À (Pe hz rfl (x:=.none) rfl (È ?_));simp only[if_true];refine À (Qy (À (Pe hz rfl (x:=.ref TO) rfl (À (Qx hz (by simp) λg1 z1 e1=>?_)))))
 replace z1:R8 g1 z TI TO .ellipsis:=z1
 refine À ?_;simp only[WI,W5,To,Xh];refine À (À (Tx ?_));show Ú _ _ (Ti (.ref i1) >>= _) _ _ _;cases hx:xs[k]? with
 |none =>
  refine À (fC hh (h1.extBut e1.extBut D.i1z) (hl1.extBut e1.extBut D.l1z) hx λg2 e e2 he=>?_);obtain⟨oe,hoe,hce⟩:=he;have z2:R8 g2 z TI TO .ellipsis:=e2 _ _ D.i1z.symm z1;have hez:e≠z:=λq=>by subst q;rw[z2] at hoe;cases hoe;simp at hce
  exact Qx z2 (by simp) λg3 _ e3=>fin g3 e (λc o c1 _ c3 _ q=>e3.extBut _ _ c1 (e2 _ _ c3 (e1.extBut _ _ c1 q))) ⟨oe,e3.extBut _ _ hez hoe,hce⟩
 |some x =>
  have hy:ys[k]?=none:=by rcases hend with q | q;rw[hx] at q;cases q;exact q
  refine À (gx (h1.extBut e1.extBut D.i1z) (hl1.extBut e1.extBut D.l1z) hx λg2 r2 e2=>È ?_);have t2:Qb g2 TO a b:=e2.extBut _ _ D.TOi1 (e1.extBut _ _ D.TOz hTO);refine À (Qp t2 rfl (À (S5 t2 λg3 t3 e3=>?_)));refine À (WO (È ?_));refine À (À (Tx ?_));show Ú _ _ (Ti (.ref i2) >>= _) _ _ _;refine À (fC hh (((h2.extBut e1.extBut D.i2z).extBut e2.extBut D.i12.symm).extBut e3.extBut D.TOi2.symm) (((hl2.extBut e1.extBut D.l2z).extBut e2.extBut D.l2i1).extBut e3.extBut D.l2TO) hy λg4 e e4 he=>?_);obtain⟨oe,hoe,hce⟩:=he;have z4:R8 g4 z TI TO .ellipsis:=e4 _ _ D.i2z.symm (e3.extBut _ _ D.TOz.symm (e2.extBut _ _ D.i1z.symm z1));have hez:e≠z:=λq=>by subst q;rw[z4] at hoe;cases hoe;simp at hce
  exact Qx z4 (by simp) λg5 _ e5=>fin g5 e (λc o c1 c2 c3 c4 q=>e5.extBut _ _ c1 (e4 _ _ c4 (e3.extBut _ _ c2 (e2.extBut _ _ c3 (e1.extBut _ _ c1 q))))) ⟨oe,e5.extBut _ _ hez hoe,hce⟩
abbrev Mf(h:û)(l1:Ë):Heap:=h.push { cls:=.type "tuple_iterator",data:=.fields #[.ref l1,.int 0 0] }
abbrev Mg(h:û)(l1 l2:Ë):Heap:=(Mf h l1).push { cls:=.type "tuple_iterator",data:=.fields #[.ref l2,.int 0 0] }
abbrev Mh(h:û)(l1 l2:Ë):Heap:=(Mg h l1 l2).push { cls:=.type "tuple",data:=.seq #[.ref h.objs.size,.ref (Mf h l1).objs.size] }
abbrev Mi(h:û)(l1 l2:Ë):Heap:=(Mh h l1 l2).push { cls:=.type "tuple",data:=.seq #[.none,.none] }
abbrev JI(h:û)(l1 l2:Ë):Heap:=(Mi h l1 l2).push { cls:=.type "zip",data:=.fields #[.none,.bool false,.bool false,.ref (Mg h l1 l2).objs.size,.ref (Mh h l1 l2).objs.size] }
theorem vY(l1 l2:Ë)(xs ys:Array Ä) :
  UM (Ra.«zip.__new__» ⟨[.type "zip",.ref l1,.ref l2],[]⟩) (λ_ R s=>s.heap.IsTuple l1 xs/\s.heap.IsTuple l2 ys/\R (.ok (.ret (.ref (Mi s.heap l1 l2).objs.size))) { s with heap:=JI s.heap l1 l2 }) :=
 .of_wp λP w A R s h=>by
  obtain⟨hp,g,d,tk,os⟩:=s;obtain⟨hl1,hl2,h⟩:=h;have hsub:=sub_zip;have hL1:Sl (UY ⟨hp,g,d,tk,os⟩) l1 xs:=hl1;have hL2:Sl (UY ⟨hp.push { cls:=.type "tuple_iterator",data:=.fields #[.ref l1,.int 0 0] },g,d,tk,os⟩) l2 ys:=YA hl2 _
  wp_walk using Py hL1,Py hL2
  exact⟨_,rfl,h⟩
theorem zu{l1 l2:Ë}{xs ys:Array Ä}{Q:Ä->É->Prop}(hl1:s.heap.IsTuple l1 xs)(hl2:s.heap.IsTuple l2 ys)
  (h:∀ h',R8 h' (s.heap.objs.size + 4) (s.heap.objs.size + 2) (s.heap.objs.size + 3) .none->Qb h' (s.heap.objs.size + 2) (.ref s.heap.objs.size) (.ref (s.heap.objs.size + 1))->Qb h' (s.heap.objs.size + 3) .none .none ->
   h'.IsTupleIter s.heap.objs.size l1 0->h'.IsTupleIter (s.heap.objs.size + 1) l2 0->(∀ c o,s.heap.get? c=some o->h'.get? c=some o)->Q (.ref (s.heap.objs.size + 4)) { s with heap:=h' }) :
  Ú (Ù P w) A (call (.type "zip") [.ref l1,.ref l2]) Q E s:=by
 refine callType_new F.called_zip (-0) (F.typeCall_zip_2 _ _) (F.newCall_zip_2 _ _) (λobj=>F.args_object_init_3 obj _ _) F.entry_zip_new (vY l1 l2 xs ys) ⟨hl1,hl2,?_⟩
 have n1:(Mf s.heap l1).objs.size=s.heap.objs.size + 1:=Qi ..;have n2:(Mg s.heap l1 l2).objs.size=s.heap.objs.size + 2:=by rw[Qi,n1]
 have n3:(Mh s.heap l1 l2).objs.size=s.heap.objs.size + 3:=by rw[Qi,n2]
 have n4:(Mi s.heap l1 l2).objs.size=s.heap.objs.size + 4:=by rw[Qi,n3]
 have g5:(JI s.heap l1 l2).get? (Mi s.heap l1 l2).objs.size=some _:=Í _ rfl;have g4:(JI s.heap l1 l2).get? (Mh s.heap l1 l2).objs.size=some _:=Ã _ (Í _ rfl);have g3:(JI s.heap l1 l2).get? (Mg s.heap l1 l2).objs.size=some _:=Ã _ (Ã _ (Í _ rfl));have g2:(JI s.heap l1 l2).get? (Mf s.heap l1).objs.size=some _:=Ã _ (Ã _ (Ã _ (Í _ rfl)));have g1:(JI s.heap l1 l2).get? s.heap.objs.size=some _:=Ã _ (Ã _ (Ã _ (Ã _ (Í _ rfl))));show _/\_;rw[n2,n3,n4] at g5;rw[n1,n2] at g3;rw[n3] at g4;rw[n1] at g2;rw[n4];exact⟨⟨_,g5,rfl⟩,h _ g5 g3 g4 ⟨_,g1,rfl,rfl⟩ ⟨_,g2,rfl,rfl⟩ λc o q=>Ã _ (Ã _ (Ã _ (Ã _ (Ã _ q))))⟩
end
open PySem PySem.Spec PyProof.Rows
section
variable {X:Cx}{aa:List (Ë × Obj)}{σ:St}{H:Hp}{s:É}{h':û}
theorem Inv.mX{t':Nat}{ch:List Ë}(I:Inv X aa σ H s)(hf:∀ b∈ch,j9 X aa H b)(k:∀ b o,b ∉ ch->s.heap.get? b=some o->h'.get? b=some o):Inv X aa σ H { s with heap:=h',toks:=t' }:=by
 have nch:∀ b u,H b=some u->b ∉ ch:=λb u e z=>by rw[(hf b z).1] at e;cases e
 refine I.step (g':=s.gens) (d':=s.drawn) (ch:=ch) (λb hb=>⟨(hf b hb).2.2.2.1,(hf b hb).2.1,(hf b hb).2.2.2.2.1,(hf b hb).2.2.2.2.2⟩) (λb o _ _ hc e _=>k b o hc e) (λb o _ _ hc e _=>⟨o.slots,k b o hc e⟩) (λ_ _ _ _ n=>n)
  (λb o hc e=>⟨o,k b o hc e⟩) (λ_ _ e=>e) (λ_ _ _ e=>e) (λb ps e=>⟨#[],by rw[e];simp⟩) (λm hm=>?_) (λb u e=>?_) I.bare
 ·obtain⟨o,es,ep,ho,r⟩:=hm;exact⟨o,es,ep,k _ o (λz=>(hf _ z).2.1 rfl) ho,r⟩
 ·refine(I.bx b u e).rg (λc v hc q=>k c v ?_ q) (λ_ q=>q) λ_ _ q=>q;rcases hc with z | z
  ·rw[z];exact nch b u e
  ·exact nch c _ z
theorem Inv.xK{T:Ë}{o:HO}(I:Inv X aa σ H s)(f:j9 X aa H T)(h0:X.s₀.heap.objs.size<=T)(bx:jr X.prog X.w (upd H T o) s.heap):Inv X aa σ (upd H T o) s:=by
 have u:=I.base;refine⟨I.ok,I.os,I.bare,⟨u.keep,u.slot,λb ob e n hx=>?_,u.there,λb xs e=>?_,λb ob xs e=>?_,λb ps e=>?_⟩,I.loc,I.cell,?_,λx c e=>?_,λp hp=>?_,bx,I.len⟩
 ·rw[ax (â (ê (ë e) h0))];exact u.free b ob e n hx
 ·have z:=u.tups b xs e;rw[ax (aM z f.1)];exact z
 ·have z:=u.frzs b ob xs e;rw[ax (aM z f.1)];exact z
 ·obtain⟨more,z⟩:=u.tbls b ps e;exact⟨more,by rw[ax (aM z f.1)];exact z⟩
 ·rw[ax f.2.1.symm];exact I.free
 ·rw[ax (f.2.2.2.2.1 x c e)];exact I.freeC x c e
 ·obtain⟨e,n,r⟩:=I.pin p hp;exact⟨e,by rw[ax (f.2.2.2.2.2 p hp)];exact n,r⟩
theorem jr.Bb{P:í}{w:ü}{H:Hp}{h:û}{D:Ë}{ys:List V}{ai:List Ä}(x:jr P w H h)(hn:H D=none)(hv:Vals ys ai)(hz:ys.length<=sizeLine)(ho:SA h D ai.toArray):jr P w (upd H D (.tup ys)) h:=λb u e=>by
 by_cases hb:b=D
 ·subst hb;rw[a7] at e;cases e;exact⟨hz,ai,hv,ho⟩
 ·rw[ax hb] at e;exact(x b u e).rg (λc v _ q=>q) (λc q=>by rw[ax (aM q hn)];exact q) λc xs q=>by rw[ax (aM q hn)];exact q
end
def tF:Bool->Â->Hp->Ë->List V->Prop
 |true=>jj|false=>cI
def iA:Bool->û->Ë->Ë->Nat->Prop
 |true=>û.IsListIter|false=>û.IsTupleIter
def rJ:Bool->û->Ë->Array Ä->Prop
 |true=>û.IsList|false=>Sl
theorem iA.obj{b:Bool}{h:û}{it a:Ë}{i:Nat}(st:iA b h it a i):∃ o,h.get? it=some o/\(∀ v,o.data=.cell v->False)/\∀ h':û,h'.get? it=some o->iA b h' it a i:=by
 cases b with
 |true=>obtain⟨o,g,c,d⟩:=st;exact⟨o,g,(λv e=>by rw[d] at e;cases e),λh' k=>⟨o,k,c,d⟩⟩
 |false=>obtain⟨o,g,c,d⟩:=st;exact⟨o,g,(λv e=>by rw[d] at e;cases e),λh' k=>⟨o,k,c,d⟩⟩
theorem Inv.rK(I:Inv X aa σ H s)(h:tF b X.K H a xs):∃ ai:List Ä,Vals xs ai/\rJ b s.heap a ai.toArray/\a < s.heap.objs.size/\∀ ys,tF b X.K H a ys->ys=xs:=by
 cases b with
 |true=>obtain⟨ai,r,p,_⟩:=I.list h;exact⟨ai,r,p.isList,by obtain⟨o,e,_⟩:=p.isList;exact ë e,λys h'=>I.tJ h' h⟩
 |false=>obtain⟨ai,r,p,_⟩:=I.tuple h;exact⟨ai,r,p,by obtain⟨o,e,_⟩:=p;exact ë e,λys h'=>I.qi h' h⟩
section
variable {P:í}{w:ü}{A:p8}{E:Ä->É->Prop}{s:É}{b:Bool}{z TI TO i1 i2 l1 l2:Ë}{k:Nat}{xs ys:Array Ä}{x y p q:Ä}
theorem zw{Q:Option Ä->É->Prop}(D:Vd z TI TO i1 i2 l1 l2)(hz:R8 s.heap z TI TO .none)(hTI:Qb s.heap TI (.ref i1) (.ref i2))(hTO:Qb s.heap TO p q)(h1:iA b s.heap i1 l1 k)(h2:iA b s.heap i2 l2 k)(hl1:rJ b s.heap l1 xs)(hl2:rJ b s.heap l2 ys)(hx:xs[k]?=some x)(hy:ys[k]?=some y)
  (hQ:∀ h',R8 h' z TI TO (U7 s.heap.objs.size)->Qb h' TO x y->iA b h' i1 l1 (k + 1)->iA b h' i2 l2 (k + 1)->Qb h' s.heap.objs.size x y->h'.objs.size=s.heap.objs.size + 1 ->
   (∀ c o,c≠z->c≠TO->c≠i1->c≠i2->s.heap.get? c=some o->h'.get? c=some o)->Q (some (.ref s.heap.objs.size)) { s with heap:=h' }):Ú (Ù P w) A (SI (.ref z)) Q E s:=match b,h1,h2,hl1,hl2,hQ with
 |true,h1,h2,hl1,hl2,hQ=>wpAny_pyNext_zip_item D hz hTI hTO h1 h2 hl1 hl2 hx hy hQ|false,h1,h2,hl1,hl2,hQ=>zt D hz hTI hTO h1 h2 hl1 hl2 hx hy hQ
theorem Bc{Q:Option Ä->É->Prop}(hh:A.handled=none)(D:Vd z TI TO i1 i2 l1 l2)(hz:R8 s.heap z TI TO .none)(hTI:Qb s.heap TI (.ref i1) (.ref i2))(hTO:Qb s.heap TO p q)(h1:iA b s.heap i1 l1 k)(h2:iA b s.heap i2 l2 k)(hl1:rJ b s.heap l1 xs)(hl2:rJ b s.heap l2 ys)
  (hend:xs[k]?=none∨ys[k]?=none) (hQ:∀ h',(∀ c o,c≠z->c≠TO->c≠i1->c≠i2->s.heap.get? c=some o->h'.get? c=some o)->Q none { s with heap:=h' }):Ú (Ù P w) A (SI (.ref z)) Q E s:=match b,h1,h2,hl1,hl2 with
 |true,h1,h2,hl1,hl2=>wpAny_pyNext_zip_end hh D hz hTI hTO h1 h2 hl1 hl2 hend hQ|false,h1,h2,hl1,hl2=>Ba hh D hz hTI hTO h1 h2 hl1 hl2 hend hQ
theorem zx{Q:Ä->É->Prop}(hl1:rJ b s.heap l1 xs)(hl2:rJ b s.heap l2 ys)
  (h:∀ h',R8 h' (s.heap.objs.size + 4) (s.heap.objs.size + 2) (s.heap.objs.size + 3) .none->Qb h' (s.heap.objs.size + 2) (.ref s.heap.objs.size) (.ref (s.heap.objs.size + 1))->Qb h' (s.heap.objs.size + 3) .none .none ->
   iA b h' s.heap.objs.size l1 0->iA b h' (s.heap.objs.size + 1) l2 0->(∀ c o,s.heap.get? c=some o->h'.get? c=some o)->Q (.ref (s.heap.objs.size + 4)) { s with heap:=h' }):Ú (Ù P w) A (call (.type "zip") [.ref l1,.ref l2]) Q E s:=match b,hl1,hl2,h with
 |true,hl1,hl2,h=>call_zip_2 hl1 hl2 λh' a1 a2 a3 a4 a5 _ a6=>h h' a1 a2 a3 a4 a5 a6|false,hl1,hl2,h=>zu hl1 hl2 h
end
def M3(b:Bool)(K:Â)(a c:Ë):It :=
 ⟨λi H=>∃ xs ys x y,tF b K H a xs/\tF b K H c ys/\xs[i]?=some x/\ys[i]?=some y,
  λi H v H'=>∃ T,v=.ref T/\H T=none/\∀ xs ys x y,tF b K H a xs->tF b K H c ys->xs[i]?=some x->ys[i]?=some y->H'=upd H T (.tup [x,y]),
  λi H=>∃ xs ys,tF b K H a xs/\tF b K H c ys/\(xs.length<=i∨ys.length<=i)⟩
theorem Be{P:í}{w:ü}{K:Â}{es:List Ö}{ek:Nat}{ep:Pos}{b:Bool}{a c z TI TO i1 i2:Ë}(D:Vd z TI TO i1 i2 a c) :
  Turn P w K (.Tuple es ek ep) (M3 b K a c) [z,TI,TO,i1,i2] z (λi h=>R8 h z TI TO .none/\Qb h TI (.ref i1) (.ref i2)/\(∃ p q,Qb h TO p q)/\iA b h i1 a i/\iA b h i2 c i) where
 mem:=by simp
 obj:=λi h st c hc=>by
  obtain⟨hz,hTI,⟨p,q,hTO⟩,h1,h2⟩:=st;obtain⟨o1,h1,d1,_⟩:=h1.obj;obtain⟨o2,h2,d2,_⟩:=h2.obj;simp only[OO,OU,or_false] at hc;rcases hc with rfl | rfl | rfl | rfl | rfl
  ·exact⟨_,hz,λv e=>by cases e⟩
  ·exact⟨_,hTI,λv e=>by cases e⟩
  ·exact⟨_,hTO,λv e=>by cases e⟩
  ·exact⟨_,h1,d1⟩
  ·exact⟨_,h2,d2⟩
 keep:=λi h h' st k=>by
  obtain⟨hz,hTI,⟨p,q,hTO⟩,h1,h2⟩:=st;obtain⟨o1,h1,_,r1⟩:=h1.obj;obtain⟨o2,h2,_,r2⟩:=h2.obj;exact⟨k z (by simp) _ hz,k TI (by simp) _ hTI,⟨p,q,k TO (by simp) _ hTO⟩,r1 _ (k i1 (by simp) _ h1),r2 _ (k i2 (by simp) _ h2)⟩
 item:=by
  intro X hP hw hK hc i aa s σ H E I hf st hg;subst hP hw hK;obtain⟨xs,ys,x,y,hq1,hq2,hx,hy⟩:=hg;obtain⟨v1,rv1,p1,_,z1⟩:=I.rK hq1;obtain⟨v2,rv2,p2,_,z2⟩:=I.rK hq2;obtain⟨u1,hu1,ru1⟩:=rv1.get hx;obtain⟨u2,hu2,ru2⟩:=rv2.get hy;obtain⟨hz,hTI,⟨p,q,hTO⟩,h1,h2⟩:=st;refine zw D hz hTI hTO h1 h2 p1 p2 (x:=u1) (y:=u2) (by simpa using hu1) (by simpa using hu2) λg1 gz gTO g1' g2' gT gs kp=>⟨_,rfl,?_⟩
  refine wpAny_letOwnedTupleGo_zip (s:={ s with heap:=g1 }) gz λg2 gz2 sb=>?_;have hT:H s.heap.objs.size=none:=I.bx.fresh (Ô _);have kall:∀ c o,c ∉ [z,TI,TO,i1,i2]->s.heap.get? c=some o->g2.get? c=some o:=λc o hc e=>by
   simp only[OO,OU,or_false,not_or] at hc;exact sb.extBut _ _ hc.1 (kp c o hc.1 hc.2.2.1 hc.2.2.2.1 hc.2.2.2.2 e)
  have I2:Inv X aa σ H { s with heap:=g2 }:=I.mX (t':=s.toks) hf kall;have fT:j9 X aa H s.heap.objs.size:=I.ly (Ô _) hT;have gT2:g2.get? s.heap.objs.size=some { cls:=.type "tuple",data:=.seq #[u1,u2] }:=sb.extBut _ _ (λe=>O1 _ (by have:=ë hz;rw[← e] at this;exact this)) gT
  have I3:Inv X aa σ (upd H s.heap.objs.size (.tup [x,y])) { s with heap:=g2 }:=I2.xK fT I.sz (I2.bx.Bb hT (ai:=[u1,u2]) (.cons ru1 (.cons ru2 .nil)) (by show 2<=sizeLine;rw[O2];decide) ⟨_,gT2,rfl,_,rfl⟩)
  have TI0:Qb g2 TI (.ref i1) (.ref i2):=sb.extBut _ _ D.TIz (kp _ _ D.TIz D.TITO D.TIi1 D.TIi2 hTI);obtain⟨o1,w1,_,r1⟩:=g1'.obj;obtain⟨o2,w2,_,r2⟩:=g2'.obj;refine⟨.ref s.heap.objs.size,_,I3,rfl,⟨_,rfl,hT,λxs' ys' x' y' e1 e2 e3 e4=>?_⟩,⟨gz2,TI0,⟨_,_,sb.extBut _ _ D.TOz gTO⟩,r1 _ (sb.extBut _ _ D.i1z w1),r2 _ (sb.extBut _ _ D.i2z w2)⟩,λc hc=>?_⟩
  ·rw[z1 _ e1] at e3;rw[z2 _ e2] at e4;rw[hx] at e3;rw[hy] at e4;cases e3;cases e4;rfl
  ·rw[ax]
   ·exact(hf c hc).1
   ·intro e;obtain⟨o1,h1,_⟩:=h1.obj;obtain⟨o2,h2,_⟩:=h2.obj;have lt:c < s.heap.objs.size:=by
     simp only[OO,OU,or_false] at hc;rcases hc with rfl | rfl | rfl | rfl | rfl
     ·exact ë hz
     ·exact ë hTI
     ·exact ë hTO
     ·exact ë h1
     ·exact ë h2
    rw[e] at lt;exact O1 _ lt
 done:=by
  intro X hP hw hK hc i aa s σ H E I hf st hg;subst hP hw hK;obtain⟨xs,ys,hq1,hq2,hend⟩:=hg;obtain⟨v1,rv1,p1,_⟩:=I.rK hq1;obtain⟨v2,rv2,p2,_⟩:=I.rK hq2;obtain⟨hz,hTI,⟨p,q,hTO⟩,h1,h2⟩:=st;have l1:=rv1.length;have l2:=rv2.length;refine Bc (I.ok.hd hc) D hz hTI hTO h1 h2 p1 p2 (hend.elim (λe=>.inl (by simp;omega)) λe=>.inr (by simp;omega)) λg kp=>⟨rfl,I.mX (t':=s.toks) hf λc o hcn e=>?_⟩
  simp only[OO,OU,or_false,not_or] at hcn;exact kp c o hcn.1 hcn.2.2.1 hcn.2.2.2.1 hcn.2.2.2.2 e
 self:=λ_ _ _ _ _ st h=>XZ st.1 h
def M4(K:Â)(ta:TA):TI:=λσ H R=>ta σ H λvs H1=>∃ b a c,vs=[.ref a,.ref c]/\(∃ xs,tF b K H1 a xs)/\(∃ ys,tF b K H1 c ys)/\R (M3 b K a c) H1
theorem boot_zip:ù "zip"=some (.type "zip"):=by decide +kernel
theorem Hq{X:Cx}{a b:Ö}{es:List Ö}{ek:Nat}{ep:Pos}{ta:TA}{p pos:Pos}(hg:Gl X "zip")(hm:X.mg "zip"=none)(ha:PA X [a,b] ta)(hs:Of [a,b] X.env=[(false,eval a X.env),(false,eval b X.env)]:=by rfl)(hs2:Of [b] X.env=[(false,eval b X.env)]:=by rfl) :
  PI X (.Tuple es ek ep) (.Call (.Name "zip" p) [a,b] [] pos) (M4 X.K ta):=by
 intro aa s σ H R I h;refine XY (gu I hg hm boot_zip (OS (b8 (ha pos aa s σ H _ I h) λus s1 ⟨vs,H1,I1,r1,q1⟩=>?_) (by rw[hs,hs2]) (by rw[hs2];rfl)))
 obtain⟨b,l1,l2,e,⟨xs,hq1⟩,⟨ys,hq2⟩,q⟩:=q1;subst e;obtain⟨u,w',rfl,r,r'⟩:=vals2 r1;cases r;cases r';obtain⟨v1,rv1,p1,a1,_⟩:=I1.rK hq1;obtain⟨v2,rv2,p2,a2,_⟩:=I1.rK hq2;refine zx p1 p2 λh' hz hTI hTO h1 h2 kp=>XZ (s:={ s1 with heap:=h' }) hz ?_;refine⟨_,[s1.heap.objs.size + 4,s1.heap.objs.size + 2,s1.heap.objs.size + 3,s1.heap.objs.size,s1.heap.objs.size + 1],_,_,H1,rfl,I1.kept (t':=s1.toks) kp,Be (Ys a1 a2),⟨hz,hTI,⟨_,_,hTO⟩,h1,h2⟩,λc hc=>?_,q⟩;have hc':s1.heap.objs.size<=c:=by
  simp only[OO,OU,or_false] at hc;rcases hc with rfl | rfl | rfl | rfl | rfl
  ·exact PU _ 4
  ·exact PU _ 2
  ·exact PU _ 3
  ·exact Ô _
  ·exact PU _ 1
 exact I1.ly hc' (I1.bx.fresh hc')
theorem Bg(hc:X.calm=true):bP X (.builtin "all") (λxs H Q=>∃ (a:Ë) (bs:List Bool),xs=[.ref a]/\jj X.K H a (bs.map V.bl)/\Q (.bl (bs.all id)) H):=by
 intro aa s σ H xs us Q I r h;obtain⟨a,bs,rfl,hq,q⟩:=h;obtain⟨u,rfl,rx⟩:=vals1 r;cases rx;obtain⟨ai,rv,pl,hz⟩:=I.list hq;have hlt:a < s.heap.objs.size:=by obtain⟨_,e,_⟩:=pl.isList;exact ë e
 have hlen:ai.length=bs.length:=by have:=rv.length;simpa using this.symm
 refine call_all_walk (Rp pl.isList ⟨_,_,_,_,_,_,λi=>(bs[i]?).getD true,rfl,Ul (by exact I.ok.hd hc) s.heap.objs.size a (â hlt) ai.toArray,⟨⟨_,Í _ rfl,rfl,rfl⟩,pl.isList.push _⟩,?_,?_⟩)
 ·intro i v s' Q' E' hP hQ;have hP':ai[i]?=some v:=by simpa using hP
  have hi:i < bs.length:=by rw[← hlen];exact(ï.mp hP').1
  obtain⟨v',hv',rv'⟩:=rv.get (i:=i) (x:=.bl bs[i]) (by simp[hi])
  rw[hP'] at hv';cases hv';cases (show v=QD _ from rv');exact OX (by simpa [hi] using hQ)
 ·intro h' tk kp;refine⟨.bl (bs.all id),H,I.kept λb o e=>kp b o (by simpa using â (ë e)) (Ã _ e),?_,q⟩
  show QD _=QD _;rw[ß,hlen,Xc]
end L2
namespace NS
open PySem PySem.W PyProof.Rows
section
variable (lt:Nat->Nat->Bool)
def Le(x y:Nat):Prop:=lt y x=false
structure Od:Prop where
 asym:∀ x y,lt x y=true->lt y x=false
 tr:∀ x y z,Le lt x y->Le lt y z->Le lt x z
abbrev Up(l:List Nat):Prop:=l.Pairwise (Le lt)
abbrev Dn(l:List Nat):Prop:=l.Pairwise λx y=>Le lt y x
variable {lt}
theorem Od.refl(o:Od lt)(x:Nat):Le lt x x:=by
 unfold Le;cases h:lt x x with
 |false=>rfl|true=>rw[o.asym x x h] at h;cases h
theorem Od.le(o:Od lt){x y:Nat}(h:lt x y=true):Le lt x y:=o.asym x y h
theorem lC{l:List Nat}{n:Nat}(h:n < l.length):l.take (n + 1)=l.take n++[l.getD n 0]:=by
 rw[T9,Ø h];simp[h]
theorem cW{l:List Nat}{x n:Nat}(h:x∈l.take n):∃ i,i < n/\i < l.length/\l.getD i 0=x:=by
 obtain⟨i,hi,rfl⟩:=O9.mp h;rw[î] at hi;exact⟨i,by omega,by omega,by simp[show i < l.length by omega]⟩
theorem ft{l:List Nat}{x n:Nat}(h:x∈l.drop n):∃ i,n<=i/\i < l.length/\l.getD i 0=x:=by
 obtain⟨i,hi,rfl⟩:=O9.mp h;rw[OQ] at hi;exact⟨n + i,by omega,by omega,by simp[show n + i < l.length by omega]⟩
theorem cP{l:List Nat}{i:Nat}(h:i < l.length):l.getD i 0∈l:=by simp[h]
theorem Up.at(o:Od lt){l:List Nat}(u:Up lt l){i j:Nat}(h:i<=j)(hj:j < l.length):Le lt (l.getD i 0) (l.getD j 0):=by
 rcases Yh i j with k | k
 ·have:=UH.mp u i j ∅ hj k
  simpa [hj,show i < l.length by omega] using this
 ·rw[show i=j by omega];exact o.refl _
theorem Up.snoc{l:List Nat}{x:Nat}(u:Up lt l)(h:∀ y∈l,Le lt y x):Up lt (l++[x]) :=
 å.mpr ⟨u,OZ _ _,λy hy z hz=>by rw[Ð.mp hz];exact h y hy⟩
theorem Dn.snoc{l:List Nat}{x:Nat}(u:Dn lt l)(h:∀ y∈l,Le lt x y):Dn lt (l++[x]) :=
 å.mpr ⟨u,OZ _ _,λy hy z hz=>by rw[Ð.mp hz];exact h y hy⟩
theorem Ed(o:Od lt){l:List Nat}{n:Nat}(h1:1<=n)(h:n < l.length)(u:Up lt (l.take n))(le:Le lt (l.getD (n - 1) 0) (l.getD n 0)):Up lt (l.take (n + 1)):=by
 rw[lC h];refine u.snoc λy hy=>?_;obtain⟨i,h2,h3,rfl⟩:=cW hy;have e:∀ k,k < n->(l.take n).getD k 0=l.getD k 0:=λk hk=>by simp[Ê,OR,hk]
 have:=u.at o (i:=i) (j:=n - 1) ∅ (by rw[î];omega)
 rw[e i h2,e (n - 1) ∅] at this
 exact o.tr _ _ _ this le
theorem Dn.rev{l:List Nat}(d:Dn lt l):Up lt l.reverse:=Vl.mpr d
def jk(lt:Nat->Nat->Bool)(left:Bool)(y:Nat)(l:List Nat)(i:Nat):Bool:=if left=true then lt (l.getD i 0) y else !lt y (l.getD i 0)
theorem Bh(o:Od lt){left:Bool}{y:Nat}{l:List Nat}{b z:Nat}(u:Up lt ((l.drop b).take z)){i j:Nat}(hij:i<=j)(hj:j < z)(hl:b + z<=l.length)(h:jk lt left y l (b + j)=true):jk lt left y l (b + i)=true:=by
 have e:∀ k,k < z->((l.drop b).take z).getD k 0=l.getD (b + k) 0:=λk hk=>by simp[Ê,OR,hk]
 have le:=u.at o hij (by rw[î,OQ];omega)
 rw[e i ∅,e j hj] at le
 unfold jk at h ⊢;cases left with
 |true =>
  rw[if_pos rfl] at h ⊢;cases q:lt (l.getD (b + i) 0) y with
  |true=>rfl
  |false =>
   have:Le lt y (l.getD (b + j) 0):=o.tr _ _ _ q le;unfold Le at this;rw[this] at h;cases h
 |false =>
  rw[if_neg (-0)] at h ⊢
  have h':Le lt (l.getD (b + j) 0) y:=by unfold Le;simpa using h
  have:=o.tr _ _ _ le h';unfold Le at this;rw[this];rfl
structure MI(lt:Nat->Nat->Bool)(cj o A B:List Nat):Prop where
 perm:(o++A++B).Perm cj
 upO:Up lt o
 low:∀ x∈o,∀ y∈A++B,Le lt x y
 upA:Up lt A
 upB:Up lt B
 last:∀ z,A.getLast?=some z->∀ y∈B,Le lt y z
theorem MI.tP{cj o A B:List Nat}(m:MI lt cj o A B)(k:Nat)(h:∀ x∈A.take k,∀ y∈B,Le lt x y):MI lt cj (o++A.take k) (A.drop k) B where
 perm:=by rw[Ý o,ä];exact m.perm
 upO:=å.mpr ⟨m.upO,m.upA.sublist (PR k A),λx hx y hy=>m.low x hx y (ç _ (Pl hy))⟩
 low x hx y hy:=by
  rcases Ì.mp hx with hx | hx
  ·rcases Ì.mp hy with hy | hy
   ·exact m.low x hx y (ç _ (Pm hy))
   ·exact m.low x hx y (Ò _ hy)
  ·rcases Ì.mp hy with hy | hy
   ·have:=m.upA;rw[← ä k A] at this;exact(å.mp this).2.2 x hx y hy
   ·exact h x hx y hy
 upA:=m.upA.sublist (Qr k A)
 upB:=m.upB
 last z hz y hy:=m.last z (by
  rw[← ä k A,List.getLast?_append,hz];rfl) y hy
theorem MI.tQ{cj o A B:List Nat}(m:MI lt cj o A B)(k:Nat)(h:∀ x∈B.take k,∀ y∈A,Le lt x y):MI lt cj (o++B.take k) A (B.drop k) where
 perm:=by
  refine Rm ?_ m.perm;rw[Ý,Ý,Ý o A B];refine Uz o ?_;rw[← Ý];refine(Rl.append_right _).trans ?_;rw[Ý,ä]
 upO:=å.mpr ⟨m.upO,m.upB.sublist (PR k B),λx hx y hy=>m.low x hx y (Ò _ (Pl hy))⟩
 low x hx y hy:=by
  rcases Ì.mp hx with hx | hx
  ·rcases Ì.mp hy with hy | hy
   ·exact m.low x hx y (ç _ hy)
   ·exact m.low x hx y (Ò _ (Pm hy))
  ·rcases Ì.mp hy with hy | hy
   ·exact h x hx y hy
   ·have:=m.upB;rw[← ä k B] at this;exact(å.mp this).2.2 x hx y hy
 upA:=m.upA
 upB:=m.upB.sublist (Qr k B)
 last z hz y hy:=m.last z hz y (Pm hy)
theorem de{o A:List Nat}(u:Up lt o)(v:Up lt A)(h:∀ x∈o,∀ y∈A,Le lt x y):Up lt (o++A):=å.mpr ⟨u,v,h⟩
theorem MI.done{cj o A B:List Nat}(m:MI lt cj o A B)(h:A=[]∨B=[]):(o++A++B).Perm cj/\Up lt (o++A++B):=by
 refine⟨m.perm,?_⟩;rcases h with rfl | rfl
 ·rw[ö];exact de m.upO m.upB λx hx y hy=>m.low x hx y (by simpa using hy)
 ·rw[ö];exact de m.upO m.upA λx hx y hy=>m.low x hx y (by simpa using hy)
theorem MI.Ko{cj o A B:List Nat}(m:MI lt cj o A B)(h:A.length=1):(o++B++A).Perm cj/\Up lt (o++B++A):=by
 obtain⟨z,rfl⟩:=Qo.mp h;refine⟨Rm ?_ m.perm,?_⟩
 ·rw[Ý,Ý];exact Rl.append_left o
 ·refine de (de m.upO m.upB λx hx y hy=>m.low x hx y (Ò _ hy)) (OZ _ _) λx hx y hy=>?_;rw[Ð.mp hy];rcases Ì.mp hx with hx | hx
  ·exact m.low x hx z (by simp)
  ·exact m.last z rfl x hx
structure MH(lt:Nat->Nat->Bool)(cj o A B:List Nat):Prop where
 perm:(A++B++o).Perm cj
 upO:Up lt o
 low:∀ x∈A++B,∀ y∈o,Le lt x y
 upA:Up lt A
 upB:Up lt B
 fst:∀ z,B.head?=some z->∀ x∈A,Le lt z x
theorem MH.tP{cj o A B:List Nat}(m:MH lt cj o A B)(k:Nat)(h:∀ x∈A.drop k,∀ y∈B,Le lt y x):MH lt cj (A.drop k++o) (A.take k) B where
 perm:=by
  refine Rm ?_ m.perm;rw[← Ý];refine List.Perm.append_right o ?_;rw[Ý];refine(Rl.append_left _).trans ?_;rw[← Ý,ä]
 upO:=de (m.upA.sublist (Qr k A)) m.upO λx hx y hy=>m.low x (ç _ (Pm hx)) y hy
 low x hx y hy:=by
  rcases Ì.mp hy with hy | hy
  ·rcases Ì.mp hx with hx | hx
   ·have:=m.upA;rw[← ä k A] at this;exact(å.mp this).2.2 x hx y hy
   ·exact h y hy x hx
  ·rcases Ì.mp hx with hx | hx
   ·exact m.low x (ç _ (Pl hx)) y hy
   ·exact m.low x (Ò _ hx) y hy
 upA:=m.upA.sublist (PR k A)
 upB:=m.upB
 fst z hz x hx:=m.fst z hz x (Pl hx)
theorem MH.tQ{cj o A B:List Nat}(m:MH lt cj o A B)(k:Nat)(h:∀ y∈B.drop k,∀ x∈A,Le lt x y):MH lt cj (B.drop k++o) A (B.take k) where
 perm:=by
  refine Rm ?_ m.perm;rw[← Ý,Ý A,ä]
 upO:=de (m.upB.sublist (Qr k B)) m.upO λx hx y hy=>m.low x (Ò _ (Pm hx)) y hy
 low x hx y hy:=by
  rcases Ì.mp hy with hy | hy
  ·rcases Ì.mp hx with hx | hx
   ·exact h y hy x hx
   ·have:=m.upB;rw[← ä k B] at this;exact(å.mp this).2.2 x hx y hy
  ·rcases Ì.mp hx with hx | hx
   ·exact m.low x (ç _ hx) y hy
   ·exact m.low x (Ò _ (Pl hx)) y hy
 upA:=m.upA
 upB:=m.upB.sublist (PR k B)
 fst z hz x hx:=m.fst z (by
  rw[← ä k B,List.head?_append,hz];rfl) x hx
theorem MH.done{cj o A B:List Nat}(m:MH lt cj o A B)(h:A=[]∨B=[]):(A++B++o).Perm cj/\Up lt (A++B++o):=by
 refine⟨m.perm,de ?_ m.upO m.low⟩;rcases h with rfl | rfl
 ·exact m.upB
 ·rw[ö];exact m.upA
theorem MH.Hr{cj o A B:List Nat}(m:MH lt cj o A B)(h:B.length=1):(B++A++o).Perm cj/\Up lt (B++A++o):=by
 obtain⟨z,rfl⟩:=Qo.mp h;refine⟨(Rl.append_right o).trans m.perm,de (de (OZ _ _) m.upA λx hx y hy=>?_) m.upO λx hx y hy=>m.low x (Ì.mpr (Ì.mp hx).symm) y hy⟩;rw[Ð.mp hx];exact m.fst z rfl y hy
end
section
variable {prog:í}{w:ü}{A:p8}{E:Ä->É->Prop}{s:É}{κ:Q6} (it:Array Uq) {n:Nat}{lt:Nat->Nat->Bool}
abbrev AJ(i:Nat):Keyed:=Q2 it i
def ar(l:List Nat):Array Keyed:=(l.map (Q2 it)).toArray
variable (κ) in
def sS(a:List Nat)(p:List (Nat × Nat × Nat))(g:Nat):SortSt:=Ql κ (ar it a) p.toArray g none
variable {it}
theorem bN(l:List Nat):(ar it l).size=l.length:=by simp[ar]
theorem kh(l:List Nat)(x:Nat):(ar it l).push (AJ it x)=ar it (l++[x]):=by simp[ar]
theorem eP(l m:List Nat):ar it l++ar it m=ar it (l++m):=by simp[ar]
theorem nT(l:List Nat)(i j:Nat):(ar it l).extract i j=ar it ((l.take j).drop i):=by
 apply QG.mp;simp[ar,List.drop_take,TK,SQ]
theorem vZ(l:List Nat):(ar it l).reverse=ar it l.reverse:=by simp[ar]
def zy(prog:í)(w:ü)(A:p8)(s:É)(κ:Q6)(it:Array Uq)(n:Nat)(lt:Nat->Nat->Bool):Prop:=∀ i j (C:Bool->É->Prop),i < n->j < n->C (lt i j) s->kas_cmp prog w A κ it i j C s
variable {a:List Nat}{p:List (Nat × Nat × Nat)}{g:Nat}
theorem tR(O:zy prog w A s κ it n lt){x y:Nat}{Q:Option Bool->OL->Prop}(hx:x < n)(hy:y < n)(h:Q (some (lt x y)) (sS κ it a p g)):wpS (Ù prog w) A E s (lt' (AJ it x) (AJ it y)) Q (sS κ it a p g):=by
 rw[lt'_eq];refine Ó (Sj ?_);refine Ó (wpS_lift (VE (Pz (O x y (λc s'=>s'=s/\c=lt x y) hx hy ⟨rfl,rfl⟩) (λc s' hc=>?_) λ_ _ hF=>hF.elim)));obtain⟨rfl,rfl⟩:=hc;exact⟨rfl,Þ h⟩
theorem cw{l:List Nat}{i:Nat}{Q:Uq->OL->Prop}{σ:OL}(hi:i < l.length)(h:Q (AJ it (l.getD i 0)) σ):wpS (Ù prog w) A E s (elem' (ar it l) i) Q σ:=by
 rw[elem'_eq];have e:(ar it l)[i]?=some (AJ it (l.getD i 0)):=by simp[ar,hi,AJ]
 rw[e];exact Þ h
theorem ki(O:zy prog w A s κ it n lt)(bd:∀ x∈a,x < n){i j:Nat}{Q:Option Bool->OL->Prop}(hi:i < a.length)(hj:j < a.length)(h:Q (some (lt (a.getD i 0) (a.getD j 0))) (sS κ it a p g)):wpS (Ù prog w) A E s (ltAt' i j) Q (sS κ it a p g):=by
 rw[ltAt'_eq];refine Ó (Sj ?_);exact Ó (cw hi (Ó (cw hj (tR O (bd _ (cP hi)) (bd _ (cP hj)) h))))
theorem tS{α:Type}(l:List α){i j:Nat}(hij:i<=j)(hj:j<=l.length):mirror l.toArray i j ((j - i) / 2)=(l.take i++(((l.take j).drop i).reverse++l.drop j)).toArray:=by
 apply VU;intro k;rw[getElem?_mirror_all (by simpa using hj)]
 simp only[Vn];rw[QF,QF,RV,OQ,î,î,show min i l.length=i by omega,show min j l.length=j by omega]
 by_cases c1:k < i
 ·rw[if_neg ∅,if_pos c1,OR,if_pos c1]
 ·rw[if_neg c1];by_cases c2:k < j
  ·rw[if_pos ∅,if_pos ∅,List.getElem?_reverse (by rw[OQ,î];omega),OQ,î,P4,OR,if_pos ∅]
   congr 1;omega
  ·rw[if_neg ∅,if_neg ∅,P4]
   congr 1;omega
theorem Hs{i j:Nat}{Q:Unit->OL->Prop}(hij:i<=j)(hj:j<=a.length)(h:Q () (sS κ it (a.take i++(((a.take j).drop i).reverse++a.drop j)) p g)):wpS (Ù prog w) A E s (VG i j) Q (sS κ it a p g):=by
 rw[reverseSlice'_eq];refine Rc ?_;have e:mirror (ar it a) i j ((j - i) / 2)=ar it (a.take i++(((a.take j).drop i).reverse++a.drop j)):=by
  unfold ar;rw[tS _ hij (by simpa using hj)]
  simp[SQ,TK]
 show Q () (Ql κ (mirror (ar it a) i j ((j - i) / 2)) p.toArray g none);rw[e];exact h
theorem tU{α:Type}(l:List α){k d:Nat}(hk:k < l.length)(hd:d<=k):bubble l.toArray k (k - d)=(l.take d++((l.drop k).take 1++((l.take k).drop d++l.drop (k + 1)))).toArray:=by
 apply VU;intro i;rw[getElem?_bubble (by simpa using hk) (k - d) ∅ i,show k - (k - d)=d by omega]
 simp only[Vn];rw[QF,QF,QF,î,î,OQ,OQ,î,show min d l.length=d by omega,show min 1 (l.length - k)=1 by omega,show min k l.length - d=k - d by omega,OR,OR,P4,P4,P4,OR]
 by_cases c1:i < d
 ·rw[if_pos c1,if_pos c1,if_neg ∅,if_neg ∅]
 ·rw[if_neg c1];by_cases c2:i=d
  ·rw[if_pos c2,if_pos (show i - d < 1 by omega),if_pos (show i - d < 1 by omega),show k + (i - d)=k by omega]
  ·rw[if_neg c2,if_neg (show ¬ i - d < 1 by omega)]
   by_cases c3:i<=k
   ·rw[if_pos (show d < i/\i<=k by omega),if_pos (show i - d - 1 < k - d by omega),if_pos (show d + (i - d - 1) < k by omega),show d + (i - d - 1)=i - 1 by omega]
   ·rw[if_neg (show ¬ (d < i/\i<=k) by omega),if_neg (show ¬ i - d - 1 < k - d by omega),show k + 1 + (i - d - 1 - (k - d))=i by omega]
theorem Ht{k d:Nat}{Q:Unit->OL->Prop}(hk:k < a.length)(hd:d<=k)(h:Q () (sS κ it (a.take d++((a.drop k).take 1++((a.take k).drop d++a.drop (k + 1)))) p g)):wpS (Ù prog w) A E s (moveDown' k d) Q (sS κ it a p g):=by
 rw[moveDown'_eq];refine Rc ?_;have e:bubble (ar it a) k (k - d)=ar it (a.take d++((a.drop k).take 1++((a.take k).drop d++a.drop (k + 1)))):=by
  unfold ar;rw[tU _ (by simpa using hk) hd]
  simp[SQ,TK]
 show Q () (Ql κ (bubble (ar it a) k (k - d)) p.toArray g none);rw[e];exact h
theorem jc{x:String}{Q:Unit->OL->Prop}{σ:OL}(h:Q () σ):wpS (Ù prog w) A E s (liftM (rule x):StateT OL Sem Unit) Q σ:=wpS_lift (Qy ⟨rfl,h⟩)
theorem nU(pre l:List Nat)(i:Nat):(pre++l).getD (pre.length + i) 0=l.getD i 0:=by rw[Ê,Ê,Pg (PU _ _),Nat.add_sub_cancel_left]
def M5(lo:Nat):Nat->Option (Option Nat) × Nat->StateT OL Sem (ForInStep (Option (Option Nat) × Nat)):=λ_ c=>do
 let x ← ltAt' (lo + c.snd) (lo + c.snd - 1)
 match x with
 |some smaller=>if smaller=true then pure (Qu (none,c.snd)) else pure (Sv (none,c.snd + 1))|_=>pure (Qu (some none,c.snd))
theorem Bj(od:Od lt)(O:zy prog w A s κ it n lt){pre l:List Nat}(bd:∀ x∈pre++l,x < n){m:Nat}(h1:1<=m)(hm:m<=l.length)(u:Up lt (l.take m)){Q:Option (Option Nat) × Nat->OL->Prop}
  (h:∀ k,m<=k->k<=l.length->Up lt (l.take k)->(k=l.length∨lt (l.getD k 0) (l.getD (k - 1) 0)=true)->Q (none,k) (sS κ it (pre++l) p g)):wpS (Ù prog w) A E s (forIn [m:l.length] ((none,m):Option (Option Nat) × Nat) (M5 pre.length)) Q (sS κ it (pre++l) p g):=by
 refine OW (I:=λx c σ=>σ=sS κ it (pre++l) p g/\c=(none,x)/\Up lt (l.take x)) (λx c σ hx hl I=>?_) (λc σ I=>?_) ⟨rfl,rfl,u⟩
 ·obtain⟨rfl,rfl,u⟩:=I;have at_:=nU pre l;have e2:pre.length + x - 1=pre.length + (x - 1):=by omega
  refine Ó (ki O bd (by rw[Ü];dsimp only;omega) (by rw[Ü];dsimp only;omega) ?_)
  dsimp only;rw[at_,e2,at_];cases q:lt (l.getD x 0) (l.getD (x - 1) 0) with
  |true=>exact Þ (h x hx ∅ u (.inr q))|false=>exact Þ ⟨rfl,rfl,Ed od ∅ hl u q⟩
 ·obtain⟨rfl,rfl,u⟩:=I;rw[show max m l.length=l.length by omega] at u ⊢
  exact h _ hm (Ô _) u (.inl rfl)
end
theorem ei{G goal:Prop}(a:G->goal)(b:G):goal:=a b
section
variable {prog:í}{w:ü}{A:p8}{E:Ä->É->Prop}{s:É}{κ:Q6}{it:Array Uq}{n:Nat}{lt:Nat->Nat->Bool}
variable {p:List (Nat × Nat × Nat)}{g:Nat}
theorem nV{u r:List Nat}{b i:Nat}(h:i=u.length):(u++b::r).getD i 0=b:=by
 subst h;simp
theorem mY{u v r:List Nat}{i j:Nat}(hi:i=u.length)(hj:j=u.length + v.length){Q:Unit->OL->Prop}(h:Q () (sS κ it (u++(v.reverse++r)) p g)):wpS (Ù prog w) A E s (VG i j) Q (sS κ it (u++(v++r)) p g):=by
 subst hi hj;refine Hs (PU _ _) (by simp) ?_
 have e1:(u++(v++r)).take u.length=u:=by simp
 have e2:((u++(v++r)).take (u.length + v.length)).drop u.length=v:=by
  rw[WJ,RA,PF (by simp)]
  simp
 have e3:(u++(v++r)).drop (u.length + v.length)=r:=by
  rw[RA,PF ∅]
  simp
 rw[e1,e2,e3];exact h
theorem Ee{u v r:List Nat}{z i j:Nat}(hi:i=u.length + v.length)(hj:j=u.length){Q:Unit->OL->Prop}(h:Q () (sS κ it (u++(z::(v++r))) p g)):wpS (Ù prog w) A E s (moveDown' i j) Q (sS κ it (u++(v++z::r)) p g):=by
 subst hi hj;refine Ht (by simp) (PU _ _) ?_
 have e1:(u++(v++z::r)).take u.length=u:=by simp
 have e2:((u++(v++z::r)).take (u.length + v.length)).drop u.length=v:=by
  rw[WJ,RA,PF (by simp)]
  simp
 have e3:(u++(v++z::r)).drop (u.length + v.length)=z::r:=by
  rw[RA,PF ∅]
  simp
 have e4:(u++(v++z::r)).drop (u.length + v.length + 1)=r:=by
  rw[← Sk,e3];rfl
 rw[e1,e2,e3,e4];exact h
theorem Bk{D B:List Nat}(d:Dn lt (D++B))(e:∀ y∈B,∀ z∈B,Le lt y z):Dn lt (D++B.reverse):=by
 obtain⟨d1,d2,d3⟩:=å.mp d;refine å.mpr ⟨d1,Vl.mpr ?_,λx hx y hy=>d3 x hx y (Ro.mp hy)⟩;exact d2.imp_of_mem λha hb _=>e _ ha _ hb
structure DI(lt:Nat->Nat->Bool)(l:List Nat)(x q:Nat)(D B R:List Nat):Prop where
 perm:(D++(B++R)).Perm l
 lb:B.length=q + 1
 ld:D.length + B.length=x
 dn:Dn lt (D++B)
 eq:∀ y∈B,∀ z∈B,Le lt y z
theorem DI.len{l D B R:List Nat}{x q:Nat}(d:DI lt l x q D B R):x + R.length=l.length:=by
 have:=d.perm.length_eq;rw[Ü,Ü] at this;have:=d.ld;omega
theorem DI.rev{l D B R:List Nat}{x q:Nat}(d:DI lt l x q D B R):DI lt l x q D B.reverse R where
 perm:=(((Tq B).append_right R).append_left D).trans d.perm
 lb:=by rw[RV];exact d.lb
 ld:=by rw[RV];exact d.ld
 dn:=Bk d.dn d.eq
 eq y hy z hz:=d.eq y (Ro.mp hy) z (Ro.mp hz)
theorem Ef(od:Od lt)(O:zy prog w A s κ it n lt){pre l:List Nat}(bd:∀ x∈pre++l,x < n){m:Nat}(h1:1<=m){D B R:List Nat}(d:DI lt l m 0 D B R){Q:Option (Option Nat) × Nat × Nat->OL->Prop}
  (h:∀ k q D B R,DI lt l k q D B R->Q (none,k,q) (sS κ it (pre++(D++(B++R))) p g)):wpS (Ù prog w) A E s (forIn [m:l.length] ((none,m,0):Option (Option Nat) × Nat × Nat) λ_ c=>do
   let x ← ltAt' (pre.length + c.snd.fst) (pre.length + c.snd.fst - 1)
   match x with
   |some smaller =>
    if smaller=true then
     if c.snd.snd > 0 then do
      VG (pre.length + c.snd.fst - (c.snd.snd + 1)) (pre.length + c.snd.fst)
      pure (Sv (none,c.snd.fst + 1,0))
     else pure (Sv (none,c.snd.fst + 1,0))
    else do
     let x ← ltAt' (pre.length + c.snd.fst - 1) (pre.length + c.snd.fst)
     match x with
     |some larger=>if larger=true then pure (Qu (none,c.snd.fst,c.snd.snd)) else pure (Sv (none,c.snd.fst + 1,c.snd.snd + 1))|_=>pure (Qu (some none,c.snd.fst,c.snd.snd))
   |_=>pure (Qu (some none,c.snd.fst,c.snd.snd))) Q (sS κ it (pre++(D++(B++R))) p g):=by
 refine OW (I:=λx c σ=>∃ q D B R,DI lt l x q D B R/\c=(none,x,q)/\σ=sS κ it (pre++(D++(B++R))) p g) (λx c σ hx hl I=>?_) (λc σ I=>?_) ⟨0,D,B,R,d,rfl,rfl⟩
 ·obtain⟨q,D,B,R,d,rfl,rfl⟩:=I;have hlen:=d.len;have hB:=d.lb;have hD:=d.ld
  match R,d,hlen with
  |[],_,hlen=>exact absurd hlen (by simp;omega)
  |r::R,d,hlen =>
  obtain⟨B0,b,rfl⟩:∃ B0 b,B=B0++[b]:=⟨B.dropLast,B.getLast (by intro e;rw[e] at hB;simp at hB),(Qt _).symm⟩
  have bd':∀ z∈pre++(D++(B0++[b]++r::R)),z < n:=λz hz=>bd z (by
   rcases Ì.mp hz with k | k
   ·exact ç _ k
   ·exact Ò _ (d.perm.mem_iff.mp k))
  rw[Ü,Ss] at hB hD;have lenp:(pre++(D++(B0++[b]++r::R))).length=pre.length + x + 1 + R.length:=by simp;omega
  have a1:(pre++(D++(B0++[b]++r::R))).getD (pre.length + x) 0=r:=by
   rw[show pre++(D++(B0++[b]++r::R))=(pre++D++B0++[b])++r::R by simp]
   exact nV (by simp;omega)
  have a2:(pre++(D++(B0++[b]++r::R))).getD (pre.length + x - 1) 0=b:=by
   rw[show pre++(D++(B0++[b]++r::R))=(pre++D++B0)++b::(r::R) by simp]
   exact nV (by simp;omega)
  have bmem:b∈B0++[b]:=by simp
  have lower:∀ y∈D++(B0++[b]),Le lt b y:=λy hy=>by
   have:=d.dn;rcases Ì.mp hy with k | k
   ·exact(å.mp this).2.2 y k b bmem
   ·exact d.eq b bmem y k
  refine Ó (ki O bd' (by dsimp only;omega) (by dsimp only;omega) ?_)
  dsimp only;rw[a1,a2];cases c1:lt r b with
  |true =>
   rw[if_pos rfl];have go:∀ B',DI lt l x q D B' (r::R)->(∀ y∈B',Le lt r y)->(∀ y∈D,Le lt r y)->∃ q' D' B'' R',DI lt l (x + 1) q' D' B'' R'/\(((none,x + 1,0):Option (Option Nat) × Nat × Nat)=(none,x + 1,q'))/\sS κ it (pre++(D++(B'++r::R))) p g=sS κ it (pre++(D'++(B''++R'))) p g:=λB' d' h1 h2 =>
    ⟨0,D++B',[r],R,⟨by have:=d'.perm;simpa using this,rfl,by rw[Ü];exact congrArg (· + 1) d'.ld,Dn.snoc d'.dn λy hy=>by
     rcases Ì.mp hy with k | k
     ·exact h2 y k
     ·exact h1 y k,λy hy z hz=>by rw[Ð.mp hy,Ð.mp hz];exact od.refl r⟩,rfl,by simp⟩
   have rl:∀ y∈D++(B0++[b]),Le lt r y:=λy hy=>od.tr _ _ _ (od.le c1) (lower y hy);by_cases hq:q > 0
   ·rw[if_pos hq];rw[show pre++(D++(B0++[b]++r::R))=(pre++D)++((B0++[b])++r::R) by simp]
    refine Ó (mY (by simp;omega) (by simp;omega) (Þ ?_))
    rw[Ý pre];exact go _ d.rev (λy hy=>rl y (Ò _ (Ro.mp hy))) λy hy=>rl y (ç _ hy)
   ·rw[if_neg hq];exact Þ (go _ d (λy hy=>rl y (Ò _ hy)) λy hy=>rl y (ç _ hy))
  |false =>
   rw[if_neg (-0)]
   refine Ó (ki O bd' ∅ ∅ ?_)
   dsimp only;rw[a1,a2];cases c2:lt b r with
   |true=>exact Þ (h x q D _ _ d)
   |false =>
    refine Þ ⟨q + 1,D,B0++[b]++[r],R,⟨by have:=d.perm;simpa using this,by simp;omega,by simp;omega,?_,λy hy z hz=>?_⟩,rfl,by simp⟩
    ·rw[← Ý];exact Dn.snoc d.dn λy hy=>od.tr _ _ _ c2 (lower y hy)
    ·have rb:Le lt r b:=c2;have br:Le lt b r:=c1;have:∀ y∈B0++[b]++[r],Le lt y b/\Le lt b y:=λy hy=>by
      rcases Ì.mp hy with k | k
      ·exact⟨d.eq y k b bmem,d.eq b bmem y k⟩
      ·rw[Ð.mp k];exact⟨rb,br⟩
     exact od.tr _ _ _ (this y hy).1 (this z hz).2
 ·obtain⟨q,D,B,R,d,rfl,rfl⟩:=I;exact h _ _ _ _ _ d
theorem cQ{α:Type}{c:Bool}{a b:StateT OL Sem α}{Q:α->OL->Prop}{σ:OL}(h1:c=true->wpS (Ù prog w) A E s a Q σ)(h2:c=false->wpS (Ù prog w) A E s b Q σ):wpS (Ù prog w) A E s (if c=true then a else b) Q σ:=by
 cases c with
 |true=>exact h1 rfl|false=>exact h2 rfl
theorem lD{α:Type}{c:Prop}[Decidable c]{a b:StateT OL Sem α}{Q:α->OL->Prop}{σ:OL}(h1:c->wpS (Ù prog w) A E s a Q σ)(h2:¬ c->wpS (Ù prog w) A E s b Q σ):wpS (Ù prog w) A E s (if c then a else b) Q σ:=by
 split
 ·exact h1 (by assumption)
 ·exact h2 (by assumption)
theorem Bl(od:Od lt)(O:zy prog w A s κ it n lt){pre l:List Nat}(bd:∀ x∈pre++l,x < n)(h1:1<=l.length){lo z:Nat}(hlo:lo=pre.length)(hz:z=l.length){Q:Option Nat->OL->Prop}
  (h:∀ l' m,l'.Perm l->1<=m->m<=l.length->Up lt (l'.take m)->Q (some m) (sS κ it (pre++l') p g)):wpS (Ù prog w) A E s (countRun' lo z) Q (sS κ it (pre++l) p g):=by
 subst hlo hz;rw[countRun'_eq];refine Ó (Bj od O bd (Ô 1) h1 (by
  match l,h1 with
  |x::r,_=>exact OZ _ _) λk k1 kl ku ke=>?_)
 dsimp only;by_cases hk:k=l.length
 ·subst hk;rw[if_pos (beq_self_eq_true _)];exact Þ (h l _ (.refl _) k1 kl ku)
 ·rw[if_neg (by simpa using hk)]
  have hlt:k < l.length:=by omega
  have hl:=ke.resolve_left hk;have el:l=l.take k++([l.getD k 0]++l.drop (k + 1)):=by
   rw[show [l.getD k 0]++l.drop (k + 1)=l.drop k by rw[tv hlt];simp[hlt],ä]
  have e0:(pre++l).getD pre.length 0=l.getD 0 0:=nU pre l 0;have e1:(pre++l).getD (pre.length + k - 1) 0=l.getD (k - 1) 0:=by rw[show pre.length + k - 1=pre.length + (k - 1) by omega,nU]
  have c3:k > 1->lt (l.getD 0 0) (l.getD (k - 1) 0)=false->∃ D B R,DI lt l (k + 1) 0 D B R/\(l.take k).reverse++([l.getD k 0]++l.drop (k + 1))=D++(B++R):=λh2 c1=>by
   have te:∀ i,i < k->(l.take k).getD i 0=l.getD i 0:=λi hi=>by simp[Ê,OR,hi]
   have tl:(l.take k).length=k:=by rw[î];omega
   have c1':Le lt (l.getD (k - 1) 0) (l.getD 0 0):=c1;have same:∀ y∈l.take k,Le lt y (l.getD 0 0)/\Le lt (l.getD (k - 1) 0) y:=λy hy=>by
    obtain⟨i,i1,i2,rfl⟩:=cW hy;have u1:=ku.at od (i:=i) (j:=k - 1) ∅ (by rw[tl];omega)
    have u2:=ku.at od (i:=0) (j:=i) ∅ (by rw[tl];omega)
    rw[te i i1,te (k - 1) ∅] at u1
    rw[te i i1,te 0 ∅] at u2
    exact⟨od.tr _ _ _ u1 c1',od.tr _ _ _ c1' u2⟩
   have u0:=ku.at od (i:=0) (j:=k - 1) ∅ (by rw[tl];omega)
   rw[te 0 ∅,te (k - 1) ∅] at u0
   have eql:∀ y∈l.take k,∀ z∈l.take k,Le lt y z:=λy hy z hz=>od.tr _ _ _ (same y hy).1 (od.tr _ _ _ u0 (same z hz).2);refine⟨_,_,_,⟨?_,rfl,by rw[RV,tl];rfl,?_,λy hy z hz=>by rw[Ð.mp hy,Ð.mp hz];exact od.refl _⟩,rfl⟩
   ·refine((Tq (l.take k)).append_right _).trans ?_;rw[← el]
   ·refine Dn.snoc (Bk (D:=[]) (B:=l.take k) (ku.imp_of_mem λha hb _=>eql _ hb _ ha) eql) λy hy=>?_;have hy:=Ro.mp hy;exact od.tr _ _ _ (od.le hl) (same y hy).2
  have c4:¬ k > 1->∃ D B R,DI lt l (k + 1) 0 D B R/\l=D++(B++R):=λh2=>by
   have e1:k=1:=by omega
   subst e1
   match l,hlt,hl with
   |x::y::R,_,hl =>
    refine⟨[x],[y],R,⟨.refl _,rfl,rfl,?_,λa ha b hb=>by rw[Ð.mp ha,Ð.mp hb];exact od.refl y⟩,rfl⟩
    exact Dn.snoc (OZ _ _) λz hz=>by rw[Ð.mp hz];exact od.le hl
  apply ei
  case a =>
   intro sh;refine lD (λh2=>Ó (ki O bd (by clear sh;rw[Ü];omega) (by clear sh;rw[Ü];omega) ?_)) (λh2=>?_)
   ·dsimp only;rw[e0,e1];refine cQ (λc1=>Þ (h l k (.refl _) k1 kl ku)) λc1=>?_;obtain⟨D,B,R,dd,ed⟩:=c3 h2 c1;rw[show pre++l=pre++(l.take k++([l.getD k 0]++l.drop (k + 1))) by rw[← el]]
    refine Ó (mY rfl (by clear sh;rw[î];omega) ?_)
    rw[ed];clear ed
    revert dd;revert R;revert B;revert D
    exact sh
   ·obtain⟨D,B,R,dd,ed⟩:=c4 h2;rw[show pre++l=pre++(D++(B++R)) by rw[← ed]]
    exact sh D B R dd
  case b =>
   intro D B R dd;refine Ó (jc (Ó (Ef od O bd ∅ dd λm q D B R d=>?_)))
   dsimp only;apply ei
   case a =>
    intro sh;have hB:=d.lb;have hD:=d.ld;by_cases hq:q > 0
    ·rw[if_pos hq,← Ý pre];refine Ó (mY (by clear sh;rw[Ü];omega) (by clear sh;rw[Ü];omega) ?_)
     rw[Ý pre];have d2:=d.rev;generalize B.reverse=B2 at d2 ⊢
     revert d2;revert B2
     exact sh
    ·rw[if_neg hq];exact sh B d
   case b =>
    clear d B;intro B d;have hB:=d.lb;have hD:=d.ld;have hm:=d.len;rw[← Ý D];refine Ó (mY rfl (by rw[Ü];omega) ?_)
    have pm:((D++B).reverse++R).Perm l:=((Tq (D++B)).append_right R).trans (by rw[Ý];exact d.perm)
    have JK:∀ x∈pre++((D++B).reverse++R),x < n:=λx hx=>bd x (by
     rcases Ì.mp hx with k | k
     ·exact ç _ k
     ·exact Ò _ (pm.mem_iff.mp k))
    have tk:((D++B).reverse++R).take m=(D++B).reverse:=by
     rw[T5 (by simp;omega),Qe (by simp;omega)]
    rw[← pm.length_eq];refine Ó (Bj od O JK ∅ (by rw[pm.length_eq];omega) (by rw[tk];exact Dn.rev d.dn) λj j1 jl ju _=>?_)
    exact Þ (h _ j pm ∅ (by rw[← pm.length_eq];exact jl) ju)
theorem Hu(od:Od lt)(O:zy prog w A s κ it n lt){pre l:List Nat}(bd:∀ x∈pre++l,x < n){lo m k:Nat}(hlo:lo=pre.length)(h1:1<=k)(hk:k<=m)(hm:m<=l.length)(u:Up lt (l.take k)){Q:Bool->OL->Prop}
  (h:∀ l',l'.Perm l->Up lt (l'.take m)->Q true (sS κ it (pre++l') p g)):wpS (Ù prog w) A E s (binarySort' lo m k) Q (sS κ it (pre++l) p g):=by
 subst hlo;rw[binarySort'_eq,Xe h1];refine Ó (OW (I:=λx c σ=>c=(none,())/\∃ S R,S.length=x/\Up lt S/\(S++R).Perm l/\σ=sS κ it (pre++(S++R)) p g) (λx c σ hx hl I=>?_) (λc σ I=>?_) ⟨rfl,l.take k,l.drop k,by rw[î];omega,u,by rw[ä],by rw[ä]⟩)
 ·obtain⟨rfl,S,R,hS,uS,pS,rfl⟩:=I;have hlen:=pS.length_eq;rw[Ü] at hlen
  match R,pS,hlen with
  |[],_,hlen=>exact absurd hlen (by simp;omega)
  |z::R,pS,hlen =>
  have bd':∀ y∈pre++(S++z::R),y < n:=λy hy=>bd y (by
   rcases Ì.mp hy with q | q
   ·exact ç _ q
   ·exact Ò _ (pS.mem_iff.mp q))
  have lenp:(pre++(S++z::R)).length=pre.length + x + 1 + R.length:=by simp;omega
  have az:(pre++(S++z::R)).getD (pre.length + x) 0=z:=by rw[nU];exact nV hS.symm
  have aS:∀ i,i < x->(pre++(S++z::R)).getD (pre.length + i) 0=S.getD i 0:=λi hi=>by
   rw[nU,Ê,Ê,QN ∅]
  refine Ó (QS (OW (I:=λy c σ=>σ=sS κ it (pre++(S++z::R)) p g/\∃ i j,c=(none,(i,j))/\i<=j/\j<=x/\j - i<=x - y/\(∀ t,t < i->Le lt (S.getD t 0) z)/\(∀ t,j<=t->t < x->Le lt z (S.getD t 0)))
   (Q:=λc σ=>σ=sS κ it (pre++(S++z::R)) p g/\∃ i j,c=(none,(i,j))/\i<=x/\(∀ t,t < i->Le lt (S.getD t 0) z)/\(∀ t,i<=t->t < x->Le lt z (S.getD t 0))) (λy c σ _ hy I=>?_) (λc σ I=>?_) ⟨rfl,0,x,rfl,by omega,by omega,by omega,λt ht=>by omega,λt h1 h2=>by omega⟩) λc σ I=>?_)
  ·obtain⟨rfl,i,j,rfl,hij,hj,hm',h1',h2'⟩:=I;dsimp only;refine lD (λq=>Þ ⟨rfl,i,j,rfl,by omega,h1',λt t1 t2=>h2' t ∅ t2⟩) λq=>?_
   refine Ó (ki O bd' ∅ ∅ ?_)
   dsimp only;rw[az,aS _ ∅]
   refine cQ (λc1=>Þ ⟨rfl,i,(i + j) / 2,rfl,by omega,by omega,by omega,h1',λt t1 t2=>?_⟩) λc1=>Þ ⟨rfl,(i + j) / 2 + 1,j,rfl,by omega,by omega,by omega,λt t1=>?_,h2'⟩
   ·exact od.tr _ _ _ (od.le c1) (uS.at od t1 ∅)
   ·exact od.tr _ _ _ (uS.at od ∅ ∅) c1
  ·obtain⟨rfl,i,j,rfl,hij,hj,hm',h1',h2'⟩:=I;exact⟨rfl,i,j,rfl,by omega,h1',λt t1 t2=>h2' t ∅ t2⟩
  ·obtain⟨rfl,i,j,rfl,hi,h1',h2'⟩:=I;dsimp only;have e:pre++(S++z::R)=(pre++S.take i)++(S.drop i++z::R):=by
    rw[Ý,← Ý (S.take i),ä]
   rw[e];have lt1:(S.take i).length=i:=by rw[î];omega
   refine Ó (Ee (by rw[Ü,lt1,OQ];omega) (by rw[Ü,lt1]) (Þ ⟨rfl,S.take i++z::S.drop i,R,?_,?_,?_,by simp⟩))
   ·rw[Ü,æ,lt1,OQ];omega
   ·refine de (uS.sublist (PR i S)) (ÿ.mpr ⟨λy hy=>?_,uS.sublist (Qr i S)⟩) λy hy y' hy'=>?_
    ·obtain⟨t,t1,t2,rfl⟩:=ft hy;exact h2' t t1 ∅
    ·rcases Û.mp hy' with rfl | hy'
     ·obtain⟨t,t1,t2,rfl⟩:=cW hy;exact h1' t t1
     ·have:=uS;rw[← ä i S] at this;exact(å.mp this).2.2 y hy y' hy'
   ·refine Rm ?_ pS;have e2:S++z::R=S.take i++(S.drop i++z::R):=by rw[← Ý,ä]
    rw[e2,Ý];refine Uz _ ?_;exact(List.perm_middle (l₁:=S.drop i) (l₂:=R)).symm
 ·obtain⟨rfl,S,R,hS,uS,pS,rfl⟩:=I;rw[W3 hk] at hS;exact Þ (h _ pS (by rw[← hS,U5];exact uS))
def Eg:Bool->Keyed->Array Keyed->Nat->Nat->Nat->StateT SortSt Sem (Option Nat):=sortPriv% PySem.Builtin.gallop
theorem rM(O:zy prog w A s κ it n lt){left:Bool}{y:Nat}(hy:y < n){l:List Nat}(bd:∀ x∈l,x < n){i:Nat}(hi:i < l.length){a:List Nat}{Q:Option Bool->OL->Prop}(h:Q (some (jk lt left y l i)) (sS κ it a p g)):wpS (Ù prog w) A E s (do
   let x ← elem' (ar it l) i
   if left=true then lt' x (AJ it y) else do
    let b ← lt' (AJ it y) x
    pure (b.map (!·))) Q (sS κ it a p g):=by
 refine Ó (cw hi ?_);unfold jk at h;refine cQ (λc=>tR O (bd _ (cP hi)) hy ?_) λc=>Ó (tR O hy (bd _ (cP hi)) (Þ ?_))
 ·rw[if_pos c] at h;exact h
 ·rw[if_neg (by rw[c];decide)] at h;exact h
theorem lE(od:Od lt)(O:zy prog w A s κ it n lt){left:Bool}{y:Nat}(hy:y < n){l:List Nat}(bd:∀ x∈l,x < n){b z hint:Nat}(h1:b + z<=l.length)(h2:hint < z)(u:Up lt ((l.drop b).take z)){a:List Nat}{Q:Option Nat->OL->Prop}
  (h:∀ k,k<=z->(∀ i,i < k->jk lt left y l (b + i)=true)->(∀ i,k<=i->i < z->jk lt left y l (b + i)=false)->Q (some k) (sS κ it a p g)):wpS (Ù prog w) A E s (Eg left (AJ it y) (ar it l) b z hint) Q (sS κ it a p g):=by
 have mono:∀ i j,i<=j->j < z->jk lt left y l (b + j)=true->jk lt left y l (b + i)=true:=λi j hij hj e=>Bh od u hij hj h1 e;have mono':∀ i j,i<=j->j < z->jk lt left y l (b + i)=false->jk lt left y l (b + j)=false:=λi j hij hj e=>by
  cases q:jk lt left y l (b + j) with
  |false=>rfl|true=>rw[mono i j hij hj q] at e;cases e
 have fin:∀ lo hi,lo<=hi->hi<=z->(∀ i,i < lo->jk lt left y l (b + i)=true)->(∀ i,hi<=i->i < z->jk lt left y l (b + i)=false)->∀ c:Option (Option Nat) × Nat × Nat,c=(none,(lo,hi))->∀ {f:Option (Option Nat) × Nat × Nat->StateT OL Sem (Option Nat)},(∀ i j,f (none,(i,j))=pure (some j))->wpS (Ù prog w) A E s (do
   let c ← forIn [0:z] c λ_ c=>if c.snd.fst ≥ c.snd.snd then pure (Qu (none,(c.snd.fst,c.snd.snd))) else do
    let more ← (do
     let x ← elem' (ar it l) (b + (c.snd.fst + (c.snd.snd - c.snd.fst) / 2))
     if left=true then lt' x (AJ it y) else do
      let b ← lt' (AJ it y) x
      pure (b.map (!·)))
    match more with
    |some more=>if more=true then pure (Sv (none,(c.snd.fst + (c.snd.snd - c.snd.fst) / 2 + 1,c.snd.snd))) else pure (Sv (none,(c.snd.fst,c.snd.fst + (c.snd.snd - c.snd.fst) / 2)))|_=>pure (Qu (some none,(c.snd.fst,c.snd.snd)))
   f c) Q (sS κ it a p g):=λlo hi hl hh b1 b2 c hc f hf=>by
  subst hc;refine Ó (QS (OW (I:=λx c σ=>σ=sS κ it a p g/\∃ i j,c=(none,(i,j))/\i<=j/\j<=z/\j - i<=z - x/\(∀ t,t < i->jk lt left y l (b + t)=true)/\(∀ t,j<=t->t < z->jk lt left y l (b + t)=false))
   (Q:=λc σ=>σ=sS κ it a p g/\∃ i j,c=(none,(i,j))/\j<=z/\(∀ t,t < j->jk lt left y l (b + t)=true)/\(∀ t,j<=t->t < z->jk lt left y l (b + t)=false)) (λx c σ _ hx I=>?_) (λc σ I=>?_) ⟨rfl,lo,hi,rfl,hl,hh,by omega,b1,b2⟩) λc σ I=>?_)
  ·obtain⟨rfl,i,j,rfl,hij,hj,hm,h1',h2'⟩:=I;dsimp only;refine lD (λq=>Þ ⟨rfl,i,j,rfl,hj,λt ht=>h1' t ∅,h2'⟩) λq=>?_
   refine Ó (rM O hy bd ∅ ?_)
   dsimp only;refine cQ (λc1=>Þ ⟨rfl,i + (j - i) / 2 + 1,j,rfl,by omega,hj,by omega,λt ht=>mono t _ ∅ ∅ c1,h2'⟩) λc1=>Þ ⟨rfl,i,i + (j - i) / 2,rfl,by omega,by omega,by omega,h1',λt t1 t2=>mono' _ t t1 t2 c1⟩
  ·obtain⟨rfl,i,j,rfl,hij,hj,hm,h1',h2'⟩:=I;exact⟨rfl,i,j,rfl,hj,λt ht=>h1' t ∅,h2'⟩
  ·obtain⟨rfl,i,j,rfl,hj,h1',h2'⟩:=I;rw[hf];exact Þ (h j hj h1' h2')
 refine Ó (rM O hy bd ∅ ?_)
 dsimp only;refine cQ (λc=>?_) λc=>?_
 ·refine Ó (QS (OW (I:=λx c σ=>σ=sS κ it a p g/\∃ i j,c=(none,(i,j))/\i < j/\hint + i < z/\x < j/\jk lt left y l (b + (hint + i))=true)
   (Q:=λc σ=>σ=sS κ it a p g/\∃ i j,c=(none,(i,j))/\i < j/\hint + i < z/\jk lt left y l (b + (hint + i))=true/\(hint + j < z->jk lt left y l (b + (hint + j))=false)) (λx c σ _ hx I=>?_) (λc σ I=>?_) ⟨rfl,0,1,rfl,by omega,by omega,by omega,c⟩) λc σ I=>?_)
  ·obtain⟨rfl,i,j,rfl,hij,hi,hxj,hb⟩:=I;dsimp only;refine lD (λq=>Þ ⟨rfl,i,j,rfl,hij,hi,hb,λ_=>by omega⟩) λq=>?_
   refine Ó (rM O hy bd ∅ ?_)
   dsimp only;refine cQ (λc1=>Þ ⟨rfl,i,j,rfl,hij,hi,hb,λ_=>by simpa using c1⟩) λc1=>Þ ⟨rfl,j,2 * j + 1,rfl,by omega,by omega,by omega,by simpa using c1⟩
  ·obtain⟨rfl,i,j,rfl,hij,hi,hxj,hb⟩:=I;exact⟨rfl,i,j,rfl,hij,hi,hb,λ_=>by omega⟩
  ·obtain⟨rfl,i,j,rfl,hij,hi,hb,hj⟩:=I;dsimp only;refine fin (hint + i + 1) (hint + min j (z - hint)) ∅ ∅ (λt ht=>mono t _ ∅ hi hb) (λt t1 t2=>mono' (hint + j) t ∅ t2 (hj ∅)) _ rfl λ_ _=>rfl
 ·refine Ó (QS (OW (I:=λx c σ=>σ=sS κ it a p g/\∃ i j,c=(none,(i,j))/\i < j/\i<=hint/\x < j/\jk lt left y l (b + (hint - i))=false)
   (Q:=λc σ=>σ=sS κ it a p g/\∃ i j,c=(none,(i,j))/\i < j/\i<=hint/\jk lt left y l (b + (hint - i))=false/\(j<=hint->jk lt left y l (b + (hint - j))=true)) (λx c σ _ hx I=>?_) (λc σ I=>?_) ⟨rfl,0,1,rfl,by omega,by omega,by omega,c⟩) λc σ I=>?_)
  ·obtain⟨rfl,i,j,rfl,hij,hi,hxj,hb⟩:=I;dsimp only;refine lD (λq=>Þ ⟨rfl,i,j,rfl,hij,hi,hb,λ_=>by omega⟩) λq=>?_
   refine Ó (rM O hy bd ∅ ?_)
   dsimp only;refine cQ (λc1=>Þ ⟨rfl,i,j,rfl,hij,hi,hb,λ_=>c1⟩) λc1=>Þ ⟨rfl,j,2 * j + 1,rfl,by omega,by omega,by omega,c1⟩
  ·obtain⟨rfl,i,j,rfl,hij,hi,hxj,hb⟩:=I;exact⟨rfl,i,j,rfl,hij,hi,hb,λ_=>by omega⟩
  ·obtain⟨rfl,i,j,rfl,hij,hi,hb,hj⟩:=I;dsimp only;refine fin (hint + 1 - min j (hint + 1)) (hint - i) ∅ ∅ (λt ht=>mono t (hint - j) ∅ ∅ (hj ∅)) (λt t1 t2=>mono' (hint - i) t ∅ t2 hb) _ rfl λ_ _=>rfl
end
section
variable {prog:í}{w:ü}{A:p8}{E:Ä->É->Prop}{s:É}{κ:Q6}{it:Array Uq}{n:Nat}{lt:Nat->Nat->Bool}
variable {a0:List Nat}{p:List (Nat × Nat × Nat)}{g:Nat}
theorem xO{α β:Type}{x:StateT OL Sem α}{f:α->StateT OL Sem β}{Q:β->OL->Prop}{σ:OL}(h:wpS (Ù prog w) A E s (x >>= f) Q σ):wpS (Ù prog w) A E s (x >>= f) Q σ:=h
theorem xP{α:Type}{c:Prop}[Decidable c]{a b:StateT OL Sem α}{Q:α->OL->Prop}{σ:OL}(h:wpS (Ù prog w) A E s (if c then a else b) Q σ):wpS (Ù prog w) A E s (if c then a else b) Q σ:=h
theorem mZ(l:List Nat)(i:Nat):(ar it l).extract i (ar it l).size=ar it (l.drop i):=by rw[nT,bN,QI]
theorem rN(l:List Nat)(i k:Nat):(ar it l).extract i (i + k)=ar it ((l.drop i).take k):=by rw[nT,List.take_drop]
theorem Eh{l:List Nat}{i:Nat}(h:(i == (ar it l).size)=true):i=l.length:=by rw[bN] at h;exact eq_of_beq h
theorem Ei{l:List Nat}{i:Nat}(h:(i == (ar it l).size)=false):i≠l.length:=by rw[bN] at h;exact ne_of_beq_false h
theorem drop_one{l:List Nat}{i:Nat}(h:i < l.length):(l.drop i).take 1=[l.getD i 0]:=by
 rw[tv h];show [l[i]]=_;simp[h]
theorem eQ(od:Od lt){l:List Nat}{i:Nat}(u:Up lt (l.drop i))(h:i < l.length){y:Nat}(hy:y∈l.drop i):Le lt (l.getD i 0) y:=by
 rw[tv h] at u hy;rcases Û.mp hy with rfl | hy
 ·simp[h];exact od.refl _
 ·have:=(ÿ.mp u).1 y hy;simpa [h] using this
section
variable {a b o cj:List Nat}{i j k:Nat}
theorem MI.qv(m:MI lt cj o (a.drop i) (b.drop j))(hi:i < a.length)(h:∀ y∈b.drop j,Le lt (a.getD i 0) y):MI lt cj (o++[a.getD i 0]) (a.drop (i + 1)) (b.drop j):=by
 have:=m.tP 1 (by rw[drop_one hi];intro x hx;rw[Ð.mp hx];exact h)
 rwa [drop_one hi,Sk] at this
theorem MI.qw(m:MI lt cj o (a.drop i) (b.drop j))(hj:j < b.length)(h:∀ y∈a.drop i,Le lt (b.getD j 0) y):MI lt cj (o++[b.getD j 0]) (a.drop i) (b.drop (j + 1)):=by
 have:=m.tQ 1 (by rw[drop_one hj];intro x hx;rw[Ð.mp hx];exact h)
 rwa [drop_one hj,Sk] at this
end
theorem lF(od:Od lt){left:Bool}{y i:Nat}{l:List Nat}:(jk lt left y l i=true->Le lt (l.getD i 0) y)/\(jk lt left y l i=false->Le lt y (l.getD i 0)):=by
 unfold jk;cases left with
 |true=>exact⟨λh=>od.le (by simpa using h),λh=>by unfold Le;simpa using h⟩|false=>exact⟨λh=>by unfold Le;simpa using h,λh=>od.le (by simpa using h)⟩
theorem Bm(od:Od lt){left:Bool}{y i z k:Nat}{l:List Nat}(hz:i + z=l.length)(hk:k<=z)(k1:∀ t,t < k->jk lt left y l (i + t)=true)(k2:∀ t,k<=t->t < z->jk lt left y l (i + t)=false):(∀ x∈(l.drop i).take k,Le lt x y)/\∀ x∈l.drop (i + k),Le lt y x:=by
 refine⟨λx hx=>?_,λx hx=>?_⟩
 ·obtain⟨t,t1,t2,rfl⟩:=cW hx;rw[Ê,P4,← Ê];exact(lF od).1 (k1 t t1)
 ·obtain⟨t,t1,t2,rfl⟩:=ft hx;have:=(lF od).2 (k2 (t - i) ∅ ∅)
  rwa [show i + (t - i)=t by omega] at this
def tV:Array Keyed->Array Keyed->StateT SortSt Sem (Array Keyed):=sortPriv% PySem.Builtin.mergeLo
structure ML(lt:Nat->Nat->Bool)(a b o:List Nat)(i j:Nat):Prop where
 mi:MI lt (a++b) o (a.drop i) (b.drop j)
 hi:i + 1 < a.length
 hj:j < b.length
theorem wa(od:Od lt)(O:zy prog w A s κ it n lt){a b:List Nat}(bd:∀ x∈a++b,x < n)(ua:Up lt a)(ub:Up lt b)(la:1<=a.length)(lb:1<=b.length)(first:Le lt (b.getD 0 0) (a.getD 0 0))(last:∀ z,a.getLast?=some z->∀ y∈b,Le lt y z){Q:Array Uq->OL->Prop}
  (h:∀ r g',r.Perm (a++b)->Up lt r->Q (ar it r) (sS κ it a0 p g')):wpS (Ù prog w) A E s (tV (ar it a) (ar it b)) Q (sS κ it a0 p g):=by
 have bda:∀ x∈a,x < n:=λx hx=>bd x (ç _ hx);have bdb:∀ x∈b,x < n:=λx hx=>bd x (Ò _ hx);have m0:MI lt (a++b) [] (a.drop 0) (b.drop 0):=⟨.refl _,.nil,λx hx=>absurd hx (by simp),ua,ub,last⟩
 have m1:MI lt (a++b) [b.getD 0 0] (a.drop 0) (b.drop (0 + 1)):=m0.qw ∅ λy hy=>od.tr _ _ _ first (eQ od (l:=a) (i:=0) ua ∅ hy)
 have fin:∀ o i j,MI lt (a++b) o (a.drop i) (b.drop j)->(i=a.length∨j=b.length)->∀ g',Q (ar it o++(ar it a).extract i (ar it a).size++(ar it b).extract j (ar it b).size) (sS κ it a0 p g'):=λo i j m e g'=>by
  rw[mZ,mZ,eP,eP];have:=m.done (e.imp (λe=>by rw[e,R4]) λe=>by rw[e,R4])
  exact h _ g' this.1 this.2
 have finA:∀ o i j,MI lt (a++b) o (a.drop i) (b.drop j)->i + 1=a.length->∀ g',Q (ar it o++(ar it b).extract j (ar it b).size++(ar it a).extract i (ar it a).size) (sS κ it a0 p g'):=λo i j m e g'=>by
  rw[mZ,mZ,eP,eP];have:=m.Ko (by rw[OQ];omega)
  exact h _ g' this.1 this.2
 refine Ó (jc (Ó (cw ∅ ?_)))
 first | refine xO ?_ | refine xP ?_ | skip
 try dsimp -zeta only
 refine cQ (λc=>Þ (fin _ 0 1 m1 (.inr (Eh c)) _)) λc=>?_;refine cQ (λc'=>Þ (finA _ 0 1 m1 (Eh c') _)) λc'=>?_;have hb:1 < b.length:=by have:=Ei c;omega
 have ha:0 + 1 < a.length:=by have:=Ei c';omega
 refine Ó (Sj ?_);refine Ó (QS (OW (I:=λx c σ=>(∃ g,σ=sS κ it a0 p g)/\∃ o i j mg,c=(none,ar it o,i,j,mg)/\ML lt a b o i j/\x + 1<=i + j) (Q:=λc σ=>(∃ g,σ=sS κ it a0 p g)/\∃ r,c.1=some r/\∀ g',Q r (sS κ it a0 p g')) (λx c σ _ hx I=>?_) (λc σ I=>?_) ⟨⟨_,rfl⟩,_,_,_,_,rfl,⟨m1,ha,hb⟩,by omega⟩) λc σ I=>?_)
 ·obtain⟨⟨g,rfl⟩,o,i,j,mg,rfl,m,hp⟩:=I;refine Ó (QS (OW (I:=λy c σ=>σ=sS κ it a0 p g/\∃ o i j ac bc,c=(none,ar it o,i,j,ac,bc)/\ML lt a b o i j/\x + 1 + y<=i + j) (Q:=λc σ=>σ=sS κ it a0 p g/\((∃ r,c.1=some r/\∀ g',Q r (sS κ it a0 p g'))∨∃ o i j ac bc,c=(none,ar it o,i,j,ac,bc)/\ML lt a b o i j/\x + 2<=i + j)) (λy c σ _ hy I=>?_) (λc σ I=>?_) ⟨rfl,_,_,_,_,_,rfl,m,by omega⟩) λc σ I=>?_)
  ·obtain⟨rfl,o,i,j,ac,bc,rfl,m,hp⟩:=I
   first | refine xO ?_ | refine xP ?_ | skip
   try dsimp -zeta only
   have hi:=m.hi;have hj:=m.hj;refine Ó (cw hj (Ó (cw ∅ (Ó (tR O (bdb _ (cP hj)) (bda _ (cP ∅)) ?_)))))
   first | refine xO ?_ | refine xP ?_ | skip
   try dsimp -zeta only
   refine cQ (λc1=>?_) λc1=>?_
   ·have m2:=m.mi.qw hj λy hy=>od.tr _ _ _ (od.le c1) (eQ od m.mi.upA ∅ hy)
    refine Ó (cw hj ?_);rw[kh];refine cQ (λc2=>Þ ⟨rfl,.inl ⟨_,rfl,fin _ _ _ m2 (.inr (Eh c2))⟩⟩) λc2=>?_;have c2:=Ei c2;exact lD (λ_=>Þ ⟨rfl,.inr ⟨_,_,_,_,_,rfl,⟨m2,hi,by omega⟩,by omega⟩⟩) λ_=>Þ ⟨rfl,_,_,_,_,_,rfl,⟨m2,hi,by omega⟩,by omega⟩
   ·have m2:=m.mi.qv ∅ λy hy=>od.tr _ _ _ c1 (eQ od m.mi.upB hj hy)
    refine Ó (cw ∅ ?_)
    rw[kh];refine cQ (λc2=>Þ ⟨rfl,.inl ⟨_,rfl,finA _ _ _ m2 (Eh c2)⟩⟩) λc2=>?_;have c2:=Ei c2;exact lD (λ_=>Þ ⟨rfl,.inr ⟨_,_,_,_,_,rfl,⟨m2,by omega,hj⟩,by omega⟩⟩) λ_=>Þ ⟨rfl,_,_,_,_,_,rfl,⟨m2,by omega,hj⟩,by omega⟩
  ·obtain⟨rfl,o,i,j,ac,bc,rfl,m,hp⟩:=I;exact⟨rfl,.inr ⟨o,i,j,ac,bc,rfl,m,by rw[bN,bN] at hp;omega⟩⟩
  ·obtain⟨rfl,I⟩:=I;rcases I with ⟨r,hr,hq⟩ | ⟨o,i,j,ac,bc,rfl,m,hp⟩
   ·obtain⟨c1,c2⟩:=c;cases hr;exact Þ ⟨⟨_,rfl⟩,r,rfl,hq⟩
   ·first | refine xO ?_ | refine xP ?_ | skip
    try dsimp -zeta only
    refine Ó (jc ?_);refine Ó (QS (OW (I:=λy c σ=>(∃ g,σ=sS κ it a0 p g)/\∃ o i j mg ac bc,c=(none,ar it o,i,j,mg,ac,bc)/\ML lt a b o i j/\x + 2<=i + j) (Q:=λc σ=>(∃ g,σ=sS κ it a0 p g)/\((∃ r,c.1=some r/\∀ g',Q r (sS κ it a0 p g'))∨∃ o i j mg ac bc,c=(none,ar it o,i,j,mg,ac,bc)/\ML lt a b o i j/\x + 2<=i + j)) (λy c σ _ hy I=>?_) (λc σ I=>?_) ⟨⟨_,rfl⟩,_,_,_,_,_,_,rfl,m,by omega⟩) λc σ I=>?_)
    ·obtain⟨⟨g,rfl⟩,o,i,j,mg,ac,bc,rfl,m,hp⟩:=I
     first | refine xO ?_ | refine xP ?_ | skip
     try dsimp -zeta only
     apply ei
     case a =>
      intro sh;by_cases hm:mg > 1
      ·rw[if_pos hm];generalize mg - 1=mg2
       revert mg2
       exact sh
      ·rw[if_neg hm];exact sh mg
     case b =>
      intro mg;have hi:=m.hi;have hj:=m.hj;have m:=m.mi;refine Ó (Rc ?_);refine Ó (cw hj (Ó (lE od O (bdb _ (cP hj)) bda (by rw[bN];omega) (by rw[bN];omega) (m.upA.sublist (PR _ _)) λk hk k1 k2=>?_)))
      rw[bN] at hk k2;obtain⟨g1,g2⟩:=Bm od ∅ hk k1 k2
      have m2:=m.tP k λu hu v hv=>od.tr _ _ _ (g1 u hu) (eQ od m.upB hj hv);rw[Sk] at m2
      first | refine xO ?_ | refine xP ?_ | skip
      try dsimp -zeta only
      apply ei
      case a =>
       intro sh;by_cases hk0:k > 0
       ·rw[if_pos hk0,rN,eP];refine cQ (λc2=>Þ ⟨⟨_,rfl⟩,.inl ⟨_,rfl,finA _ _ _ m2 (Eh c2)⟩⟩) λc2=>?_;refine cQ (λc3=>Þ ⟨⟨_,rfl⟩,.inl ⟨_,rfl,fin _ _ _ m2 (.inl (Eh c3))⟩⟩) λc3=>?_;have c2:=Ei c2;have c3:=Ei c3;have hi:i + k + 1 < a.length:=by clear sh;omega
        have hp2:x + 2<=i + k + j:=by clear sh;omega
        have m4:=m2;have g4:=g2;generalize o++(a.drop i).take k=o2 at m4 ⊢;generalize i + k=i2 at hi hp2 m4 g4 ⊢
        revert g4;revert m4;revert hp2;revert hi;revert i2;revert o2
        exact sh
       ·rw[if_neg hk0];have hk0:k=0:=by omega
        exact sh o i hi hp m (by rw[hk0] at g2;exact g2)
      case b =>
       clear k1 k2 g1 g2 m2 hk m hi hp;intro o i2 hi hp2 m2 g2;refine Ó (cw hj ?_);rw[kh];have m3:=m2.qw hj g2;refine cQ (λc2=>Þ ⟨⟨_,rfl⟩,.inl ⟨_,rfl,fin _ _ _ m3 (.inr (Eh c2))⟩⟩) λc2=>?_;have hj:j + 1 < b.length:=by have:=Ei c2;omega
       clear m2 g2 c2;generalize o++[b.getD j 0]=o at *
       refine Ó (cw ∅ (Ó (lE od O (bda _ (cP ∅)) bdb (by rw[bN];omega) (by rw[bN];omega) (m3.upB.sublist (PR _ _)) λk hk k1 k2=>?_)))
       rw[bN] at hk k2;obtain⟨g1,g2⟩:=Bm od ∅ hk k1 k2
       have m2:=m3.tQ k λu hu v hv=>od.tr _ _ _ (g1 u hu) (eQ od m3.upA ∅ hv)
       rw[Sk] at m2
       first | refine xO ?_ | refine xP ?_ | skip
       try dsimp -zeta only
       apply ei
       case a =>
        intro sh;by_cases hk1:k > 0
        ·rw[if_pos hk1,rN,eP];refine cQ (λc3=>Þ ⟨⟨_,rfl⟩,.inl ⟨_,rfl,fin _ _ _ m2 (.inr (Eh c3))⟩⟩) λc3=>?_;have hj:j + 1 + k < b.length:=by have:=Ei c3;clear sh;omega
         have hp3:x + 2<=i2 + (j + 1 + k):=by clear sh;omega
         have m4:=m2;have g4:=g2;generalize o++(b.drop (j + 1)).take k=o2 at m4 ⊢;generalize j + 1 + k=j2 at hj hp3 m4 g4 ⊢
         revert g4;revert m4;revert hp3;revert hj;revert j2;revert o2
         exact sh
        ·rw[if_neg hk1];have hk1:k=0:=by clear sh;omega
         exact sh o (j + 1) hj ∅ m3 (by rw[hk1] at g2;exact g2)
       case b =>
        clear k1 k2 g1 g2 m2 hk m3 hj;intro o j2 hj hp3 m2 g2;refine Ó (cw ∅ ?_)
        rw[kh];have m3:=m2.qv ∅ g2
        refine cQ (λc2=>Þ ⟨⟨_,rfl⟩,.inl ⟨_,rfl,finA _ _ _ m3 (Eh c2)⟩⟩) λc2=>?_;have c2:=Ei c2;exact cQ (λ_=>Þ ⟨⟨_,rfl⟩,.inr ⟨_,_,_,_,_,_,rfl,⟨m3,by omega,by omega⟩,by omega⟩⟩) λ_=>Þ ⟨⟨_,rfl⟩,_,_,_,_,_,_,rfl,⟨m3,by omega,by omega⟩,by omega⟩
    ·obtain⟨hg,o,i,j,mg,ac,bc,rfl,m,hp⟩:=I;exact⟨hg,.inr ⟨o,i,j,mg,ac,bc,rfl,m,hp⟩⟩
    ·obtain⟨⟨g,rfl⟩,I⟩:=I;rcases I with ⟨r,hr,hq⟩ | ⟨o,i,j,mg,ac,bc,rfl,m,hp⟩
     ·obtain⟨c1,c2⟩:=c;cases hr;exact Þ ⟨⟨_,rfl⟩,r,rfl,hq⟩
     ·exact Ó (Rc (Þ ⟨⟨_,rfl⟩,_,_,_,_,rfl,m,by omega⟩))
 ·obtain⟨_,o,i,j,mg,rfl,m,hp⟩:=I;have h1:=m.hi;have h2:=m.hj;rw[bN,bN] at hp;exact absurd hp ∅
 ·obtain⟨⟨g,rfl⟩,r,hr,hq⟩:=I;obtain⟨c1,c2⟩:=c;cases hr;exact Þ (hq _)
theorem m7(l:List Nat)(k:Nat):(ar it l).extract 0 k=ar it (l.take k):=by rw[nT];rfl
theorem jd{l:List Nat}{i:Nat}(h1:1<=i)(h:i<=l.length):(l.take i).drop (i - 1)=[l.getD (i - 1) 0]:=by
 obtain⟨j,rfl⟩:∃ j,i=j + 1:=⟨i - 1,by omega⟩
 rw[lC ∅,Tc,RA,PF (by rw[î];omega),î,show j - min j l.length=0 by omega]
 rfl
theorem je(od:Od lt){l:List Nat}{i:Nat}(u:Up lt (l.take i))(h1:1<=i)(h:i<=l.length){y:Nat}(hy:y∈l.take i):Le lt y (l.getD (i - 1) 0):=by
 obtain⟨j,rfl⟩:∃ j,i=j + 1:=⟨i - 1,by omega⟩
 rw[lC ∅] at u hy
 rw[Tc];rcases Ì.mp hy with hy | hy
 ·exact(å.mp u).2.2 y hy _ Å
 ·rw[Ð.mp hy];exact od.refl _
section
variable {a b o cj:List Nat}{i j k:Nat}
theorem MH.qv(m:MH lt cj o (a.take i) (b.take j))(h1:1<=i)(hi:i<=a.length)(h:∀ y∈b.take j,Le lt y (a.getD (i - 1) 0)):MH lt cj (a.getD (i - 1) 0::o) (a.take (i - 1)) (b.take j):=by
 have:=m.tP (i - 1) (by rw[jd h1 hi];intro x hx;rw[Ð.mp hx];exact h)
 rwa [jd h1 hi,T8,QK (Nat.sub_le _ _)] at this
theorem MH.qw(m:MH lt cj o (a.take i) (b.take j))(h1:1<=j)(hj:j<=b.length)(h:∀ x∈a.take i,Le lt x (b.getD (j - 1) 0)):MH lt cj (b.getD (j - 1) 0::o) (a.take i) (b.take (j - 1)):=by
 have:=m.tQ (j - 1) (by rw[jd h1 hj];intro x hx;rw[Ð.mp hx];exact h)
 rwa [jd h1 hj,T8,QK (Nat.sub_le _ _)] at this
end
theorem xQ(od:Od lt){left:Bool}{y z k:Nat}{l:List Nat}(hz:z<=l.length)(hk:k<=z)(k1:∀ t,t < k->jk lt left y l (0 + t)=true)(k2:∀ t,k<=t->t < z->jk lt left y l (0 + t)=false):(∀ x∈l.take k,Le lt x y)/\∀ x∈(l.take z).drop k,Le lt y x:=by
 refine⟨λx hx=>?_,λx hx=>?_⟩
 ·obtain⟨t,t1,t2,rfl⟩:=cW hx;have:=(lF od).1 (k1 t t1)
  rwa [RS] at this
 ·obtain⟨t,t1,t2,rfl⟩:=ft hx;rw[î] at t2;have:=(lF od).2 (k2 t t1 ∅)
  rw[RS] at this;rw[Ê,OR,if_pos ∅,← Ê]
  exact this
theorem kj(o:List Nat)(x:Nat):(ar it o.reverse).push (AJ it x)=ar it (x::o).reverse:=by rw[kh,RH]
theorem xR(o l:List Nat)(i k:Nat):ar it o.reverse++((ar it l).extract i k).reverse=ar it ((l.take k).drop i++o).reverse:=by rw[nT,vZ,eP,List.reverse_append]
def tW:Array Keyed->Array Keyed->StateT SortSt Sem (Array Keyed):=sortPriv% PySem.Builtin.mergeHi
structure MR(lt:Nat->Nat->Bool)(a b o:List Nat)(i j:Nat):Prop where
 mi:MH lt (a++b) o (a.take i) (b.take j)
 h1:1<=i
 hi:i<=a.length
 h2:2<=j
 hj:j<=b.length
theorem wb(od:Od lt)(O:zy prog w A s κ it n lt){a b:List Nat}(bd:∀ x∈a++b,x < n)(ua:Up lt a)(ub:Up lt b)(la:1<=a.length)(lb:1<=b.length)(first:Le lt (b.getD 0 0) (a.getD 0 0))(last:∀ z,a.getLast?=some z->∀ y∈b,Le lt y z){Q:Array Uq->OL->Prop}
  (h:∀ r g',r.Perm (a++b)->Up lt r->Q (ar it r) (sS κ it a0 p g')):wpS (Ù prog w) A E s (tW (ar it a) (ar it b)) Q (sS κ it a0 p g):=by
 have bda:∀ x∈a,x < n:=λx hx=>bd x (ç _ hx);have bdb:∀ x∈b,x < n:=λx hx=>bd x (Ò _ hx);have m0:MH lt (a++b) [] (a.take a.length) (b.take b.length):=by
  rw[QI,QI];refine⟨by rw[ö],.nil,λx _ y hy=>absurd hy (by simp),ua,ub,λz hz x hx=>?_⟩
  have e:z=b.getD 0 0:=by
   cases b with
   |nil=>cases hz
   |cons y r=>cases hz;rfl
  subst e;exact od.tr _ _ _ first (eQ od (l:=a) (i:=0) ua ∅ hx)
 have m1:MH lt (a++b) [a.getD (a.length - 1) 0] (a.take (a.length - 1)) (b.take b.length):=m0.qv la (Ô _) λy hy=>by
  rw[QI] at hy;refine last _ ?_ y hy;rw[List.getLast?_eq_getElem?];simp[show a.length - 1 < a.length by omega]
 have fin:∀ o i j,MH lt (a++b) o (a.take i) (b.take j)->(i=0∨j=0)->∀ g',Q ((ar it a).extract 0 i++(ar it b).extract 0 j++(ar it o.reverse).reverse) (sS κ it a0 p g'):=λo i j m e g'=>by
  rw[m7,m7,vZ,VA,eP,eP];have:=m.done (e.imp (λe=>by rw[e];rfl) λe=>by rw[e];rfl)
  exact h _ g' this.1 this.2
 have finB:∀ o i j,MH lt (a++b) o (a.take i) (b.take j)->j=1->∀ g',Q ((ar it b).extract 0 j++(ar it a).extract 0 i++(ar it o.reverse).reverse) (sS κ it a0 p g'):=λo i j m e g'=>by
  rw[m7,m7,vZ,VA,eP,eP];have:=m.Hr (by rw[î];omega)
  exact h _ g' this.1 this.2
 refine Ó (jc (Ó (cw (by rw[bN];omega) ?_)))
 first | refine xO ?_ | refine xP ?_ | skip
 try dsimp -zeta only
 rw[bN,bN];refine cQ (λc=>Þ (fin [a.getD (a.length - 1) 0] _ _ m1 (.inl (eq_of_beq c)) _)) λc=>?_;refine cQ (λc'=>Þ (finB [a.getD (a.length - 1) 0] _ _ m1 (eq_of_beq c') _)) λc'=>?_;have c:=ne_of_beq_false c;have c':=ne_of_beq_false c';refine Ó (Sj ?_);refine Ó (QS (OW (I:=λx c σ=>(∃ g,σ=sS κ it a0 p g)/\∃ o i j mg,c=(none,i,j,ar it o.reverse,mg)/\MR lt a b o i j/\i + j + (x + 1)<=a.length + b.length) (Q:=λc σ=>(∃ g,σ=sS κ it a0 p g)/\∃ r,c.1=some r/\∀ g',Q r (sS κ it a0 p g')) (λx c σ _ hx I=>?_) (λc σ I=>?_) ⟨⟨_,rfl⟩,[a.getD (a.length - 1) 0],_,_,_,rfl,⟨m1,by omega,by omega,by omega,Ô _⟩,by omega⟩) λc σ I=>?_)
 ·obtain⟨⟨g,rfl⟩,o,i,j,mg,rfl,m,hp⟩:=I;refine Ó (QS (OW (I:=λy c σ=>σ=sS κ it a0 p g/\∃ o i j ac bc,c=(none,i,j,ar it o.reverse,ac,bc)/\MR lt a b o i j/\i + j + (x + 1 + y)<=a.length + b.length) (Q:=λc σ=>σ=sS κ it a0 p g/\((∃ r,c.1=some r/\∀ g',Q r (sS κ it a0 p g'))∨∃ o i j ac bc,c=(none,i,j,ar it o.reverse,ac,bc)/\MR lt a b o i j/\i + j + (x + 2)<=a.length + b.length)) (λy c σ _ hy I=>?_) (λc σ I=>?_) ⟨rfl,_,_,_,_,_,rfl,m,by omega⟩) λc σ I=>?_)
  ·obtain⟨rfl,o,i,j,ac,bc,rfl,m,hp⟩:=I
   first | refine xO ?_ | refine xP ?_ | skip
   try dsimp -zeta only
   obtain⟨m,h1,hi,h2,hj⟩:=m;refine Ó (cw ∅ (Ó (cw ∅ (Ó (tR O (bdb _ (cP ∅)) (bda _ (cP ∅)) ?_)))))
   first | refine xO ?_ | refine xP ?_ | skip
   try dsimp -zeta only
   refine cQ (λc1=>?_) λc1=>?_
   ·have m2:=m.qv h1 hi λy hy=>od.tr _ _ _ (je od m.upB ∅ hj hy) (od.le c1)
    refine Ó (cw ∅ ?_)
    rw[kj];refine cQ (λc2=>Þ ⟨rfl,.inl ⟨_,rfl,fin _ _ _ m2 (.inl (eq_of_beq c2))⟩⟩) λc2=>?_;have c2:=ne_of_beq_false c2;exact lD (λ_=>Þ ⟨rfl,.inr ⟨_,_,_,_,_,rfl,⟨m2,by omega,by omega,h2,hj⟩,by omega⟩⟩) λ_=>Þ ⟨rfl,_,_,_,_,_,rfl,⟨m2,by omega,by omega,h2,hj⟩,by omega⟩
   ·have m2:=m.qw ∅ hj λy hy=>od.tr _ _ _ (je od m.upA h1 hi hy) c1
    refine Ó (cw ∅ ?_)
    rw[kj];refine cQ (λc2=>Þ ⟨rfl,.inl ⟨_,rfl,finB _ _ _ m2 (eq_of_beq c2)⟩⟩) λc2=>?_;have c2:=ne_of_beq_false c2;exact lD (λ_=>Þ ⟨rfl,.inr ⟨_,_,_,_,_,rfl,⟨m2,h1,hi,by omega,by omega⟩,by omega⟩⟩) λ_=>Þ ⟨rfl,_,_,_,_,_,rfl,⟨m2,h1,hi,by omega,by omega⟩,by omega⟩
  ·obtain⟨rfl,o,i,j,ac,bc,rfl,m,hp⟩:=I;exact⟨rfl,.inr ⟨o,i,j,ac,bc,rfl,m,by omega⟩⟩
  ·obtain⟨rfl,I⟩:=I;rcases I with ⟨r,hr,hq⟩ | ⟨o,i,j,ac,bc,rfl,m,hp⟩
   ·obtain⟨c1,c2⟩:=c;cases hr;exact Þ ⟨⟨_,rfl⟩,r,rfl,hq⟩
   ·first | refine xO ?_ | refine xP ?_ | skip
    try dsimp -zeta only
    refine Ó (jc ?_);refine Ó (QS (OW (I:=λy c σ=>(∃ g,σ=sS κ it a0 p g)/\∃ o i j mg ac bc,c=(none,i,j,ar it o.reverse,mg,ac,bc)/\MR lt a b o i j/\i + j + (x + 2)<=a.length + b.length) (Q:=λc σ=>(∃ g,σ=sS κ it a0 p g)/\((∃ r,c.1=some r/\∀ g',Q r (sS κ it a0 p g'))∨∃ o i j mg ac bc,c=(none,i,j,ar it o.reverse,mg,ac,bc)/\MR lt a b o i j/\i + j + (x + 2)<=a.length + b.length)) (λy c σ _ hy I=>?_) (λc σ I=>?_) ⟨⟨_,rfl⟩,_,_,_,_,_,_,rfl,m,by omega⟩) λc σ I=>?_)
    ·obtain⟨⟨g,rfl⟩,o,i,j,mg,ac,bc,rfl,m,hp⟩:=I
     first | refine xO ?_ | refine xP ?_ | skip
     try dsimp -zeta only
     apply ei
     case a =>
      intro sh;by_cases hm:mg > 1
      ·rw[if_pos hm];generalize mg - 1=mg2
       revert mg2
       exact sh
      ·rw[if_neg hm];exact sh mg
     case b =>
      intro mg;obtain⟨m,h1,hi,h2,hj⟩:=m;refine Ó (Rc ?_);refine Ó (cw ∅ (Ó (lE od O (bdb _ (cP ∅)) bda ∅ ∅ m.upA λk hk k1 k2=>?_)))
      obtain⟨g1,g2⟩:=xQ od hi hk k1 k2;have m2:=m.tP k λu hu v hv=>od.tr _ _ _ (je od m.upB ∅ hj hv) (g2 u hu)
      rw[T8,QK hk] at m2
      first | refine xO ?_ | refine xP ?_ | skip
      try dsimp -zeta only
      apply ei
      case a =>
       intro sh;by_cases hk0:i - k > 0
       ·rw[if_pos hk0,xR];refine cQ (λc2=>Þ ⟨⟨_,rfl⟩,.inl ⟨_,rfl,fin _ _ _ m2 (.inl (eq_of_beq c2))⟩⟩) λc2=>?_;have h1:1<=k:=by have:=ne_of_beq_false c2;clear sh;omega
        have hp:k + j + (x + 2)<=a.length + b.length:=by clear sh;omega
        have hi:k<=a.length:=by clear sh;omega
        have m4:=m2;have g4:=g1;generalize (a.take i).drop k++o=o2 at m4 ⊢;generalize i - k=ac;generalize k=k2 at h1 hp hi m4 g4 ⊢
        revert g4;revert m4;revert hi;revert hp;revert h1;revert k2;revert ac;revert o2
        exact sh
       ·rw[if_neg hk0];have e:k=i:=by clear sh;omega
        rw[e] at g1;exact sh o (i - k) i h1 hp hi m g1
      case b =>
       clear k1 k2 g1 g2 m2 hk m h1 hp hi;intro o ac k h1 hp hi m2 g1;refine Ó (cw ∅ ?_)
       rw[kj];have m3:=m2.qw ∅ hj g1
       refine cQ (λc2=>Þ ⟨⟨_,rfl⟩,.inl ⟨_,rfl,finB _ _ _ m3 (eq_of_beq c2)⟩⟩) λc2=>?_;have h2:2<=j - 1:=by have:=ne_of_beq_false c2;omega
       clear m2 g1 c2;generalize b.getD (j - 1) 0::o=o at *
       refine Ó (cw ∅ (Ó (lE od O (bda _ (cP ∅)) bdb ∅ ∅ m3.upB λe he k1 k2=>?_)))
       obtain⟨g1,g2⟩:=xQ od ∅ he k1 k2
       have m2:=m3.tQ e λu hu v hv=>od.tr _ _ _ (je od m3.upA h1 hi hv) (g2 u hu);rw[T8,QK he] at m2
       first | refine xO ?_ | refine xP ?_ | skip
       try dsimp -zeta only
       apply ei
       case a =>
        intro sh;by_cases hk1:j - 1 - e > 0
        ·rw[if_pos hk1,xR];refine cQ (λc3=>Þ ⟨⟨_,rfl⟩,.inl ⟨_,rfl,finB _ _ _ m2 (eq_of_beq c3)⟩⟩) λc3=>?_;refine cQ (λc4=>Þ ⟨⟨_,rfl⟩,.inl ⟨_,rfl,fin _ _ _ m2 (.inr (eq_of_beq c4))⟩⟩) λc4=>?_;have h2:2<=e:=by have:=ne_of_beq_false c3;have:=ne_of_beq_false c4;clear sh;omega
         have hp2:k + e + (x + 2)<=a.length + b.length:=by clear sh;omega
         have hj2:e<=b.length:=by clear sh;omega
         have m4:=m2;have g4:=g1;generalize (b.take (j - 1)).drop e++o=o2 at m4 ⊢;generalize j - 1 - e=bc;generalize e=e2 at h2 hp2 hj2 m4 g4 ⊢
         revert g4;revert m4;revert hj2;revert hp2;revert h2;revert e2;revert bc;revert o2
         exact sh
        ·rw[if_neg hk1];have e1:e=j - 1:=by clear sh;omega
         rw[e1] at g1;exact sh o (j - 1 - e) (j - 1) h2 ∅ ∅ m3 g1
       case b =>
        clear k1 k2 g1 g2 m2 he m3;intro o bc e h2 hp2 hj2 m2 g1;refine Ó (cw ∅ ?_)
        rw[kj];have m3:=m2.qv h1 hi g1;refine cQ (λc2=>Þ ⟨⟨_,rfl⟩,.inl ⟨_,rfl,fin _ _ _ m3 (.inl (eq_of_beq c2))⟩⟩) λc2=>?_;have c2:=ne_of_beq_false c2;exact cQ (λ_=>Þ ⟨⟨_,rfl⟩,.inr ⟨_,_,_,_,_,_,rfl,⟨m3,by omega,by omega,h2,hj2⟩,by omega⟩⟩) λ_=>Þ ⟨⟨_,rfl⟩,_,_,_,_,_,_,rfl,⟨m3,by omega,by omega,h2,hj2⟩,by omega⟩
    ·obtain⟨hg,o,i,j,mg,ac,bc,rfl,m,hp⟩:=I;exact⟨hg,.inr ⟨o,i,j,mg,ac,bc,rfl,m,hp⟩⟩
    ·obtain⟨⟨g,rfl⟩,I⟩:=I;rcases I with ⟨r,hr,hq⟩ | ⟨o,i,j,mg,ac,bc,rfl,m,hp⟩
     ·obtain⟨c1,c2⟩:=c;cases hr;exact Þ ⟨⟨_,rfl⟩,r,rfl,hq⟩
     ·exact Ó (Rc (Þ ⟨⟨_,rfl⟩,_,_,_,_,rfl,m,by omega⟩))
 ·obtain⟨_,o,i,j,mg,rfl,m,hp⟩:=I;exact absurd hp ∅
 ·obtain⟨⟨g,rfl⟩,r,hr,hq⟩:=I;obtain⟨c1,c2⟩:=c;cases hr;exact Þ (hq _)
end
section
variable {prog:í}{w:ü}{A:p8}{E:Ä->É->Prop}{s:É}{κ:Q6}{it:Array Uq}{n:Nat}{lt:Nat->Nat->Bool}
theorem Ej{x:OL}{Q:PUnit->OL->Prop}{σ:OL}(h:Q ⟨⟩ x):wpS (Ù prog w) A E s (set x:StateT OL Sem PUnit) Q σ:=by
 unfold wpS;rw[StateT.run_set];exact È ⟨rfl,h⟩
theorem xS{α:Type}:∀ (l:List α) (d j:Nat) (P M R:List α),d + j=P.length->M.length=l.length->(l.zipIdx j).foldl (λa x=>Array.setIfInBounds a (d + x.2) x.1) (P++(M++R)).toArray=(P++(l++R)).toArray
 |[],_,_,P,M,R,_,hm=>by
  rw[Px hm];rfl
 |x::l,d,j,P,[],R,_,hm=>by simp at hm
 |x::l,d,j,P,m::M,R,hd,hm=>by
  show(l.zipIdx (j + 1)).foldl _ ((P++(m::(M++R))).toArray.setIfInBounds (d + j) x)=_;have e:(P++(m::(M++R))).toArray.setIfInBounds (d + j) x=((P++[x])++(M++R)).toArray:=by
   rw[hd,Uy,Vk _ _ (Ô _),Ye];simp
  rw[e,xS l d (j + 1) (P++[x]) M R (by simp;omega) (by simpa using hm)]
  simp
theorem xT(od:Od lt){left:Bool}{y b z k:Nat}{l:List Nat}(hz:b + z<=l.length)(k1:∀ t,t < k->jk lt left y l (b + t)=true)(k2:∀ t,k<=t->t < z->jk lt left y l (b + t)=false):(∀ x∈((l.drop b).take z).take k,Le lt x y)/\∀ x∈((l.drop b).take z).drop k,Le lt y x:=by
 have e:∀ t,t < z->((l.drop b).take z).getD t 0=l.getD (b + t) 0:=λt ht=>by
  rw[Ê,OR,if_pos ht,P4,← Ê]
 have len:((l.drop b).take z).length=z:=by rw[î,OQ];omega
 refine⟨λx hx=>?_,λx hx=>?_⟩
 ·obtain⟨t,t1,t2,rfl⟩:=cW hx;rw[e t ∅]
  exact(lF od).1 (k1 t t1)
 ·obtain⟨t,t1,t2,rfl⟩:=ft hx;rw[e t ∅]
  exact(lF od).2 (k2 t t1 ∅)
theorem Ek{X:List Nat}{z:Nat}(h:X.getLast?=some z):∃ X',X=X'++[z]:=by
 have hne:X≠[]:=by intro e;rw[e] at h;cases h
 rw[List.getLast?_eq_some_getLast hne] at h;cases h;exact⟨X.dropLast,(Qt _).symm⟩
theorem wc(od:Od lt)(O:zy prog w A s κ it n lt){pre X Y post:List Nat}(bd:∀ x∈pre++(X++(Y++post)),x < n)(uX:Up lt X)(uY:Up lt Y)(lX:1<=X.length)(lY:1<=Y.length){p1 p2:List (Nat × Nat × Nat)}{pw pb i g:Nat}(hi:i=p1.length){Q:Bool->OL->Prop}
  (h:∀ Z g',Z.Perm (X++Y)->Up lt Z->Q true (sS κ it (pre++(Z++post)) (p1++(pre.length,X.length + Y.length,pw)::p2) g')):wpS (Ù prog w) A E s (mergeAt' i) Q (sS κ it (pre++(X++(Y++post))) (p1++(pre.length,X.length,pw)::(pre.length + X.length,Y.length,pb)::p2) g):=by
 subst hi;have lenA:(pre++(X++(Y++post))).length=pre.length + X.length + Y.length + post.length:=by simp;omega
 have dX:((pre++(X++(Y++post))).drop pre.length).take X.length=X:=by simp
 have dY:((pre++(X++(Y++post))).drop (pre.length + X.length)).take Y.length=Y:=by
  rw[← Ý,← Ü,Xj,U5]
 have y0:(pre++(X++(Y++post))).getD (pre.length + X.length) 0=Y.getD 0 0:=by
  match Y,lY with
  |y::Y,_ =>
   rw[← Ý,R5];exact nV (by simp)
 obtain⟨X',z,eX⟩:∃ X' z,X=X'++[z]:=⟨X.dropLast,X.getLast (by intro e;rw[e] at lX;simp at lX),(Qt _).symm⟩
 have lX':X.length=X'.length + 1:=by rw[eX];simp
 have xz:(pre++(X++(Y++post))).getD (pre.length + X'.length) 0=z:=by
  rw[eX,show pre++(X'++[z]++(Y++post))=(pre++X')++z::(Y++post) by simp]
  exact nV (by simp)
 have zhigh:∀ x∈X,Le lt x z:=λx hx=>by
  rw[eX] at uX hx;rcases Ì.mp hx with k | k
  ·exact(å.mp uX).2.2 x k z Å
  ·rw[Ð.mp k];exact od.refl z
 have ylow:∀ y∈Y,Le lt (Y.getD 0 0) y:=λy hy=>eQ od (l:=Y) (i:=0) uY ∅ hy
 have e1:(p1++(pre.length,X.length,pw)::(pre.length + X.length,Y.length,pb)::p2).toArray[p1.length]?=some (pre.length,X.length,pw):=by simp
 have e2:(p1++(pre.length,X.length,pw)::(pre.length + X.length,Y.length,pb)::p2).toArray[p1.length + 1]?=some (pre.length + X.length,Y.length,pb):=by simp
 have e3:((p1++(pre.length,X.length,pw)::(pre.length + X.length,Y.length,pb)::p2).toArray.setIfInBounds p1.length (pre.length,X.length + Y.length,pw)).eraseIdxIfInBounds (p1.length + 1)=(p1++(pre.length,X.length + Y.length,pw)::p2).toArray:=by
  rw[Uy,Vk _ _ (Ô _),Ye];apply QG.mp;simp[List.eraseIdx_append_of_length_le]
 refine Ó (Sj ?_);generalize g1:(QX (sS κ it (pre++(X++(Y++post))) (p1++(pre.length,X.length,pw)::(pre.length + X.length,Y.length,pb)::p2) g))[p1.length]?=o1;generalize g2:(QX (sS κ it (pre++(X++(Y++post))) (p1++(pre.length,X.length,pw)::(pre.length + X.length,Y.length,pb)::p2) g))[p1.length + 1]?=o2;cases e1.symm.trans g1;cases e2.symm.trans g2;refine Ó (Ej ?_);generalize g3:(pre++(X++(Y++post)))=a at *
 show wpS _ _ _ _ _ _ (Ql κ (ar it a) (((p1++(pre.length,X.length,pw)::(pre.length + X.length,Y.length,pb)::p2).toArray.setIfInBounds p1.length (pre.length,X.length + Y.length,pw)).eraseIdxIfInBounds (p1.length + 1)) g none);rw[e3];show wpS _ _ _ _ _ _ (sS κ it a (p1++(pre.length,X.length + Y.length,pw)::p2) g);clear e1 e2 e3 g1 g2;have whole:Up lt (X++Y)->Q true (sS κ it a (p1++(pre.length,X.length + Y.length,pw)::p2) g):=λu=>by
  have:=h (X++Y) g (.refl _) u
  rwa [Ý,g3] at this
 refine Ó (cw (l:=a) ∅ (Ó (lE od O (bd _ (cP ∅)) bd ∅ ∅ (by rw[dX];exact uX) λk hk k1 k2=>?_)))
 rw[y0] at k1 k2;obtain⟨j1,j2⟩:=xT od ∅ k1 k2
 rw[dX] at j1 j2;dsimp only;refine cQ (λc=>Þ (whole ?_)) λc=>?_
 ·have c:=eq_of_beq c;rw[Qe ∅] at j1
  exact de uX uY λx hx y hy=>od.tr _ _ _ (j1 x hx) (ylow y hy)
 have c:=ne_of_beq_false c;rw[show pre.length + k + (X.length - k) - 1=pre.length + X'.length by omega]
 refine Ó (cw (l:=a) ∅ (Ó (lE od O (bd _ (cP ∅)) bd ∅ ∅ (by rw[dY];exact uY) λm hm m1 m2=>?_)))
 rw[xz] at m1 m2;obtain⟨i1,i2⟩:=xT od ∅ m1 m2
 rw[dY] at i1 i2;dsimp only;refine cQ (λc'=>Þ (whole ?_)) λc'=>?_
 ·have c':=eq_of_beq c';subst c';exact de uX uY λx hx y hy=>od.tr _ _ _ (zhigh x hx) (i2 y hy)
 have c':=ne_of_beq_false c';have x1:(ar it a).extract (pre.length + k) (pre.length + X.length)=ar it (X.drop k):=by
  rw[nT,← g3,← Ý,← Ü,U5,RA,PF ∅,RU]
  congr 2;omega
 have x2:(ar it a).extract (pre.length + X.length) (pre.length + X.length + m)=ar it (Y.take m):=by
  rw[rN,← g3,← Ý,← Ü,Xj,T5 hm]
 have sub1:∀ x∈X.drop k++Y.take m,x < n:=λx hx=>bd x (by
  rw[← g3];refine Ò _ ?_;rcases Ì.mp hx with q | q
  ·exact ç _ (Pm q)
  ·exact Ò _ (ç _ (Pl q)))
 have fst:Le lt ((Y.take m).getD 0 0) ((X.drop k).getD 0 0):=by
  have e:(Y.take m).getD 0 0=Y.getD 0 0:=by rw[Ê,OR,if_pos ∅,← Ê]
  rw[e];exact j2 _ (cP (by rw[OQ];omega))
 have lst:∀ u,(X.drop k).getLast?=some u->∀ y∈Y.take m,Le lt y u:=λu hu y hy=>by
  have:u=z:=by
   obtain⟨W,hW⟩:=Ek hu;have e:X=(X.take k++W)++[u]:=by rw[Ý,← hW,ä]
   have:=(congrArg Xy e).symm.trans (congrArg Xy eX);simpa using this
  subst this;exact i1 y hy
 have fin:∀ r g',r.Perm (X.drop k++Y.take m)->Up lt r->wpS (Ù prog w) A E s (do
   modify λs=>Ql (kindOf s) ((ar it r).toList.zipIdx.foldl (λa x=>a.setIfInBounds (pre.length + k + x.2) x.1) (arrOf s)) (QX s) (gallopOf s) (failedOf s)
   let b ← get
   pure (failedOf b).isNone) Q (sS κ it a (p1++(pre.length,X.length + Y.length,pw)::p2) g'):=λr g' hr ur=>by
  refine Ó (Rc (Ó (Sj (Þ ?_))));have e:(ar it r).toList.zipIdx.foldl (λa x=>a.setIfInBounds (pre.length + k + x.2) x.1) (ar it a)=ar it (pre++((X.take k++(r++Y.drop m))++post)):=by
   have e1:a=(pre++X.take k)++((X.drop k++Y.take m)++(Y.drop m++post)):=by
    rw[← g3]
    calc pre++(X++(Y++post))=pre++((X.take k++X.drop k)++((Y.take m++Y.drop m)++post)):=by rw[ä,ä]
     _=_:=by simp only[Ý]
   rw[e1];unfold ar;rw[OM,OM (l₁:=X.drop k++Y.take m)];have:=xS (r.map (Q2 it)) (pre.length + k) 0 ((pre++X.take k).map (Q2 it)) ((X.drop k++Y.take m).map (Q2 it)) ((Y.drop m++post).map (Q2 it)) (by rw[Ç,Ü,î];omega) (by rw[Ç,Ç,hr.length_eq])
   refine this.trans ?_;rw[← OM,← OM];simp only[Ý]
  show Q true (Ql κ ((ar it r).toList.zipIdx.foldl (λa x=>a.setIfInBounds (pre.length + k + x.2) x.1) (ar it a)) _ g' none);rw[e];refine h _ g' ?_ ?_
  ·have e2:X++Y=X.take k++((X.drop k++Y.take m)++Y.drop m):=by
    rw[Ý,ä,← Ý,ä]
   rw[e2];exact(hr.append_right _).append_left _
  ·have a1:∀ x∈X.take k,∀ y∈r,Le lt x y:=λx hx y hy=>by
    rcases Ì.mp (hr.mem_iff.mp hy) with q | q
    ·have:=uX;rw[← ä k X] at this;exact(å.mp this).2.2 x hx y q
    ·exact od.tr _ _ _ (j1 x hx) (ylow y (Pl q))
   have a2:∀ x∈r,∀ y∈Y.drop m,Le lt x y:=λx hx y hy=>by
    rcases Ì.mp (hr.mem_iff.mp hx) with q | q
    ·exact od.tr _ _ _ (zhigh x (Pm q)) (i2 y hy)
    ·have:=uY;rw[← ä m Y] at this;exact(å.mp this).2.2 x q y hy
   refine de (uX.sublist (PR _ _)) (de ur (uY.sublist (Qr _ _)) a2) λx hx y hy=>?_;rcases Ì.mp hy with q | q
   ·exact a1 x hx y q
   ·exact od.tr _ _ _ (zhigh x (Pl hx)) (i2 y q)
 have uA:=uX.sublist (Qr k X);have uB:=uY.sublist (PR m Y);have l1:1<=(X.drop k).length:=by rw[OQ];omega
 have l2:1<=(Y.take m).length:=by rw[î];omega
 refine lD (λ_=>Ó ?_) λ_=>Ó ?_
 ·show wpS _ _ _ _ (tV ((ar it a).extract (pre.length + k) (pre.length + X.length)) ((ar it a).extract (pre.length + X.length) (pre.length + X.length + m))) _ _;rw[x1,x2];exact wa od O sub1 uA uB l1 l2 fst lst λr g' hr ur=>fin r g' hr ur
 ·show wpS _ _ _ _ (tW ((ar it a).extract (pre.length + k) (pre.length + X.length)) ((ar it a).extract (pre.length + X.length) (pre.length + X.length + m))) _ _;rw[x1,x2];exact wb od O sub1 uA uB l1 l2 fst lst λr g' hr ur=>fin r g' hr ur
end
section
variable {lt:Nat->Nat->Bool}
def fl(L:List (List Nat × Nat)):List Nat:=(L.map (·.1)).flatten
def pd:Nat->List (List Nat × Nat)->List (Nat × Nat × Nat)
 |_,[]=>[]|off,(X,v)::r=>(off,X.length,v)::pd (off + X.length) r
def Gd(lt:Nat->Nat->Bool)(L:List (List Nat × Nat)):Prop:=∀ x∈L,1<=x.1.length/\Up lt x.1
theorem fD(L M:List (List Nat × Nat)):fl (L++M)=fl L++fl M:=by simp[fl]
theorem ej(X:List Nat)(v:Nat)(L:List (List Nat × Nat)):fl ((X,v)::L)=X++fl L:=rfl
theorem lG:∀ (L M:List (List Nat × Nat)) (off:Nat),pd off (L++M)=pd off L++pd (off + (fl L).length) M
 |[],_,_=>rfl
 |(X,v)::L,M,off=>by
  show(off,X.length,v)::pd (off + X.length) (L++M)=(off,X.length,v)::(pd (off + X.length) L++pd (off + (fl ((X,v)::L)).length) M);rw[lG L M,ej,Ü,XO]
theorem rO:∀ (L:List (List Nat × Nat)) (off:Nat),(pd off L).length=L.length
 |[],_=>rfl|(_,_)::L,_=>congrArg (· + 1) (rO L _)
theorem Gd.len:∀ {L:List (List Nat × Nat)},Gd lt L->L.length<=(fl L).length
 |[],_=>Ô _
 |(X,v)::L,g=>by
  have:=Gd.len (L:=L) λx hx=>g x (Æ _ hx);have:=(g (X,v) Å).1;rw[ej,Ü,æ];dsimp only at this;omega
theorem Hv{L:List (List Nat × Nat)}{i:Nat}(h:i + 1 < L.length):∃ L1 x y L2,L=L1++x::y::L2/\L1.length=i :=
 ⟨L.take i,L[i],L[i + 1],L.drop (i + 1 + 1),by rw[← tv,← tv,ä],by rw[î];omega⟩
end
section
variable {prog:í}{w:ü}{A:p8}{E:Ä->É->Prop}{s:É}{κ:Q6}{it:Array Uq}{n:Nat}{lt:Nat->Nat->Bool}
theorem qx(od:Od lt)(O:zy prog w A s κ it n lt){L:List (List Nat × Nat)}{R:List Nat}(bd:∀ x∈fl L++R,x < n)(gd:Gd lt L){i g:Nat}(hi:i + 1 < L.length){Q:Bool->OL->Prop}
  (h:∀ L' g',L'.length + 1=L.length->Gd lt L'->(fl L').Perm (fl L)->Q true (sS κ it (fl L'++R) (pd 0 L') g')):wpS (Ù prog w) A E s (mergeAt' i) Q (sS κ it (fl L++R) (pd 0 L) g):=by
 obtain⟨L1,⟨X,v⟩,⟨Y,u⟩,L2,rfl,rfl⟩:=Hv hi;have gX:=gd (X,v) (by simp)
 have gY:=gd (Y,u) (by simp)
 have e1:fl (L1++(X,v)::(Y,u)::L2)++R=fl L1++(X++(Y++(fl L2++R))):=by rw[fD,ej,ej];simp only[Ý]
 have e2:pd 0 (L1++(X,v)::(Y,u)::L2)=pd 0 L1++((fl L1).length,X.length,v)::((fl L1).length + X.length,Y.length,u)::pd ((fl L1).length + X.length + Y.length) L2:=by rw[lG,RS];rfl
 rw[e1] at bd ⊢;rw[e2];refine wc od O bd gX.2 gY.2 gX.1 gY.1 (rO _ _).symm λZ g' hZ uZ=>?_;have:=h (L1++(Z,v)::L2) g' (by simp;omega) (λx hx=>?_) ?_
 ·rw[fD,ej,lG,RS] at this;have e3:pd (fl L1).length ((Z,v)::L2)=((fl L1).length,X.length + Y.length,v)::pd ((fl L1).length + X.length + Y.length) L2:=by
   show(_,Z.length,v)::pd (_ + Z.length) L2=_;rw[hZ.length_eq,Ü,XO]
  rw[e3] at this;simpa only [Ý] using this
 ·rcases Ì.mp hx with k | k
  ·exact gd x (ç _ k)
  ·rcases Û.mp k with rfl | k
   ·exact⟨by have:=gX.1;dsimp only at this ⊢;rw[hZ.length_eq,Ü];omega,uZ⟩
   ·exact gd x (by simp[k])
 ·rw[fD,fD,ej,ej,ej,← Ý X];exact(hZ.append_right _).append_left _
theorem Hw{c:Prop}[Decidable c]{a b k:Nat}(h1:a < k)(h2:b < k):(if c then a else b) < k:=by split <;> assumption
theorem Hx{α:Type}{b:Bool}(hb:b=true){x y:StateT OL Sem α}{Q:α->OL->Prop}{σ:OL}(h:wpS (Ù prog w) A E s y Q σ):wpS (Ù prog w) A E s (if (!b)=true then x else y) Q σ:=by
 subst hb;exact h
theorem El(od:Od lt)(O:zy prog w A s κ it n lt){Q:Unit->OL->Prop}
  (h:∀ r p' g',r.Perm (é n)->Up lt r->Q () (sS κ it r p' g')):wpS (Ù prog w) A E s sortRuns' Q (sS κ it (é n) [] 7):=by
 rw[sortRuns'_eq];refine Ó (Sj ?_);have hs:(arrOf (sS κ it (é n) [] 7)).size=n:=by show(ar it _).size=n;rw[bN,p6]
 dsimp only;rw[hs];generalize hmr:minRun' n n 0=mr;have inb:∀ {l:List Nat},l.Perm (é n)->∀ x∈l,x < n:=λhp x hx=>by simpa using hp.mem_iff.mp hx
 refine Ó (QS (OW (I:=λx c σ=>∃ L R g,c=(none,(fl L).length)/\σ=sS κ it (fl L++R) (pd 0 L) g/\Gd lt L/\(fl L++R).Perm (é n)/\x<=(fl L).length)
  (Q:=λc σ=>∃ L g,c=(none,(fl L).length)/\σ=sS κ it (fl L) (pd 0 L) g/\Gd lt L/\(fl L).Perm (é n)) (λx c σ _ hx I=>?_) (λc σ I=>?_) ⟨[],é n,7,rfl,rfl,λx hx=>absurd hx (by simp),.refl _,Ô _⟩) λc σ I=>?_)
 ·obtain⟨L,R,g,rfl,rfl,gd,pm,hp⟩:=I;have hlen:(fl L).length + R.length=n:=by have:=pm.length_eq;rwa [Ü,p6] at this
  dsimp only;refine lD (λc=>Þ ⟨L,g,rfl,?_,gd,?_⟩) λc=>?_
  ·have:R=[]:=Px ∅
   subst this;rw[ö]
  ·have:R=[]:=Px ∅
   subst this;rwa [ö] at pm
  refine Ó (Bl od O (inb pm) ∅ rfl ∅ λR' m pR m1 m2 mu=>?_)
  have pm:(fl L++R').Perm (é n):=(pR.append_left _).trans pm;have hlen:(fl L).length + R'.length=n:=by rw[pR.length_eq];exact hlen
  rw[← pR.length_eq] at m2;clear pR;dsimp only;apply ei
  case a =>
   intro sh;by_cases hm:m < mr
   ·rw[if_pos hm];refine Ó (jc (Ó (Hu od O (inb pm) rfl m1 (by clear sh;omega) (by clear sh;omega) mu λR2 p2 u2=>Hx rfl ?_)))
    have pm4:(fl L++R2).Perm (é n):=(p2.append_left _).trans pm;have hlen4:(fl L).length + R2.length=n:=by rw[p2.length_eq];exact hlen
    have m3:1<=min (n - (fl L).length) mr:=by clear sh;omega
    have m4:min (n - (fl L).length) mr<=R2.length:=by clear sh;omega
    clear p2;generalize min (n - (fl L).length) mr=m5 at m3 m4 u2 ⊢
    revert u2;revert m4;revert m3;revert hlen4;revert pm4;revert m5;revert R2
    exact sh
   ·rw[if_neg hm];exact sh R' m pm hlen m1 m2 mu
  case b =>
   clear mu m2 m1 hlen pm;intro R' m pm hlen m1 m2 mu;refine Ó (Sj ?_);have fin:∀ L2 g2,Gd lt L2->(fl L2).Perm (fl L)->wpS (Ù prog w) A E s (do
     modify λs=>setPending s ((QX s).push ((fl L).length,m,0))
     pure (Sv ((none,(fl L).length + m):Option Unit × Nat))) (λr st'=>match r with
     |.done c'=>∃ L g,c'=(none,(fl L).length)/\st'=sS κ it (fl L) (pd 0 L) g/\Gd lt L/\(fl L).Perm (é n)
     |.yield c'=>∃ L R g,c'=(none,(fl L).length)/\st'=sS κ it (fl L++R) (pd 0 L) g/\Gd lt L/\(fl L++R).Perm (é n)/\x + 1<=(fl L).length) (sS κ it (fl L2++R') (pd 0 L2) g2):=λL2 g2 gd2 p2=>by
    have e2:=p2.length_eq;have tl:(R'.take m).length=m:=by rw[î];omega
    refine Ó (Rc (Þ ⟨L2++[(R'.take m,0)],R'.drop m,g2,?_,?_,λy hy=>?_,?_,?_⟩))
    ·rw[fD,Ü,e2];show _=(none,_ + (R'.take m++[]).length);rw[ö,tl]
    ·show Ql κ (ar it (fl L2++R')) ((pd 0 L2).toArray.push ((fl L).length,m,0)) g2 none=_;unfold sS;have e3:fl (L2++[(R'.take m,0)])++R'.drop m=fl L2++R':=by
      rw[fD];show fl L2++(R'.take m++[])++R'.drop m=_;rw[ö,Ý,ä]
     have e4:(pd 0 L2).toArray.push ((fl L).length,m,0)=(pd 0 (L2++[(R'.take m,0)])).toArray:=by
      rw[lG,Tr,RS,e2];show _=(pd 0 L2++[((fl L).length,(R'.take m).length,0)]).toArray;rw[tl]
     rw[e3,e4]
    ·rcases Ì.mp hy with k | k
     ·exact gd2 y k
     ·rw[Ð.mp k];exact⟨by rw[tl];exact m1,by assumption⟩
    ·rw[fD];show(fl L2++(R'.take m++[])++R'.drop m).Perm _;rw[ö,Ý,ä];exact(p2.append_right _).trans pm
    ·rw[fD,Ü,e2];show _<=_ + (R'.take m++[]).length;rw[ö,tl];omega
   have back:∀ (o:Option (Nat × Nat × Nat)),(QX (sS κ it (fl L++R') (pd 0 L) g)).back?=o->(o=none∨∃ x,o=some x/\1<=L.length):=λo e=>by
    cases L with
    |nil=>exact .inl (by rw[← e];rfl)
    |cons y L =>
     cases o with
     |none=>exact .inl rfl|some x=>exact .inr ⟨x,rfl,by simp⟩
   generalize hb:(QX (sS κ it (fl L++R') (pd 0 L) g)).back?=o;rcases back _ hb with rfl | ⟨⟨s1,n1,v1⟩,rfl,hL⟩
   ·exact fin L g gd (.refl _)
   ·dsimp only;generalize power' n (2 * s1 + n1) (2 * s1 + n1 + n1 + m) n=pw;refine Ó (QS (OW (I:=λy c σ=>c=(none,())/\∃ L2 g2,σ=sS κ it (fl L2++R') (pd 0 L2) g2/\Gd lt L2/\(fl L2).Perm (fl L)/\1<=L2.length)
     (Q:=λc σ=>c=(none,())/\∃ L2 g2,σ=sS κ it (fl L2++R') (pd 0 L2) g2/\Gd lt L2/\(fl L2).Perm (fl L)/\1<=L2.length) (λy c σ _ hy I=>?_) (λc σ I=>I) ⟨rfl,L,g,rfl,gd,.refl _,hL⟩) λc σ I=>?_)
    ·obtain⟨rfl,L2,g2,rfl,gd2,p2,l2⟩:=I;refine Ó (Sj ?_);have hsz:(QX (sS κ it (fl L2++R') (pd 0 L2) g2)).size=L2.length:=by show(pd 0 L2).toArray.size=_;rw[ß,rO]
     rw[hsz];generalize ho:(if L2.length > 1 then(QX (sS κ it (fl L2++R') (pd 0 L2) g2))[L2.length - 2]? else none)=o2;cases o2 with
     |none=>exact Þ ⟨rfl,L2,g2,rfl,gd2,p2,l2⟩
     |some q =>
      obtain⟨q1,q2,q3⟩:=q;have l3:L2.length > 1:=by
       rcases Yh 1 L2.length with k | k
       ·exact k
       ·rw[if_neg ∅] at ho;cases ho
      dsimp only;refine lD (λ_=>Þ ⟨rfl,L2,g2,rfl,gd2,p2,l2⟩) λ_=>?_;have pm2:=(p2.append_right R').trans pm;refine Ó (qx od O (inb pm2) gd2 ∅ λL' g' h1 h2 h3=>Hx rfl (Þ ⟨rfl,L',g',rfl,h2,h3.trans p2,by omega⟩))
    ·obtain⟨rfl,L2,g2,rfl,gd2,p2,l2⟩:=I;dsimp only;obtain⟨L3,X,v,rfl⟩:∃ L3 X v,L2=L3++[(X,v)]:=⟨L2.dropLast,(L2.getLast (by intro e;rw[e] at l2;simp at l2)).1,(L2.getLast (by intro e;rw[e] at l2;simp at l2)).2,(Qt _).symm⟩
     refine Ó (Rc ?_);have e5:fl (L3++[(X,v)])=fl (L3++[(X,pw)]):=by rw[fD,fD];rfl
     have e6:(pd 0 (L3++[(X,v)])).toArray.modify ((pd 0 (L3++[(X,v)])).toArray.size - 1) (λx=>(x.1,x.2.1,pw))=(pd 0 (L3++[(X,pw)])).toArray:=by
      rw[lG,lG,ß];show(pd 0 L3++[((0 + (fl L3).length),X.length,v)]).toArray.modify ((pd 0 L3++[((0 + (fl L3).length),X.length,v)]).length - 1) _=(pd 0 L3++[((0 + (fl L3).length),X.length,pw)]).toArray;rw[Ü,Ss,Tc];apply QG.mp;rw[Array.toList_modify];simp[List.modify_eq_take_cons_drop]
     show wpS _ _ _ _ _ _ (Ql κ (ar it (fl (L3++[(X,v)])++R')) ((pd 0 (L3++[(X,v)])).toArray.modify ((pd 0 (L3++[(X,v)])).toArray.size - 1) (λx=>(x.1,x.2.1,pw))) g2 none);rw[e6,e5];refine fin (L3++[(X,pw)]) g2 (λy hy=>?_) (by rw[← e5];exact p2)
     rcases Ì.mp hy with k | k
     ·exact gd2 y (ç _ k)
     ·rw[Ð.mp k];exact gd2 (X,v) (by simp)
 ·obtain⟨L,R,g,rfl,rfl,gd,pm,hp⟩:=I;have hlen:(fl L).length + R.length=n:=by have:=pm.length_eq;rwa [Ü,p6] at this
  have:R=[]:=Px ∅
  subst this;rw[ö] at pm ⊢;exact⟨L,g,rfl,rfl,gd,pm⟩
 ·obtain⟨L,g,rfl,rfl,gd,pm⟩:=I;dsimp only;have hlen:(fl L).length=n:=by rw[pm.length_eq,p6]
  refine Ó (QS (OW (I:=λx c σ=>c=(none,())/\∃ L g,σ=sS κ it (fl L) (pd 0 L) g/\Gd lt L/\(fl L).Perm (é n)/\L.length<=max 1 (n - x))
   (Q:=λc σ=>c=(none,())/\∃ L g,σ=sS κ it (fl L) (pd 0 L) g/\Gd lt L/\(fl L).Perm (é n)/\L.length<=1) (λx c σ _ hx I=>?_) (λc σ I=>?_) ⟨rfl,L,g,rfl,gd,pm,by have:=gd.len;omega⟩) λc σ I=>?_)
  ·obtain⟨rfl,L,g,rfl,gd,pm,hl⟩:=I;refine Ó (Sj ?_);have hsz:(QX (sS κ it (fl L) (pd 0 L) g)).size=L.length:=by show(pd 0 L).toArray.size=_;rw[ß,rO]
   refine lD (λq=>Þ ⟨rfl,L,g,rfl,gd,pm,by rw[hsz] at q;exact q⟩) λq=>?_
   rw[hsz] at q;have e0:sS κ it (fl L) (pd 0 L) g=sS κ it (fl L++[]) (pd 0 L) g:=by rw[ö]
   rw[hsz];generalize hi:(if (Option.any (λx=>decide (x < (QX (sS κ it (fl L) (pd 0 L) g))[L.length - 2 + 1]?.elim 0 λx=>x.2.1)) (if L.length - 2 > 0 then Rh (λx=>x.2.1) (QX (sS κ it (fl L) (pd 0 L) g))[L.length - 2 - 1]? else none))=true then L.length - 2 - 1 else L.length - 2)=i;have hi2:i + 1 < L.length:=by
    have:i < L.length - 1:=by rw[← hi];exact Hw ∅ ∅
    omega
   rw[e0];refine Ó (qx od O (by rw[ö];exact inb pm) gd hi2 λL' g' h1 h2 h3=>Hx rfl (Þ ⟨rfl,L',g',by rw[ö],h2,h3.trans pm,by omega⟩))
  ·obtain⟨rfl,L,g,rfl,gd,pm,hl⟩:=I;exact⟨rfl,L,g,rfl,gd,pm,by omega⟩
  ·obtain⟨rfl,L,g,rfl,gd,pm,hl⟩:=I;refine Þ (h _ _ _ pm ?_)
   match L,hl,gd with
   |[],_,_=>exact .nil|[(X,v)],_,gd=>rw[ej];show Up lt (X++[]);rw[ö];exact(gd (X,v) (by simp)).2
end
end NS
namespace MySort
open PySem PySem.W PyProof.Rows
def aN:List Int->List Int->Bool
 |[],[]=>false|[],_::_=>true|_::_,[]=>false|x::r,y::q=>if x=y then aN r q else decide (x < y)
theorem dS:∀ a,aN a a=false
 |[]=>rfl|x::r=>by show(if x=x then aN r r else _)=_;rw[if_pos rfl];exact dS r
theorem eR:∀ a b c,aN a b=true->aN b c=true->aN a c=true
 |[],[],_,h,_=>by cases h
 |[],_::_,[],_,h=>by cases h
 |[],_::_,_::_,_,_=>rfl|_::_,[],_,h,_=>by cases h
 |_::_,_::_,[],_,h=>by cases h
 |x::a,y::b,z::c,h1,h2=>by
  have h1:(if x=y then aN a b else decide (x < y))=true:=h1;have h2:(if y=z then aN b c else decide (y < z))=true:=h2;show(if x=z then aN a c else decide (x < z))=true;by_cases e1:x=y
  ·rw[if_pos e1] at h1;by_cases e2:y=z
   ·rw[if_pos e2] at h2;rw[if_pos (e1.trans e2)];exact eR a b c h1 h2
   ·rw[if_neg e2] at h2;rw[if_neg ∅]
    rw[e1];exact h2
  ·rw[if_neg e1] at h1;have l1:x < y:=by simpa using h1
   by_cases e2:y=z
   ·rw[if_neg ∅];exact decide_eq_true ∅
   ·rw[if_neg e2] at h2;have l2:y < z:=by simpa using h2
    rw[if_neg ∅];exact decide_eq_true ∅
theorem gy:∀ a b,aN a b=false->aN b a=false->a=b
 |[],[],_,_=>rfl|[],_::_,h,_=>by cases h
 |_::_,[],_,h=>by cases h
 |x::a,y::b,h1,h2=>by
  have h1:(if x=y then aN a b else decide (x < y))=false:=h1;have h2:(if y=x then aN b a else decide (y < x))=false:=h2;by_cases e:x=y
  ·subst e;rw[if_pos rfl] at h1 h2;rw[gy a b h1 h2]
  ·rw[if_neg e] at h1;rw[if_neg (OT e)] at h2;have l1:¬ x < y:=by simpa using h1
   have l2:¬ y < x:=by simpa using h2
   omega
theorem nW(a b c:List Int)(h:aN a c=true):aN a b=true∨aN b c=true:=by
 cases hab:aN a b with
 |true=>exact .inl rfl
 |false =>
  right;cases hba:aN b a with
  |true=>exact eR b a c hba h|false=>rw[← gy a b hab hba];exact h
section
variable {P:í}{w:ü}{A:p8}{E:Ä->É->Prop}{s:É}
def sortedBy(ks:List (List Int))(p:List Nat):Prop:=p.Perm (é ks.length)/\(p.map λi=>ks.getD i []).Pairwise λx y=>aN y x=false
theorem range_getD(d:α):∀ (l:List α),(é l.length).map (λi=>l.getD i d)=l:=λl=>by
 refine WK (by simp) λi h1 h2=>?_
 simp at h1;simp[h1]
def Kp(P:í)(w:ü)(A:p8)(s:É)(vs:List Ä)(Pr:List Nat->Prop)(kd:Q6):Prop:=∀ (E:Ä->É->Prop) (Q:Unit × OL->É->Prop),(∀ p st',Pr p->failedOf st'=none->arrOf st'=(p.toArray).map (Q2 (vs.toArray.zip vs.toArray))->Q ((),st') s)->Ú (Ù P w) A (sortRuns'.run (Ql kd (vs.toArray.zip vs.toArray) #[] 7 none)) Q E s
structure zz(P:Program)(w:World)(A:Around)(s:Shared)(vs:List Value)(Pr:List Nat->Prop)(kd:SortKind):Prop where
 len:vs.length<=60000
 few:vs.length < 2->Pr (range vs.length)
 all:∀ p,Pr p->p.length=vs.length
 kind:2<=vs.length->∀ (E:Value->Shared->Prop) (Q:SortKind->Shared->Prop),Q kd s->wpAny (model P w) A (keyKind' vs.toArray) Q E s
 run:2<=vs.length->Kp P w A s vs Pr kd
theorem Bn(hl:n=ks.length)(h2:n < 2):sortedBy ks (é n):=by
 subst hl;refine⟨.refl _,?_⟩;rw[range_getD]
 match ks,h2 with
 |[],_=>exact .nil|[_],_=>simp|_::_::_,q=>simp at q;omega
theorem Hy(ks:List (List Int)):NS.Od λi j=>aN (ks.getD i []) (ks.getD j []) where
 asym x y h:=by
  cases q:aN (ks.getD y []) (ks.getD x []) with
  |false=>rfl|true=>have:=eR _ _ _ h q;rw[dS] at this;cases this
 tr x y z h1 h2:=by
  have h1:aN (ks.getD y []) (ks.getD x [])=false:=h1;have h2:aN (ks.getD z []) (ks.getD y [])=false:=h2;show aN (ks.getD z []) (ks.getD x [])=false;cases q:aN (ks.getD z []) (ks.getD x []) with
  |false=>rfl
  |true =>
   rcases nW _ (ks.getD y []) _ q with q | q
   ·rw[h2] at q;cases q
   ·rw[h1] at q;cases q
theorem xU{vs:List Ä}{ks:List (List Int)}{kd:Q6}(hlen:vs.length=ks.length)(_:vs.length < 60001)(ask:∀ i j,i < vs.length->j < vs.length->∀ (E:Ä->É->Prop) (C:Bool->É->Prop),C (aN (ks.getD i []) (ks.getD j [])) s->Ú (Ù P w) A (We kd (vs.getD i ð) (vs.getD j ð)) C E s)(_:2<=vs.length):Kp P w A s vs (sortedBy ks) kd:=λE Q q=>by
 have est:Ql kd (vs.toArray.zip vs.toArray) #[] 7 none=NS.sS kd (vs.toArray.zip vs.toArray) (é vs.length) [] 7:=by
  have e:=kas_range (vs.toArray.zip vs.toArray);rw[show(vs.toArray.zip vs.toArray).size=vs.length by simp] at e
  show _=Ql kd ((é vs.length).map (Q2 (vs.toArray.zip vs.toArray))).toArray #[] 7 none;rw[← Uh,e]
 rw[est];refine Pz (NS.El (Q:=λ_ st=>Q ((),st) s) (Hy ks) (λi j C hi hj hC=>?_) λr p' g' hr hu=>?_) (λx s' h=>by obtain⟨rfl,h⟩:=h;exact h) λ_ _ e=>e
 ·have e1:=kas_item_eq vs i;have e2:=kas_item_eq vs j;show Ú (Ù P w) A (We kd (Q2 (pairsOf vs) i).1 (Q2 (pairsOf vs) j).1) C _ s;rw[e1,e2];exact ask i j hi hj _ C hC
 ·refine q r _ ⟨by rw[← hlen];exact hr,?_⟩ rfl ?_
  ·rw[RI];exact hu
  ·show(r.map (Q2 (vs.toArray.zip vs.toArray))).toArray=_;rw[Uh]
def tY(h h':û):Prop:=∀ b o,h.get? b=some o->o.cls=.type "tuple"->h'.get? b=some o
theorem Bo{a:Ë}{vs:List Ä}{Pr:List Nat->Prop}{kd:Q6}{n:Nat}{R:PySem.Fin->É->Prop}(ho:s.heap.get? a=some (Pu "list" vs.toArray n))(hk:∀ h',tY s.heap h'->zz P w A { s with heap:=h' } vs Pr kd)
  (h:∀ (p:List Nat) (h':û) (c:Nat),Pr p->(∀ b o,b≠a->s.heap.get? b=some o->h'.get? b=some o)->h'.get? a=some (Pu "list" (p.map λi=>vs.getD i ð).toArray c)->R (.done (.ret .none)) { s with heap:=h' }) :
  Ú (Ù P w) A (Ra.«list.sort» ⟨[.ref a],[]⟩) R E s:=by
 have ha:a < s.heap.objs.size:=ë ho;have h64:=(hk s.heap λ_ _ e _=>e).len;have s1:=P6 s.heap a (OY λ_=>(#[]:Array Ä));obtain⟨e1,ho1⟩:∃ e1,(s.heap.update a (OY λ_=>(#[]:Array Ä))).get? a=some (Pu "list" #[] e1):=⟨_,US ho λ_=>#[]⟩;have kp:∀ b o,b≠a->s.heap.get? b=some o->(((s.heap.update a (OY λ_=>(#[]:Array Ä))).push (Pu "tuple" vs.toArray 0)).push (Pu "list" #[] 0)).get? b=some o:=λb o hb e=>Ã _ (Ã _ ((s1.2 b hb).trans e));have ho6:(((s.heap.update a (OY λ_=>(#[]:Array Ä))).push (Pu "tuple" vs.toArray 0)).push (Pu "list" #[] 0)).get? a=some (Pu "list" #[] e1):=Ã _ (Ã _ ho1);have hk6:=hk (((s.heap.update a (OY λ_=>(#[]:Array Ä))).push (Pu "tuple" vs.toArray 0)).push (Pu "list" #[] 0)) (λb o e hc=>kp b o (λq=>by subst q;rw[ho] at e;cases e;have hc':Pq "list"=Pq "tuple":=hc;injection hc' with hc';exact absurd hc' (-0)) e)
 rw[list_sort_plain];refine À (RY ho rfl (À (TL ho rfl ?_ (by rw[ß,O2];omega) (PQ _))))
 refine À (seqEpoch_at ho1 rfl (À (wpAny_newTuple ?_ (by show vs.length<=_;rw[O2];omega))));refine À (VD (PC ?_) (PQ _))
 show Ú (Ù P w) A _ R E { s with heap:=((s.heap.update a (OY λ_=>(#[]:Array Ä))).push (Pu "tuple" vs.toArray 0)).push (Pu "list" #[] 0) };generalize hH:((s.heap.update a (OY λ_=>(#[]:Array Ä))).push (Pu "tuple" vs.toArray 0)).push (Pu "list" #[] 0)=h6 at kp ho6 hk6 ⊢;have fin:∀ (p:List Nat) (out:Array Ä),out=(p.map λi=>vs.getD i ð).toArray->Pr p->Ú (Ù P w) A (do
   let touched:=(← seqEpoch a) != e1
   YB (.ref a) λ_=>out
   if touched then rule "list.sort.modified";raiseError "ValueError" "list modified during sort"
   ret .none) R E { s with heap:=h6 }:=λp out eo hp=>by
  subst eo;have hsz:(p.map λi=>vs.getD i ð).toArray.size=vs.length:=by rw[ß,Ç,(hk s.heap λ_ _ e _=>e).all p hp]
  have s2:=P6 h6 a (OY λ_=>(p.map λi=>vs.getD i ð).toArray);refine À (seqEpoch_at ho6 rfl (À (TL ho6 rfl ?_ (PQ _) (ã (Vi hsz) (by rw[O2];omega)))))
  simp only[bne_self_eq_false,Bool.false_eq_true,if_false];exact È (h p _ _ hp (λb o hb e=>(s2.2 b hb).trans (kp b o hb e)) (US ho6 λ_=>(p.map λi=>vs.getD i ð).toArray))
 dsimp only;by_cases h2:vs.toArray.size < 2
 ·rw[if_pos h2,if_pos h2];refine À (È ?_);rw[StateT.run_pure];refine À (È ?_);dsimp only;refine fin (é vs.length) _ ?_ ((hk s.heap λ_ _ e _=>e).few (by simpa using h2))
  rw[range_getD];apply QG.mp;rw[Array.toList_map];show Xg _ (vs.toArray.zip vs.toArray).toList=vs;rw[ksk_zip];exact List.map_snd_zip (Ô _)
 ·rw[if_neg h2,if_neg h2];have h2':2<=vs.length:=by simpa using h2
  refine À (hk6.kind h2' _ _ ?_);refine À (hk6.run h2' _ _ λp st' hp hf har=>?_);dsimp only;rw[hf];exact fin p _ (kat_snds rfl har) hp
end
end MySort
namespace TS
open PySem PySem.W PyProof.Rows
def neN:Nat->Nat->Nat->List Nat
 |0,_,_=>[]|b + 1,v,h=>(h + v)::(neN b (2 * v) (h + v)++neN b (2 * v) h)
def sN(b:Nat):List Nat:=0::neN b 1 0
def qy:Nat->Nat->Nat->List Nat
 |0,_,_=>[]|k + 1,i,m=>if Nat.testBit m 0 then i::qy k (i + 1) (m / 2) else qy k (i + 1) (m / 2)
def tZ:List Nat->List Nat->Bool
 |[],[]=>false|[],_::_=>true|_::_,[]=>false|a::r,b::q=>if beq a b then tZ r q else WH a b
end TS
namespace HT
open PySem PyProof.Rows
section
open PySem.SeqAt
open PySem.AutoSeq1 (wpAny_loadPart')
open PySem.MeetsSeq PySem.MeetsSeq2 PySem.MeetsSeq3
open MySort (aN)
def leB(ns ms:List Int):Bool:=!aN ms ns
theorem Bp(x y:Int)(r q:List Int):leB (x::r) (y::q)=if x=y then leB r q else decide (x<=y):=by
 show(!(if y=x then aN q r else decide (y < x)))=_;by_cases e:x=y
 ·rw[if_pos e,if_pos e.symm];rfl
 ·rw[if_neg e,if_neg (OT e)];by_cases l:y < x
  ·rw[decide_eq_true l,decide_eq_false ∅];rfl
  ·rw[decide_eq_false l,decide_eq_true ∅];rfl
theorem Bq(A:p8)(s:É)(a:Int)(t:Tok)(c:Int)(u:Tok)(P:í)(w:ü)(E:Ä->É->Prop)(Q:Ä->É->Prop)(h:Q (.bool (decide (a<=c))) s):Ú (Ù P w) A (WT .LtE (.int a t) (.int c u)) Q E s :=
 (Yt h:Ú (Ù P w) A (c0 .LtE (.int a t) (.int c u)) Q E s)
theorem pW(l b:Ë)(i1 i2:Array Ä)(n n2:Nat)(dd dd2:Option Ë)(sl sl2:Array (Option Ä))(ns ms:List Int)(hi:Q9 i1.toList ns)(hj:Q9 i2.toList ms) :
  UM (Ra.«tuple.__le__» ⟨[.ref l,.ref b],[]⟩) (λ_ R s=>s.heap.get? l=some { cls:=.type "tuple",dict:=dd,data:=.seq i1 n,slots:=sl }/\s.heap.get? b=some { cls:=.type "tuple",dict:=dd2,data:=.seq i2 n2,slots:=sl2 }/\R (.ok (.ret (.bool (leB ns ms)))) s) :=
 .of_wp λP w A R s h=>by
  obtain⟨hp,g,d,tk,os⟩:=s;obtain⟨hl,hb,h⟩:=h;have f2:=Ud;have z1:i1.size=ns.length:=by rw[← hi.length];simp
  have z2:i2.size=ms.length:=by rw[← hj.length];simp
  wp_walk using PH hl,PH hb,X0 _ (λrest b s'=>b.1=none/\s'=⟨hp,g,d,tk,os⟩/\∃ (vs ws:List Ä) (ns' ms':List Int),rest=vs.zip ws/\Q9 vs ns'/\Q9 ws ms'/\ns'.length + i2.size=ms'.length + i1.size/\R (.ok (.ret (.bool (leB ns' ms')))) ⟨hp,g,d,tk,os⟩) _
  case turn =>
   rintro ⟨y,x⟩ rest b s' ⟨hb',rfl,vs,ws,ns',ms',hz,hvi,hwi,hlen,hR⟩;cases hvi with
   |nil=>rw[Tp] at hz;cases hz
   |cons a t hvi' =>
    cases hwi with
    |nil=>rw[V2] at hz;cases hz
    |cons c u hwi' =>
     rw[QZ] at hz;injection hz with hyx hrest;injection hyx with hy hx;subst hy hx;rw[Bp] at hR;simp only[æ] at hlen;obtain⟨e,he,hiff⟩:=A2 A.in1 ⟨hp,g,d,tk,os⟩ a t c u;refine À (he P w _ _ ?_);cases e with
     |true =>
      rw[if_pos (hiff.mp rfl)] at hR;wp_walk;exact⟨rfl,rfl,_,_,_,_,hrest,hvi',hwi',by omega,hR⟩
     |false =>
      rw[if_neg (λq=>absurd (hiff.mpr q) Õ)] at hR;have hri:=Bq A.in1 ⟨hp,g,d,tk,os⟩ a t c u P w
      wp_walk using hri
      exact⟨_,rfl,by simpa using hR⟩
  case fin =>
   rintro ⟨b1,b2⟩ s' ⟨hb',rfl,vs,ws,ns',ms',hz,hvi,hwi,hlen,hR⟩;simp only at hb';subst hb';have hv:leB ns' ms'=decide (i1.size<=i2.size):=by
    cases hvi with
    |nil =>
     cases hwi with
     |nil=>simp only[PK] at hlen;exact(decide_eq_true ∅).symm|cons c u hw=>simp only[PK,æ] at hlen;exact(decide_eq_true ∅).symm
    |cons a t hv =>
     cases hwi with
     |nil=>simp only[PK,æ] at hlen;exact(decide_eq_false ∅).symm|cons c u hw=>rw[QZ] at hz;cases hz
   rw[hv] at hR;wp_walk;exact⟨_,rfl,by simpa [Tz] using hR⟩
  case h=>exact⟨rfl,rfl,i1.toList,i2.toList,ns,ms,rfl,hi,hj,by omega,h⟩
end
section
variable {P:í}{w:ü}{A:p8}{E:Ä->É->Prop}{s:É}
theorem wg(hl:SA s.heap l i1)(hb:SA s.heap b i2)(hi:Q9 i1.toList ns)(hj:Q9 i2.toList ms)
  (hu:A.units < PM) (h:Q (.bool (leB ns ms)) s):Ú (Ù P w) A (c0 .LtE (.ref l) (.ref b)) Q E s:=by
 obtain⟨⟨cls,dd,data,sl⟩,ho,hc,n,hd⟩:=id hl;obtain⟨⟨cls2,dd2,XG,sl2⟩,ho2,hc2,n2,hd2⟩:=id hb;simp only at hc hd hc2 hd2;subst hc hd hc2 hd2;exact Wc (op:=.LtE) ⟨_,ho,rfl⟩ ⟨_,ho2,rfl⟩ PySem.F.slot_tuple_le PySem.F.entry_tuple_le (PySem.F.args_tuple_le_2 _ _) (pW l b i1 i2 n n2 dd dd2 sl sl2 ns ms hi hj)
  ⟨ho,ho2,show QD (leB ns ms)≠Sx/\Q (.bool (leB ns ms)) s from⟨(λx=>nomatch x),h⟩⟩ hu
theorem Em{t b:Ë}{ws:List Ä}{Q:Ä->É->Prop}(ht:SA s.heap t #[])(hb:SA s.heap b ws.toArray)(h:Q (.ref b) s):Ú (Ù P w) A (Qa .Add (.ref t) (.ref b)) Q E s:=by
 obtain⟨⟨cls,dd,data,sl⟩,ho,hc,n,hd⟩:=id ht;obtain⟨⟨cls2,dd2,XG,sl2⟩,ho2,hc2,n2,hd2⟩:=id hb;simp only at hc hd hc2 hd2;subst hc hd hc2 hd2;exact Wf ⟨_,ho,rfl⟩ ⟨_,ho2,rfl⟩ UC VF R6 RZ (RO _ _) (tuple_addW0 t b #[] ws.toArray n n2 dd dd2 sl sl2 (by simp)) ⟨ho,ho2,h⟩
theorem rP:seqRepeat? (.type "tuple")=pure (some (.builtin "tuple.__mul__")):=by
 first | kernel_rfl | rfl | (unfold seqRepeat?;kernel_rfl)
theorem lH:fillsNumberSlot (.type "tuple") "mul"=pure false:=by
 first | kernel_rfl | rfl
theorem wj(a:Int)(t:Tok)(l:Ë)(xs:Array Ä)(n:Nat)(dd:Option Ë)(sl:Array (Option Ä)) :
  UM (Ra.«int.__rmul__» ⟨[.int a t,.ref l],[]⟩) (λ_ R s=>s.heap.get? l=some { cls:=.type "tuple",dict:=dd,data:=.seq xs n,slots:=sl }/\R (.ok (.ret Sx)) s) :=
 .of_wp λP w A R s h=>by obtain⟨hp,g,d,tk,os⟩:=s;obtain⟨hl,h⟩:=h;wp_walk;exact⟨_,rfl,h⟩
theorem Br(l:Ë)(xs:Array Ä)(k:Int)(u:Tok)(n:Nat)(dd:Option Ë)(sl:Array (Option Ä))(h1:¬ (decide (k < -(2 ^ 63)) || decide (k ≥ 2 ^ 63))=true)(h2:(xs.isEmpty || k == 1)=true) :
  UM (Ra.«tuple.__mul__» ⟨[.ref l,.int k u],[]⟩) (λ_ R s=>s.heap.get? l=some { cls:=.type "tuple",dict:=dd,data:=.seq xs n,slots:=sl }/\R (.ok (.ret (.ref l))) s) :=
 .of_wp λP w A R s h=>by
  obtain⟨hp,g,d,tk,os⟩:=s;obtain⟨hl,h⟩:=h;have f1:=S4
  wp_walk using Pp hl
  simp only[h1,if_false]
  wp_walk using Pp hl
  exact⟨_,rfl,h⟩
theorem mul_zero(l:Ë)(xs:Array Ä)(k:Int)(u:Tok)(n:Nat)(dd:Option Ë)(sl:Array (Option Ä))(h1:¬ (decide (k < -(2 ^ 63)) || decide (k ≥ 2 ^ 63))=true)(h2:¬ (xs.isEmpty || k == 1)=true)(h3:(decide (k<=0) || xs.isEmpty)=true) :
  UM (Ra.«tuple.__mul__» ⟨[.ref l,.int k u],[]⟩) (λ_ R s=>s.heap.get? l=some { cls:=.type "tuple",dict:=dd,data:=.seq xs n,slots:=sl }/\R (.ok (.ret (.ref s.heap.objs.size))) { s with heap:=s.heap.push { cls:=.type "tuple",data:=.seq #[] } }) :=
 .of_wp λP w A R s h=>by
  obtain⟨hp,g,d,tk,os⟩:=s;obtain⟨hl,h⟩:=h;have f1:=S4
  wp_walk using Pp hl
  simp only[h1,if_false]
  wp_walk using Pp hl
  exact⟨_,rfl,h⟩
theorem Bt(l:Ë)(xs:Array Ä)(k:Int)(u:Tok)(n:Nat)(dd:Option Ë)(sl:Array (Option Ä))(h1:¬ (decide (k < -(2 ^ 63)) || decide (k ≥ 2 ^ 63))=true)(h2:¬ (xs.isEmpty || k == 1)=true)(h3:¬ (decide (k<=0) || xs.isEmpty)=true)
  (h4:¬ (xs.size:Int) * k > (2 ^ 63 - 1) / 8) (h5:¬ tupleTooMany ((xs.size:Int) * k)=true) (h6:(UL (λx y=>x++y) #[] (ø k.toNat xs)).size<=sizeLine) :
  UM (Ra.«tuple.__mul__» ⟨[.ref l,.int k u],[]⟩) (λ_ R s=>s.heap.get? l=some { cls:=.type "tuple",dict:=dd,data:=.seq xs n,slots:=sl }/\R (.ok (.ret (.ref s.heap.objs.size))) { s with heap:=s.heap.push { cls:=.type "tuple",data:=.seq (UL (λx y=>x++y) #[] (ø k.toNat xs)) } }) :=
 .of_wp λP w A R s h=>by
  obtain⟨hp,g,d,tk,os⟩:=s;obtain⟨hl,h⟩:=h;have f1:=S4
  wp_walk using Pp hl
  simp only[h1,if_false]
  wp_walk using Pp hl
  simp only[h4,h5,if_false];refine À (m:=Ru _) (My (È ?_) h6);exact⟨_,rfl,h⟩
theorem jm{t sl:Ë}{xs:Array Ä}{vl vu:Ä}{lo hi:Option Int}{Q:Ä->É->Prop}(ht:SA s.heap t xs)(hs:s.heap.IsSliceOf sl vl vu .none)(pl:Td vl lo)(pu:Td vu hi)
  (hw:c9 xs.size 0 lo=0/\c9 xs.size xs.size hi=xs.size) (h:Q (.ref t) s):Ú (Ù P w) A (Tn (.ref t) (.ref sl)) Q E s:=by
 obtain⟨os,hos,hcs,hds⟩:=id hs;have hTs:s.TypeIs (.ref sl) "slice":=⟨os,hos,hcs⟩;unfold Tn;try with_reducible refine PC ?_
 first | refine À (È ?_) | skip
 refine À (XE ht.typeIs (-0) ?_);refine À (PL (name:=O8 "__getitem__") ht.typeIs Pc (Qq Pc ht.typeIs entry_tuple_getitem ?_ (Xu _ _)))
 show Ú _ _ (tupleItemsOf (.ref t) >>= _) _ _ s;refine À (tupleItemsOf_ ht (À (RX hTs ?_)));rw[if_pos (-0)];refine À (fX hs pl pu ?_)
 rw[hw.1,hw.2];show Ú _ _ (if (((0:Nat):Int) == 0&&(1:Int) == 1&&(xs.size - 0) == xs.size)=true then _ else _) _ _ s;rw[if_pos (by simp)]
 refine À (m:=tupleIsExact _) ?_;unfold tupleIsExact;refine À (RX ht.typeIs (È ?_));rw[if_pos (-0)]
 first
  |exact À (Qy (È ⟨_,rfl,È h⟩))
  |exact À (Qy (À (È (È ⟨_,rfl,È h⟩))))
end
end HT
namespace L2
open PySem PySem.Spec PyProof.Rows
theorem ae.il{K:Â}{H H':Hp}{a:Ë}{xs:List V}(e:ae H H')(h:cI K H a xs):cI K H' a xs:=by
 rcases h with (h | ⟨o,h⟩) | h
 ·exact .inl (.inl (e _ _ h))
 ·exact .inl (.inr ⟨o,e _ _ h⟩)
 ·exact .inr h
theorem ae.new(o:HO)(n:H p=none):ae H (upd H p o):=λb u e=>by rw[ax (aM e n)];exact e
def rQ(K:Â)(H:Hp)(zs:List V)(Q:VK):Prop:=∀ p H',ae H H'->cI K H' p zs->Q (.ref p) H'
section
variable {X:Cx}{aa:List (Ë × Obj)}{σ:St}{H:Hp}{s:É}
theorem rQ.here(q:rQ X.K H zs Q)(I:Inv X aa σ H s)(h:cI X.K H a zs):EP X aa σ Q (.ref a) s:=⟨.ref a,H,I,rfl,q a H (ae.refl H) h⟩
theorem rQ.new(q:rQ X.K H zs Q)(I:Inv X aa σ H s)(r:Vals zs us)(hz:zs.length<=sizeLine) :
  EP X aa σ Q (.ref s.heap.objs.size) { s with heap:=s.heap.push { cls:=.type "tuple",data:=.seq us.toArray } } :=
 have hn:H s.heap.objs.size=none:=I.bx.fresh (Ô _)
 ⟨.ref s.heap.objs.size,_,I.laid (t':=s.toks) (o:=.tup zs) (λb ob q=>Ã _ q) (Ô _) ⟨hz,_,r,Wu _ _⟩,rfl,q _ _ (ae.new _ hn) (cI.of a7)⟩
end
section
variable {X:Cx}
def M6(K:Â):R2:=λx y H Q=>∃ a b ns ms,x=.ref a/\y=.ref b/\cI K H a (ns.map V.int)/\cI K H b (ms.map V.int)/\Q (.bl (HT.leB ns ms)) H
theorem Hz(hu:X.A.units < PM):eM X (c0 .LtE) (M6 X.K):=by
 intro aa s σ H x y v u Q I rx ry h;obtain⟨a,b,ns,ms,rfl,rfl,ha,hb,q⟩:=h;cases rx;cases ry;obtain⟨v1,r1,p1,_⟩:=I.tuple ha;obtain⟨v2,r2,p2,_⟩:=I.tuple hb;exact HT.wg p1 p2 (show Q9 v1.toArray.toList ns from intsAre_of r1) (show Q9 v2.toArray.toList ms from intsAre_of r2) hu ⟨.bl (HT.leB ns ms),H,I,rfl,q⟩
def Kq(K:Â):R2:=λx y H Q=>∃ a b xs ys,x=.ref a/\y=.ref b/\cI K H a xs/\cI K H b ys/\xs.length + ys.length<=sizeLine/\rQ K H (xs++ys) Q
theorem En:eM X (Qa .Add) (Kq X.K):=by
 intro aa s σ H x y v u Q I rx ry h;obtain⟨a,b,xs,ys,rfl,rfl,ha,hb,hz,q⟩:=h;cases rx;cases ry;obtain⟨v1,r1,p1,_⟩:=I.tuple ha;obtain⟨v2,r2,p2,_⟩:=I.tuple hb;by_cases hx:xs=[]
 ·subst hx;have e:=r1.mV.mpr rfl;subst e;exact HT.Em p1 p2 (q.here I hb)
 ·refine HT.D1 p1 p2 (λz=>hx (r1.mV.mp z)) (λz=>?_) (λz=>q.new I (r1.append r2) (by rw[Ü];exact hz)) (by rw[← r1.length,← r2.length];exact hz)
  have e:=r2.mV.mp z;subst e;rw[ö] at q;exact q.here I ha
def Kr(K:Â):R2:=λx y H Q=>∃ a k xs,x=.ref a/\y=.int k/\cI K H a xs/\0<=k/\k < 1000000/\k.toNat * xs.length<=sizeLine/\rQ K H (ø k.toNat xs).flatten Q
theorem Eo:eM X (Qa .Mult) (Kr X.K):=by
 intro aa s σ H x y v u Q I rx ry h;obtain⟨a,k,xs,rfl,rfl,ha,hk,hk2,hz,q⟩:=h;cases rx;obtain⟨t,rfl⟩:=ry;obtain⟨v1,r1,p1,_⟩:=I.tuple ha;have hl:=r1.length;obtain⟨⟨cls,dd,data,sl⟩,ho,hc,n,hd⟩:=id p1;simp only at hc hd;subst hc hd;have h1:¬ (decide (k < -(2 ^ 63)) || decide (k ≥ 2 ^ 63))=true:=by simp;omega
 refine Vv (T:="tuple") (U:="int") (-0) ⟨_,ho,rfl⟩ (λs'=>TX s' k t) HT.lH XX SF HT.rP XA.lookup
  (QU SF (TX s k t) XC (Xo _ _) (HT.wj k t a v1.toArray n dd sl) ⟨ho,rfl,⟨_,ho,rfl⟩,?_⟩)
 by_cases hx:v1=[]∨k=1
 ·refine QU Us ⟨_,ho,rfl⟩ T7 (Tw _ _) (HT.Br a v1.toArray k t n dd sl h1 (by rcases hx with hx | hx <;> simp[hx])) ⟨ho,?_⟩
  have e2:(ø k.toNat xs).flatten=xs:=by
   rcases hx with hx | hx
   ·rw[r1.mV.mp hx];simp
   ·rw[hx];simp
  rw[e2] at q;exact q.here I ha
 ·have hv:v1≠[]:=λz=>hx (.inl z);have h2:¬ (v1.toArray.isEmpty || k == 1)=true:=by simp[hv];exact λz=>hx (.inr z)
  by_cases hk0:k=0
  ·refine QU Us ⟨_,ho,rfl⟩ T7 (Tw _ _) (HT.mul_zero a v1.toArray k t n dd sl h1 h2 (by simp[hk0])) ⟨ho,?_⟩
   rw[show(ø k.toNat xs).flatten=[] by rw[hk0];rfl] at q
   exact q.new I .nil (PQ _)
  have hpos:0 < v1.length:=Qg.mpr hv;have hfl:UL (λx y=>x++y) #[] (ø k.toNat v1.toArray)=(ø k.toNat v1).flatten.toArray:=by
   have:=foldl_rep v1 k.toNat [];rw[RU] at this;exact this
  have hsz:v1.length * k.toNat<=sizeLine:=by rw[← hl,Tu];exact hz
  have hcast:((v1.toArray.size:Nat):Int) * k=((v1.length * k.toNat:Nat):Int):=by rw[ß,Int.natCast_mul,V6 ∅]
  have hline:(sizeLine:Nat)<=(2 ^ 63 - 1) / 8:=by decide
  refine QU Us ⟨_,ho,rfl⟩ T7 (Tw _ _) (HT.Bt a v1.toArray k t n dd sl h1 h2 (by simp[hv];omega) (by rw[hcast];generalize v1.length * k.toNat=m at hsz;omega) (by rw[hcast];generalize v1.length * k.toNat=m at hsz;unfold tupleTooMany;intro z;have z':=of_decide_eq_true z;omega)
   (by rw[hfl,ß,len_rep,Tu];exact hsz)) ⟨ho,?_⟩
  rw[hfl];exact q.new I (r1.rep k.toNat) (by rw[len_rep];exact hz)
def M7(K:Â):V->Option Int->Option Int->Hp->VK->Prop:=λx lo hi H Q=>∃ a xs,x=.ref a/\cI K H a xs/\rQ K H (rC xs lo hi) Q
theorem Ep:Mc X (M7 X.K):=by
 intro aa s σ H x v vl vu lo hi sl Q I rx hs pl pu h;obtain⟨a,xs,rfl,hx,q⟩:=h;cases rx;obtain⟨ai,r,ht,hz⟩:=I.tuple hx;have hlen:ai.toArray.size=xs.length:=by rw[ß];exact r.length.symm
 refine⟨"tuple",_,Pc.lookup,ht.typeIs,?_⟩;by_cases hw:HT.c9 xs.length 0 lo=0/\HT.c9 xs.length xs.length hi=xs.length
 ·refine HT.jm ht hs pl pu (by rw[hlen];exact hw) ?_
  have e:rC xs lo hi=xs:=by unfold rC;rw[hw.1,hw.2];simp
  rw[e] at q;exact q.here I hx
 ·refine HT.kf ht hs pl pu (by rw[hlen];exact hw) ?_ (by rw[hlen];exact hz)
  rw[hlen];exact q.new I ((r.drop (HT.c9 xs.length 0 lo)).take (HT.c9 xs.length xs.length hi - HT.c9 xs.length 0 lo)) (ã (mh xs lo hi) hz)
def Ou(K:Â)(te ts:TE):TE:=λσ H Q=>te σ H λx H1=>ts σ H1 λy H2=>y=.int (-1)/\((∃ a xs,x=.ref a/\cI K H2 a xs/\rQ K H2 xs.reverse Q)∨∃ a xs,x=.ref a/\jj K H2 a xs/\∀ p,H2 p=none->Q (.ref p) (upd H2 p (.lst xs.reverse)))
theorem HA:eM X (c0 .Is) (λx y H Q=>∃ b c,x=.bl b/\y=.bl c/\Q (.bl (b == c)) H):=by
 intro aa s σ H x y v u Q I rx ry h;obtain⟨b,c,rfl,rfl,q⟩:=h;cases rx;cases ry;exact is_bool (rz I q rfl)
theorem zB:eM X (c0 .IsNot) (λx y H Q=>∃ b c,x=.bl b/\y=.bl c/\Q (.bl (b != c)) H):=by
 intro aa s σ H x y v u Q I rx ry h;obtain⟨b,c,rfl,rfl,q⟩:=h;cases rx;cases ry;exact isnot_bool (rz I q rfl)
theorem Inv.big(I:Inv X aa σ H s):U6 < s.heap.objs.size:=by
 have h:gV < s.heap.objs.size:=(I.mod.glob.keeps I.bk).lt;exact Nat.lt_trans (-0) h
def Ks:TE:=λ_ H Q=>∀ p,H p=none->Q (.ref p) (upd H p (.dK []))
theorem Er{pos:Pos}:PE X (.Dict [] [] pos) Ks:=λaa s σ H Q I h =>
 wpAny_Dict_empty ⟨.ref s.heap.objs.size,_,I.laid (a:=s.heap.objs.size) (o:=.dK []) (t':=s.toks) (λ_ _ q=>Ã _ q) (Ô _) ⟨PQ _,beq_eq_false_iff_ne.mpr (OT (â I.big)),[],.nil,û.DictOf.new _⟩,rfl,h _ (I.bx.fresh (Ô _))⟩
end
end L2
namespace MySort
open PySem PySem.W PyProof.Rows
section
variable {P:í}{w:ü}{A:p8}{E:Ä->É->Prop}{s:É}
theorem t6(ho:s.heap.get? l=some o)(hc:o.cls=.type "list"∨o.cls=.type "tuple")(hd:o.data=.seq vs.toArray n)
  (h:Q vs { s with heap:=(s.heap.push (Pu "list" #[] 0)).update s.heap.objs.size (OY (·++vs.toArray)) }) (hz:vs.length<=sizeLine):Ú (Ù P w) A (XH (.ref l)) Q E s:=by
 unfold XH;refine À (U4 (PN entry_proto_collect' ?_));show Ú _ _ (do again (.builtin "list.__iadd__" ⟨[← UW [],.ref l],[]⟩)) _ _ s;refine À (VD (È ⟨V7 _ (by decide +kernel),PN entry_list_iadd' ?_⟩))
 show Ú _ _ (Ri (.ref s.heap.objs.size) (.ref l) (.ref s.heap.objs.size)) _ _ { s with heap:=s.heap.push (Pu "list" #[] 0) };unfold Ri;have ho':(s.heap.push (Pu "list" #[] 0)).get? l=some o:=Ã _ ho;have fin:Ú (Ù P w) A (do
   let o ← load s.heap.objs.size
   match o.data with
   |.seq xs _=>pure xs.toList
   |_=>WQ "internal:collect") Q E { s with heap:=(s.heap.push (Pu "list" #[] 0)).update s.heap.objs.size (OY (·++vs.toArray)) }:=by
  refine À (Xq (US (Í _ rfl) _) ?_);show Ú _ _ (pure ((#[]:Array Ä)++vs.toArray).toList) Q E _;rw[show((#[]:Array Ä)++vs.toArray).toList=vs by simp];exact È h
 rcases hc with hc | hc
 ·refine À (RX (T:="list") ⟨o,ho',hc⟩ ?_);rw[if_pos (by rw[show(Pq "list" == Pq "list")=true by rfl];simp)]
  refine À (RY ho' hd (À (RY (xs:=#[]) (n:=0) (Í _ rfl) rfl ?_)));rw[if_neg (by simp)]
  exact À (TL (xs:=#[]) (n:=0) (Í _ rfl) rfl (È fin) (PQ _) (by show(#[]++vs.toArray).size<=sizeLine + 1;simp only[V8,ß,PK];omega))
 ·refine À (RX (T:="tuple") ⟨o,ho',hc⟩ ?_);rw[if_pos (by rw[show(Pq "tuple" == Pq "tuple")=true by rfl];simp)]
  refine À (RY ho' hd (À (RY (xs:=#[]) (n:=0) (Í _ rfl) rfl ?_)));rw[if_neg (by simp)]
  exact À (TL (xs:=#[]) (n:=0) (Í _ rfl) rfl (È fin) (PQ _) (by show(#[]++vs.toArray).size<=sizeLine + 1;simp only[V8,ß,PK];omega))
theorem zC(ho:s.heap.get? l=some o)(hc:o.cls=.type "list"∨o.cls=.type "tuple")(hd:o.data=.seq vs.toArray n)
  (hk:∀ h',tY s.heap h'->zz P w A.in1.in1 { s with heap:=h' } vs Pr kd)
  (h:∀ (p:List Nat) (h':û) (c:Nat),Pr p->(∀ b o,s.heap.get? b=some o->h'.get? b=some o)->h'.get? (s.heap.objs.size + 1)=some (Pu "list" (p.map λi=>vs.getD i ð).toArray c)->Q (.ref (s.heap.objs.size + 1)) { s with heap:=h' }) :
  Ú (Ù P w) A (call (.builtin "sorted") [.ref l]) Q E s:=by
 have h64:=(hk s.heap λ_ _ e _=>e).len;refine Calls.call_function_entry kind_sorted plain_sorted entry_sorted (args_sorted1 _) ?_;unfold Ra.«sorted»;refine À (m:=checkCount "sorted" 1 1 _) (È ?_);refine À (t6 ho hc hd ?_ (by rw[O2];omega));refine À (VD ?_ (by rw[O2];omega))
 have hsz:((s.heap.push (Pu "list" #[] 0)).update s.heap.objs.size (OY (·++vs.toArray))).objs.size=s.heap.objs.size + 1:=by rw[û.size_update,size_push']
 have hoL:(((s.heap.push (Pu "list" #[] 0)).update s.heap.objs.size (OY (·++vs.toArray))).push (Pu "list" vs.toArray 0)).get? (s.heap.objs.size + 1)=some (Pu "list" vs.toArray 0):=by rw[← hsz];exact Í _ rfl
 have keep:∀ b o,s.heap.get? b=some o->(((s.heap.push (Pu "list" #[] 0)).update s.heap.objs.size (OY (·++vs.toArray))).push (Pu "list" vs.toArray 0)).get? b=some o:=λb o q=>by
  have hlt:b < s.heap.objs.size:=ë q;rw[Wy _ _ _ (by rw[hsz];exact â (Qz hlt)),Heap.get?_update_ne _ _ _ _ (â hlt),Wy _ _ _ (â hlt)];exact q
 show Ú _ _ _ _ _ { s with heap:=((s.heap.push (Pu "list" #[] 0)).update s.heap.objs.size (OY (·++vs.toArray))).push (Pu "list" vs.toArray 0) };rw[hsz];refine À (PC (Qq slot_list_sort ⟨_,hoL,rfl⟩ entry_list_sort (Bo hoL (λh' kp=>hk h' λb o e hc=>kp b o (keep b o e) hc) λp h' c hp kp hD=>⟨_,rfl,È ⟨_,rfl,h p h' c hp (λb o e=>kp b o (â (Qz (ë e))) (keep b o e)) hD⟩⟩) (args_list_sort _)))
end
end MySort
namespace L2
open PySem PySem.Spec PyProof.Rows
open MySort (sortedBy)
section
variable {X:Cx}
def xV(X:Cx)(H:Hp)(xs:List V)(Pr:List Nat->Prop):Prop:=∀ (aa:List (Ë × Obj)) (σ:St) (s:É) (us:List Ä),Inv X aa σ H s->Vals xs us->∃ kd,∀ h',MySort.tY s.heap h'->MySort.zz X.prog X.w X.A.in1.in1 { s with heap:=h' } us Pr kd
theorem km:bP X (.builtin "sorted") (λargs H Q=>∃ a xs,∃ Pr:List Nat->Prop,args=[.ref a]/\(jj X.K H a xs∨cI X.K H a xs)/\xV X H xs Pr/\(∀ p,Pr p->∀ i∈p,i < xs.length)/\∀ p l,Pr p->H l=none->Q (.ref l) (upd H l (.lst (p.map λi=>xs.getD i .bw)))):=by
 intro aa s σ H args us Q I r h;obtain⟨a,xs,Pr,rfl,hq,hk,hpr,q⟩:=h;obtain⟨u,rfl,rx⟩:=vals1 r;cases rx;have go:∀ (ai:List Ä) (o:Obj) (n:Nat),Vals xs ai->s.heap.get? a=some o->(o.cls=.type "list"∨o.cls=.type "tuple")->o.data=.seq ai.toArray n->Ú (Ù X.prog X.w) X.A (call (.builtin "sorted") [.ref a]) (EP X aa σ Q) X.xe s:=λai o n rv ho hc hd=>by
  obtain⟨kd,kw⟩:=hk aa σ s ai I rv;have k0:=kw s.heap λ_ _ e _=>e;refine MySort.zC ho hc hd kw λp h' c hp kp hD=>?_;have hn:H (s.heap.objs.size + 1)=none:=I.bx.fresh (PU _ 1);have hlen:(p.map λi=>xs.getD i .bw).length<=sizeLine:=by rw[Ç,k0.all p hp,O2];have:=k0.len;omega
  have rv':Vals (p.map λi=>xs.getD i .bw) (p.map λi=>ai.getD i ð):=by
   have hall:=hpr p hp;clear hp hD hlen
   induction p with
   |nil=>exact .nil
   |cons i r ih =>
    refine .cons ?_ (ih λj hj=>hall j (Æ _ hj));have hi:=hall i Å;obtain⟨u,hu,ru⟩:=rv.get (i:=i) (x:=xs[i]) (by simp[hi])
    have e1:xs.getD i V.bw=xs[i]:=by simp[hi]
    have e2:ai.getD i ð=u:=by rw[Ê,hu];rfl
    show RelV (xs.getD i V.bw) (ai.getD i ð);rw[e1,e2];exact ru
  exact⟨.ref (s.heap.objs.size + 1),_,I.laid (t':=s.toks) kp (PU _ 1) (show cD X.prog X.w _ h' _ (.lst _) from⟨hlen,_,c,rv',hD⟩),rfl,q p _ hp hn⟩
 rcases hq with hq | hq
 ·obtain⟨ai,rv,pl,_⟩:=I.list hq;obtain⟨o,ho,hc,n,hd⟩:=pl.isList;exact go ai o n rv ho (.inl hc) hd
 ·obtain⟨ai,rv,⟨o,ho,hc,n,hd⟩,_⟩:=I.tuple hq;exact go ai o n rv ho (.inr hc) hd
end
inductive D where
 |bw | bl (b:Bool) | int (i:Int) | str (x:Str) | tup (ds:List D) | lst (ds:List D) | dct
def D.ty:D->String
 |.bw=>"NoneType"|.bl _=>"bool"|.int _=>"int"|.str _=>"str"|.tup _=>"tuple"|.lst _=>"list"|.dct=>"dict"
mutual
def mO(K:Â)(H:Hp):D->V->Prop
 |.bw,v=>v=.bw|.bl b,v=>v=.bl b|.int i,v=>v=.int i|.str x,v=>v=.str x|.tup ds,v=>∃ a xs,v=.ref a/\cI K H a xs/\lI K H ds xs|.lst ds,v=>∃ a xs,v=.ref a/\jj K H a xs/\lI K H ds xs|.dct,v=>∃ a kvs,v=.ref a/\H a=some (.dK kvs)
def lI(K:Â)(H:Hp):List D->List V->Prop
 |[],xs=>xs=[]|d::ds,xs=>∃ x r,xs=x::r/\mO K H d x/\lI K H ds r
end
def xW(T C:String):Bool:=T == C || (T == "bool"&&C == "int")
theorem Bu(K:Â)(d:D):∀ C∈["int","bool","tuple","list","str"],PySem.W.kitOne K (.type d.ty) (.type C)=some (xW d.ty C):=by
 intro C hC;simp only[OO,OU,or_false] at hC;rcases hC with rfl | rfl | rfl | rfl | rfl <;> cases d <;> first | rfl | kernel_rfl | decide +kernel
section
variable {X:Cx}
theorem Bv:bP X (.builtin "isinstance") (λxs H Q=>∃ d x C,xs=[x,.ty C]/\mO X.K H d x/\C∈["int","bool","tuple","list","str"]/\Q (.bl (xW d.ty C)) H):=by
 intro aa s σ H xs us Q I r h;obtain⟨d,x,C,rfl,hd,hC,q⟩:=h;obtain⟨u,w',rfl,rx,rt⟩:=vals2 r;cases (show w'=Pq C from rt);have e:=Bu X.K d C hC;have fin:∀ tk,EP X aa σ Q (.bool (xW d.ty C)) { s with toks:=tk }:=λtk=>⟨.bl _,H,I.tok tk,rfl,q⟩;cases d with
 |bw=>unfold mO at hd;subst hd;cases rx;exact S2 kitx_none I.pQ Rn e (λz=>nomatch z) fin
 |bl b=>unfold mO at hd;subst hd;cases rx;exact S2 kitx_bool I.pQ Rn e (λz=>nomatch z) fin
 |int i=>unfold mO at hd;subst hd;obtain⟨t,rfl⟩:=rx;exact S2 kitx_int I.pQ Rn e (λz=>nomatch z) fin
 |str y=>unfold mO at hd;subst hd;obtain⟨t,rfl⟩:=rx;exact S2 kitx_str I.pQ Rn e (λz=>nomatch z) fin
 |tup ds =>
  unfold mO at hd;obtain⟨a,ys,rfl,hq,_⟩:=hd;cases rx;obtain⟨ai,_,⟨o,h1,h2,_⟩,_⟩:=I.tuple hq;exact S2 kitx_tuple I.pQ ⟨o,h1,h2⟩ e (λz=>nomatch z) fin
 |lst ds =>
  unfold mO at hd;obtain⟨a,ys,rfl,hq,_⟩:=hd;cases rx;obtain⟨ai,_,pl,_⟩:=I.list hq;obtain⟨o,h1,h2,_⟩:=pl.isList;exact S2 kitx_list I.pQ ⟨o,h1,h2⟩ e (λz=>nomatch z) fin
 |dct =>
  unfold mO at hd;obtain⟨a,kvs,rfl,hq⟩:=hd;cases rx;obtain⟨_,_,vs,_,p⟩:=(show cD X.prog X.w H s.heap a (.dK kvs) from I.bx a _ hq);obtain⟨o,es,ep,h1,h2,_⟩:=p;exact S2 kitx_dict I.pQ ⟨o,h1,h2.1⟩ e (λz=>nomatch z) fin
end
def hide(st:Ë)(H:Hp):Hp:=λb=>if b=st then none else H b
theorem cA(st:Ë)(H:Hp):ae (hide st H) H:=λb o e=>by
 unfold hide at e;split at e
 ·cases e
 ·exact e
theorem lJ{st:Ë}{H H':Hp}(e:∀ b o,b≠st->H b=some o->H' b=some o):ae (hide st H) (hide st H'):=λb o h=>by
 unfold hide at h ⊢;by_cases q:b=st
 ·rw[if_pos q] at h;cases h
 ·rw[if_neg q] at h ⊢;exact e b o q h
theorem nX{st b:Ë}{H:Hp}{o:HO}(h:H b=some o)(n:b≠st):hide st H b=some o:=by
 unfold hide;rw[if_neg n];exact h
end L2
namespace L2
open PySem PySem.Spec PyProof.Rows
theorem Bw{σ:St}{H:Hp}{R:Bool->Hp->Prop}(h:R true H):xM σ H R:=h
section
variable {X:Cx}
theorem HB(K:Â)(d:D):kitAny K (.type d.ty) [.type "tuple",.type "list"]=some (xW d.ty "tuple" || xW d.ty "list"):=by
 have e1:=Bu K d "tuple" (by simp)
 have e2:=Bu K d "list" (by simp)
 unfold kitAny;rw[e1];cases xW d.ty "tuple" with
 |true=>rfl
 |false =>
  show kitAny K (.type d.ty) [.type "list"]=_;unfold kitAny;rw[e2];cases xW d.ty "list" <;> rfl
theorem zD:bP X (.builtin "isinstance") (λxs H Q=>∃ d x a,xs=[x,.ref a]/\mO X.K H d x/\cI X.K H a [.ty "tuple",.ty "list"]/\Q (.bl (xW d.ty "tuple" || xW d.ty "list")) H):=by
 intro aa s σ H xs us Q I r h;obtain⟨d,x,a,rfl,hd,hq,q⟩:=h;obtain⟨u,w',rfl,rx,rt⟩:=vals2 r;cases (show w'=Pf a from rt);obtain⟨ai,rv,⟨⟨cls,dd,data,sl⟩,ho,hc,n,hdt⟩,_⟩:=I.tuple hq;simp only at hc hdt;subst hc hdt;have eits:ai=[.type "tuple",.type "list"]:=by
  cases rv with
  |cons p r=>cases r with
   |cons p2 r2=>cases r2;rw[show _=Pq "tuple" from p,show _=Pq "list" from p2]
 subst eits;have e:=HB X.K d;have fin:∀ tk,EP X aa σ Q (.bool (xW d.ty "tuple" || xW d.ty "list")) { s with toks:=tk }:=λtk=>⟨.bl _,H,I.tok tk,rfl,q⟩;cases d with
 |bw=>unfold mO at hd;subst hd;cases rx;exact S1 kitx_none I.pQ Rn ho e (λz=>nomatch z) fin
 |bl b=>unfold mO at hd;subst hd;cases rx;exact S1 kitx_bool I.pQ Rn ho e (λz=>nomatch z) fin
 |int i=>unfold mO at hd;subst hd;obtain⟨t,rfl⟩:=rx;exact S1 kitx_int I.pQ Rn ho e (λz=>nomatch z) fin
 |str y=>unfold mO at hd;subst hd;obtain⟨t,rfl⟩:=rx;exact S1 kitx_str I.pQ Rn ho e (λz=>nomatch z) fin
 |tup ds =>
  unfold mO at hd;obtain⟨b,ys,rfl,hq',_⟩:=hd;cases rx;obtain⟨_,_,⟨o,h1,h2,_⟩,_⟩:=I.tuple hq';exact S1 kitx_tuple I.pQ ⟨o,h1,h2⟩ ho e (λz=>nomatch z) fin
 |lst ds =>
  unfold mO at hd;obtain⟨b,ys,rfl,hq',_⟩:=hd;cases rx;obtain⟨_,_,pl,_⟩:=I.list hq';obtain⟨o,h1,h2,_⟩:=pl.isList;exact S1 kitx_list I.pQ ⟨o,h1,h2⟩ ho e (λz=>nomatch z) fin
 |dct =>
  unfold mO at hd;obtain⟨b,kvs,rfl,hq'⟩:=hd;cases rx;obtain⟨_,_,vs,_,p⟩:=(show cD X.prog X.w H s.heap b (.dK kvs) from I.bx b _ hq');obtain⟨o,es,ep,h1,h2,_⟩:=p;exact S1 kitx_dict I.pQ ⟨o,h1,h2.1⟩ ho e (λz=>nomatch z) fin
end
open PySem PySem.Spec PyProof.Rows PySem.SeqAt
theorem pX(l b:Ë)(es:Array Yo)(n:Nat)(it:Array Ä)(n2:Nat)(dd dd2:Option Ë)(sl sl2:Array (Option Ä)) :
  UM (Ra.«dict.__ne__» ⟨[.ref l,.ref b],[]⟩) (λ_ R s=>s.heap.get? l=some { cls:=.type "dict",dict:=dd,data:=.dict es n,slots:=sl }/\s.heap.get? b=some { cls:=.type "tuple",dict:=dd2,data:=.seq it n2,slots:=sl2 }/\R (.ok (.ret .notImplemented)) s) :=
 .of_wp λprog w A R s h=>by
  obtain⟨hp,g,d,tk,os⟩:=s;obtain⟨hl,hb,h⟩:=h;have f1:=Xz
  wp_walk using PH hl,PH hb
  exact⟨_,rfl,h⟩
theorem pY(l b:Ë)(es:Array Yo)(n:Nat)(it:Array Ä)(n2:Nat)(dd dd2:Option Ë)(sl sl2:Array (Option Ä)) :
  UM (Ra.«tuple.__ne__» ⟨[.ref b,.ref l],[]⟩) (λ_ R s=>s.heap.get? l=some { cls:=.type "dict",dict:=dd,data:=.dict es n,slots:=sl }/\s.heap.get? b=some { cls:=.type "tuple",dict:=dd2,data:=.seq it n2,slots:=sl2 }/\R (.ok (.ret .notImplemented)) s) :=
 .of_wp λprog w A R s h=>by
  obtain⟨hp,g,d,tk,os⟩:=s;obtain⟨hl,hb,h⟩:=h;have f1:=F.sub_dict_tuple
  wp_walk using PH hl,PH hb
  exact⟨_,rfl,h⟩
section
variable {X:Cx}
theorem Es(hu:X.A.units + 64 < PM):eM X (c0 .NotEq) (λx y H Q=>∃ a b kvs xs,x=.ref a/\y=.ref b/\H a=some (.dK kvs)/\cI X.K H b xs/\Q (.bl true) H):=by
 intro aa s σ H x y v u Q I rx ry h;obtain⟨a,b,kvs,xs,rfl,rfl,ha,hb,q⟩:=h;cases rx;cases ry;obtain⟨v2,r2,⟨o2,h2,c2,n2,d2⟩,_⟩:=I.tuple hb;obtain⟨_,_,vs,_,p⟩:=(show cD X.prog X.w H s.heap a (.dK kvs) from I.bx a _ ha);obtain⟨o1,es,n1,h1,c1,d1,_⟩:=p;have c1:=c1.1;obtain⟨cls,dd,data,sl⟩:=o1;obtain⟨cls2,dd2,XG,sl2⟩:=o2;simp only at c1 d1 c2 d2;subst c1 d1 c2 d2;have hne:a≠b:=λe=>by
  subst e;rw[h1] at h2;simp at h2
 have hu':X.A.units < cLine:=by omega
 refine rc_ne_decline_or (k:=false) ⟨_,h1,rfl⟩ ⟨_,h2,rfl⟩ (-0) Xz Yn Wz
  (λ_ hq=>QU Yn ⟨_,h1,rfl⟩ F.entry_dict_ne (F.args_dict_ne_2 _ _) (pX a b es n1 v2.toArray n2 dd dd2 sl sl2) ⟨h1,h2,hq⟩)
  (λ_ hq=>QU Wz ⟨_,h2,rfl⟩ F.entry_tuple_ne (F.args_tuple_ne_2 _ _) (pY a b es n1 v2.toArray n2 dd dd2 sl sl2) ⟨h1,h2,hq⟩)
  (λ_ hq=>wpAny_isSame_ref_other hne h1 h2 (by simp) hq) (.inr hu') ⟨.bl true,H,I,rfl,q⟩
end
end L2
namespace L2
open PySem PySem.Spec PyProof.Rows
section
variable {P:í}{w:ü}{A:p8}{E:Ä->É->Prop}{s:É}
abbrev Mj(h:û)(l:Ë):Heap:=h.push { cls:=.type "tuple_iterator",data:=.fields #[.ref l,.int 0 0] }
abbrev M8(h:û)(l:Ë):Heap:=(Mj h l).push { cls:=.type "enumerate",data:=.fields #[.none,.bool false,.ref h.objs.size,U7 0,.none,.none] }
theorem t7(l:Ë)(xs:Array Ä) :
  UM (Ra.«enumerate.__new__» ⟨[.type "enumerate",.ref l],[]⟩) (λ_ R s=>s.heap.IsTuple l xs/\R (.ok (.ret (.ref (Mj s.heap l).objs.size))) { s with heap:=M8 s.heap l }) :=
 .of_wp λP w A R s h=>by
  obtain⟨hp,g,d,tk,os⟩:=s;obtain⟨hl,h⟩:=h;have hsub:=sub_enumerate;have hL1:Sl (UY ⟨hp,g,d,tk,os⟩) l xs:=hl
  wp_walk;refine wpAny_stack_any λq=>È ?_;split
  ·rename_i c _ _ _ _ _;cases (c == Pq "enumerate") <;> (wp_walk using Py hL1) <;> exact⟨_,rfl,h⟩
  ·wp_walk using Py hL1
   exact⟨_,rfl,h⟩
theorem wk(hl:s.heap.IsTuple l xs)
  (h:∀ h',IsEnum h' (s.heap.objs.size + 1) s.heap.objs.size 0 .none->h'.IsTupleIter s.heap.objs.size l 0->(∀ c o,s.heap.get? c=some o->h'.get? c=some o)->Q (.ref (s.heap.objs.size + 1)) { s with heap:=h' }) :
  Ú (Ù P w) A (call (.type "enumerate") [.ref l]) Q E s:=by
 refine callType_new F.called_enumerate (-0) (F.typeCall_enumerate_1 _) (F.newCall_enumerate_1 _) (λobj=>F.args_object_init_2 obj _) F.entry_enumerate_new (t7 l xs) ⟨hl,?_⟩
 have n1:(Mj s.heap l).objs.size=s.heap.objs.size + 1:=Qi ..;have g2:(M8 s.heap l).get? (Mj s.heap l).objs.size=some _:=Í _ rfl;have g1:(M8 s.heap l).get? s.heap.objs.size=some _:=Ã _ (Í _ rfl);show _/\_;rw[n1] at g2;rw[n1];exact⟨⟨_,g2,rfl⟩,h _ g2 ⟨_,g1,rfl,rfl⟩ λc o q=>Ã _ (Ã _ q)⟩
theorem zF(hh:A.handled=none){it l:Ë}{xs:Array Ä}(n:l≠it):Draws P w A it [it,l] xs.size (λi x=>xs[i]?=some x) (λi h=>h.IsTupleIter it l i/\h.IsTuple l xs) where
 live:=λi h q=>by obtain⟨⟨o,e,_⟩,_⟩:=q;exact⟨o,e⟩
 frame:=λi h h' q k=>by
  obtain⟨⟨o,e,r⟩,⟨o',e',r'⟩⟩:=q;exact⟨⟨o,k it (by simp) _ e,r⟩,⟨o',k l (by simp) _ e',r'⟩⟩
 item:=λi s Q E hi q k=>gx q.1 q.2 (x:=xs[i]) (by simp[hi]) λh' h1 h2=>k _ h' s.toks (by simp[hi]) ⟨h1,q.2.extBut h2.extBut n⟩ h2
 done:=λs Q E q k=>fC hh q.1 q.2 (by simp) λh' e h1 h2=>k h' e h1 h2
end
theorem Bx{P:í}{w:ü}{A:p8}(b:Bool)(hh:A.handled=none){it l:Ë}{xs:Array Ä}(n:l≠it):Draws P w A it [it,l] xs.size (λi x=>xs[i]?=some x) (λi h=>iA b h it l i/\rJ b h l xs):=match b with
 |true=>Draws.list hh it l n xs|false=>zF hh n
def Mk(b:Bool)(K:Â)(a:Ë):It :=
 ⟨λi H=>∃ xs x,tF b K H a xs/\xs[i]?=some x,
  λi H v H'=>∃ T,v=.ref T/\H T=none/\∀ xs x,tF b K H a xs->xs[i]?=some x->H'=upd H T (.tup [.int i,x]),
  λi H=>∃ xs,tF b K H a xs/\xs.length=i⟩
theorem zG{P:í}{w:ü}{K:Â}{es:List Ö}{ek:Nat}{ep:Pos}{a e it:Ë}{b:Bool}(h1:e≠it)(h2:a≠e)(h3:a≠it) :
  Turn P w K (.Tuple es ek ep) (Mk b K a) [e,it] e (λi h=>(∃ old,IsEnum h e it i old)/\iA b h it a i) where
 mem:=by simp
 obj:=λi h st c hc=>by
  obtain⟨⟨old,he⟩,st⟩:=st;obtain⟨o1,g1,d1,_⟩:=st.obj;simp only[OO,OU,or_false] at hc;rcases hc with rfl | rfl
  ·exact⟨_,he,λv e=>by cases e⟩
  ·exact⟨_,g1,d1⟩
 keep:=λi h h' st k=>by
  obtain⟨⟨old,he⟩,st⟩:=st;obtain⟨o1,g1,_,r1⟩:=st.obj;exact⟨⟨old,k e (by simp) _ he⟩,r1 h' (k it (by simp) _ g1)⟩
 item:=by
  intro X hP hw hK hc i aa s σ H E I hf st hg;subst hP hw hK;obtain⟨xs,x,hq,hx⟩:=hg;obtain⟨v1,rv,p1,_,z1⟩:=I.rK hq;obtain⟨u,hu,ru⟩:=rv.get hx;obtain⟨⟨old,he⟩,hi⟩:=st;have hl:i < v1.toArray.size:=by simpa using (ï.mp hu).1
  refine wpAny_pyNext_enum_itemD (Bx (A:=X.A.in1) b (by exact I.ok.hd hc) h3) he ⟨hi,p1⟩ hl h1 (by simp[h1,h2.symm]) λy g1 tk hy ge gs gT sz kp=>⟨_,rfl,?_⟩
  have hy':v1[i]?=some y:=by simpa using hy
  rw[hu] at hy';cases hy';refine wpAny_letOwnedTupleGo_enum (s:={ s with heap:=g1,toks:=tk + 1 }) ge λg2 ge2 sb=>?_;have hT:H s.heap.objs.size=none:=I.bx.fresh (Ô _);have kall:∀ c o,c ∉ [e,it]->s.heap.get? c=some o->g2.get? c=some o:=λc o hc q=>by
   simp only[OO,OU,or_false,not_or] at hc;exact sb.extBut _ _ hc.1 (kp c o hc.1 hc.2 q)
  have I2:Inv X aa σ H { s with heap:=g2,toks:=tk + 1 }:=I.mX (t':=tk + 1) hf kall;have fT:j9 X aa H s.heap.objs.size:=I.ly (Ô _) hT;have gT2:g2.get? s.heap.objs.size=some { cls:=.type "tuple",data:=.seq #[.int i tk,u] }:=sb.extBut _ _ (λq=>O1 _ (by have:=ë he;rw[← q] at this;exact this)) gT
  have I3:Inv X aa σ (upd H s.heap.objs.size (.tup [.int i,x])) { s with heap:=g2,toks:=tk + 1 }:=I2.xK fT I.sz (I2.bx.Bb hT (ai:=[.int i tk,u]) (.cons ⟨_,rfl⟩ (.cons ru .nil)) (by show 2<=sizeLine;rw[O2];decide) ⟨_,gT2,rfl,_,rfl⟩)
  refine⟨.ref s.heap.objs.size,_,I3,rfl,⟨_,rfl,hT,λxs' x' e1 e2=>?_⟩,⟨⟨_,ge2⟩,by obtain⟨o,q1,_,q2⟩:=gs.1.obj;exact q2 _ (sb.extBut _ _ h1.symm q1)⟩,λc hc=>?_⟩
  ·rw[z1 _ e1] at e2;rw[hx] at e2;cases e2;rfl
  ·rw[ax]
   ·exact(hf c hc).1
   ·intro q;simp only[OO,OU,or_false] at hc;rcases hc with hc | hc
    ·exact O1 _ (by have:=ë he;rw[← hc,q] at this;exact this)
    ·obtain⟨o,ho,_⟩:=iA.obj hi;exact O1 _ (by have:=ë ho;rw[← hc,q] at this;exact this)
 done:=by
  intro X hP hw hK hc i aa s σ H E I hf st hg;subst hP hw hK;obtain⟨xs,hq,rfl⟩:=hg;obtain⟨v1,rv,p1,_,z1⟩:=I.rK hq;obtain⟨⟨old,he⟩,hi⟩:=st;refine wpAny_pyNext_enum_endD (Bx (A:=X.A.in1) (xs:=v1.toArray) b (by exact I.ok.hd hc) h3) he ⟨by rw[show v1.toArray.size=xs.length by simpa using rv.length.symm];exact hi,p1⟩ λg kp=>⟨rfl,I.mX (t':=s.toks) hf λc o hcn q=>?_⟩
  simp only[OO,OU,or_false,not_or] at hcn;exact kp c o hcn.2 q
 self:=λ_ _ _ _ _ st h=>by obtain⟨⟨_,he⟩,_⟩:=st;exact XF he h
def Kt(K:Â)(ta:TA):TI:=λσ H R=>ta σ H λvs H1=>∃ b a,vs=[.ref a]/\(∃ xs,tF b K H1 a xs)/\R (Mk b K a) H1
theorem wm(hl:rJ b s.heap l xs)
  (h:∀ h',IsEnum h' (s.heap.objs.size + 1) s.heap.objs.size 0 .none->iA b h' s.heap.objs.size l 0->(∀ c o,s.heap.get? c=some o->h'.get? c=some o)->Q (.ref (s.heap.objs.size + 1)) { s with heap:=h' }) :
  Ú (Ù P w) A (call (.type "enumerate") [.ref l]) Q E s:=match b,hl,h with
 |true,hl,h=>call_enumerate_list hl λh' a b _ c=>h h' a b c|false,hl,h=>wk hl h
theorem zH:ù "enumerate"=some (.type "enumerate"):=by decide +kernel
theorem Et{X:Cx}{a:Ö}{es:List Ö}{ek:Nat}{ep:Pos}{ta:TA}{p pos:Pos}(hg:Gl X "enumerate")(hm:X.mg "enumerate"=none)(ha:PA X [a] ta)(hs:Of [a] X.env=[(false,eval a X.env)]:=by rfl) :
  PI X (.Tuple es ek ep) (.Call (.Name "enumerate" p) [a] [] pos) (Kt X.K ta):=by
 intro aa s σ H R I h;refine XY (gu I hg hm zH (OS (b8 (ha pos aa s σ H _ I h) λus s1 ⟨vs,H1,I1,r1,q1⟩=>?_) (by rw[hs];rfl) (by rfl)))
 obtain⟨b,l1,e,⟨xs,hq1⟩,q⟩:=q1;subst e;obtain⟨u,rfl,r⟩:=vals1 r1;cases r;obtain⟨v1,rv1,p1,a1,_⟩:=I1.rK hq1;refine wm p1 λh' he h1 kp=>XF (s:={ s1 with heap:=h' }) he ?_;refine⟨_,[s1.heap.objs.size + 1,s1.heap.objs.size],_,_,H1,rfl,I1.kept (t':=s1.toks) kp,zG (Nat.succ_ne_self _) (â (Qz a1)) (â a1),⟨⟨_,he⟩,h1⟩,λc hc=>?_,q⟩;have hc':s1.heap.objs.size<=c:=by
  simp only[OO,OU,or_false] at hc;rcases hc with rfl | rfl
  ·exact PU _ 1
  ·exact Ô _
 exact I1.ly hc' (I1.bx.fresh hc')
end L2
namespace HT
open PySem PySem.W PyProof.Rows
set_option maxRecDepth 100000
section
variable {P:í}{w:ü}{A:p8}{E:Ä->É->Prop}{s:É}
theorem pZ{a b c:Int}{n:Nat}(hh:A.handled=none)(hr:U0 s.heap r a b c t u v)(hs:R9 a b c=true)(hn:Po a b c=n)(hl:n<=2 ^ 24)
  (hQ:∀ (h':û) (tk:Nat) (acc:Array Ä),(∀ b o,s.heap.get? b=some o->h'.get? b=some o)->s.heap.objs.size<=h'.objs.size->Wt (λi v=>∃ t,v=.int (a + i * c) t) acc n->Q acc.toList { s with heap:=h',toks:=tk }):Ú (Ù P w) A (XH (.ref r)) Q E s:=by
 unfold XH;refine À (U4 (PN PySem.F.entry_proto_collect ?_));rw[P9 PySem.F.plain_proto_collect _];show Ú _ A.in1 (UW [] >>= λl=>again (.builtin "list.__iadd__" ⟨[l,.ref r],[]⟩)) _ _ s;refine À (My (È ⟨TF Uv _,PN PySem.F.entry_list_iadd ?_⟩));rw[P9 Uv _];show Ú _ A.in1 (Ri (.ref s.heap.objs.size) (.ref r) (.ref s.heap.objs.size)) _ _ { s with heap:=s.heap.push (Pu "list" #[] 0) };have hS:(s.heap.push (Pu "list" #[] 0)).get? s.heap.objs.size=some { cls:=.type "list",data:=.seq #[] 0 }:=Í _ rfl;refine Pz (wpAny_extend_range (A:=A) (s:={ s with heap:=s.heap.push (Pu "list" #[] 0) }) (R:=λx s'=>x=.ok (.ret (.ref s.heap.objs.size))/\∃ h' tk acc c',s'={ s with heap:=h',toks:=tk }/\(∀ b o,s.heap.get? b=some o->h'.get? b=some o)/\h'.get? s.heap.objs.size=some { cls:=.type "list",dict:=none,data:=.seq acc c',slots:=#[] }/\Wt (λi v=>∃ t,v=.int (a + i * c) t) acc n) hh (Ã _ hr) hs hn hl _ (.ref s.heap.objs.size) 0 hS λh' tk acc c' hk hS' hi=>⟨rfl,h',tk,acc,c',rfl,λb o e=>hk b o (â (ë e)) (Ã _ e),hS',hi⟩) (λfin s' h=>?_) λe s' h=>?_
 ·have go:∀ s',(∃ h' tk acc c',s'={ s with heap:=h',toks:=tk }/\(∀ b o,s.heap.get? b=some o->h'.get? b=some o)/\h'.get? s.heap.objs.size=some { cls:=.type "list",dict:=none,data:=.seq acc c',slots:=#[] }/\Wt (λi v=>∃ t,v=.int (a + i * c) t) acc n)->Ú (Ù P w) A (match Pf s.heap.objs.size with
   |Pf a=>do
    match (← load a).data with
     |Data.seq xs _=>pure xs.toList|_=>WQ "internal:collect"
   |_=>WQ "internal:collect") Q E s':=λs' ⟨h',tk,acc,c',e,hk,hS',hi⟩=>by
   subst e;show Ú _ A (load s.heap.objs.size >>= _) _ _ _;exact À (Xq hS' (È (hQ h' tk acc hk (RF (ë hS')) hi)))
  cases fin with
  |done f =>
   obtain⟨e,h⟩:=h;cases e;exact go _ h
  |again c'=>exact⟨h.1,Rq h.2 λx s'' hx=>by obtain⟨rfl,hx⟩:=hx;exact go _ hx⟩
 ·exact absurd h.1 (by simp)
open AutoSeq1 (wpAny_loadPart')
theorem mP{a b c:Int}{n:Nat}(hh:A.handled=none)(hr:U0 s.heap r a b c t u v)(hs:R9 a b c=true)(hn:Po a b c=n)(hl:n<=200000)
  (hQ:∀ (h':û) (tk:Nat) (acc:Array Ä),(∀ b o,s.heap.get? b=some o->h'.get? b=some o)->s.heap.objs.size<=h'.objs.size->Wt (λi v=>∃ t,v=.int (a + i * c) t) acc n->Q (.ref h'.objs.size) { s with heap:=h'.push { cls:=.type "tuple",data:=.seq acc },toks:=tk }) :
  Qc (Ù P w) A (.call (.builtin "tuple.__new__") ⟨[.type "tuple",.ref r],[]⟩) (wants Q E) s:=by
 refine SW ?_;show Ú _ A.in1 (do X7 "tuple.__new__" ⟨[.type "tuple",.ref r],[]⟩;again (.builtin "tuple.__new__" ⟨[.type "tuple",.ref r],[]⟩)) _ _ s;refine À (WM (PySem.F.newCall_tuple_1 _) (È ⟨TF Uu _,PN PySem.F.entry_tuple_new ?_⟩));rw[P9 Uu _];have k1:=sub_tuple_self;have k2:=init_tuple_lookup;have k3:=madeHere_tuple;have k4:s.TypeIs (.ref r) "range":=⟨_,hr,rfl⟩
 wp_walk using RX k4,pZ (n:=n) (show A.in1.handled=none from hh) hr hs hn ∅
 intro h' tk acc hk hz hi;show Ú _ _ (Ru acc.toList.toArray >>= λv=>ret v) _ _ _;unfold Ru;rw[RT];refine À (My (È (hQ h' tk acc hk hz hi)) (by show acc.size<=_;rw[hi.1,O2];omega))
theorem tuple_range{a b c:Int}{n:Nat}(hh:A.handled=none)(hr:U0 s.heap r a b c t u v)(hs:R9 a b c=true)(hn:Po a b c=n)(hl:n<=200000)
  (hQ:∀ (h':û) (tk:Nat) (acc:Array Ä),(∀ b o,s.heap.get? b=some o->h'.get? b=some o)->s.heap.objs.size<=h'.objs.size->Wt (λi v=>∃ t,v=.int (a + i * c) t) acc n->Q (.ref h'.objs.size) { s with heap:=h'.push { cls:=.type "tuple",data:=.seq acc },toks:=tk }):Ú (Ù P w) A (call (.type "tuple") [.ref r]) Q E s:=by
 refine callType_codes (Q₁:=λobj s₁=>s₁.TypeIs obj "tuple"/\Q obj s₁) Sn (PySem.F.typeCall_tuple_1 _) PySem.F.entry_object_init (mP hh hr hs hn hl λh' tk acc hk hz hi=>⟨⟨_,Í _ rfl,rfl⟩,hQ h' tk acc hk hz hi⟩) λobj s₁ h₁=>?_;exact⟨h₁.1,PySem.F.args_object_init_2 obj _,object_init_meets Sn.init.lookup Sn.made (-0) P w A.in1 _ s₁ ⟨h₁.1,rfl,h₁.2⟩⟩
end
end HT
namespace L2
open PySem PySem.Spec PyProof.Rows
theorem cD.there(x:cD P w H h a o):∃ u,h.get? a=some u:=by
 cases o with
 |lst xs=>obtain⟨_,_,_,_,e⟩:=x;exact⟨_,e⟩
 |tup xs=>obtain⟨_,_,_,o,e,_⟩:=x;exact⟨_,e⟩
 |dK kvs=>obtain⟨_,_,_,_,o,_,_,e,_⟩:=x;exact⟨_,e⟩
 |dT kvs=>obtain⟨_,_,_,_,o,_,_,e,_⟩:=x;exact⟨_,e⟩
 |set S n=>obtain⟨o,_,_,_,e,_⟩:=x;exact⟨_,e⟩
 |ins C dx fs=>obtain⟨_,_,_,e,_⟩:=x;exact⟨_,e⟩
 |own y=>obtain⟨_,e⟩:=x;exact⟨_,e⟩
 |xd fs=>obtain⟨_,⟨_,_,_,e,_⟩,_⟩:=x;exact⟨_,e⟩
 |GF lo hi=>obtain⟨_,_,_,e⟩:=x;exact⟨_,e⟩
 |frz ob u=>obtain⟨e,_⟩:=x;exact⟨_,e⟩
 |fj ps=>exact⟨_,(show h.get? a=some _ from x)⟩|met f y=>exact⟨_,(show h.get? a=some _ from x)⟩|ext φ=>obtain⟨_,⟨_,e⟩,_⟩:=x;exact⟨_,e⟩
def N5(B:û)(fs:List Ë)(H':Hp)(h h':û):Prop:=∀ b u,h'.get? b=some u->b ∉ fs->((∃ o,h.get? b=some o)∨H' b≠none)->B.get? b=some u
def pO(P:í)(w:ü):DL:=λouter H s E e s'=>∃ (a:Ë) (cls a0:Ä) (H':Hp) (B:û),e=.ref a/\s'.os=s.os/\SK s'.gens/\Un (j6 outer) [] H H' s.heap s'.heap/\jr P w H' s'.heap /\
 XU B outer a cls a0 s'.heap/\H' a=none/\N5 B (j6 outer) H' s.heap s'.heap/\E cls (some a) H'
section
variable {X:Cx}{aa:List (Ë × Obj)}{σ:St}{H H':Hp}{s s':É}{B h'':û}{a:Ë}{cls a0:Ä}{E:XK}
theorem xX(hS:X.stack=X.env::X.outer)(hx:X.ex=[])(hf:X.env.frame=some X.env.locals)(I:Inv X aa σ H s)(os:s'.os=s.os)(bare:SK s'.gens)(un:Un (j6 X.stack) [] H H' s.heap s'.heap)(bx:jr X.prog X.w H' s'.heap)
  (bB:N5 B (j6 X.stack) H' s.heap s'.heap) (na:H' a=none) (fl:XU B X.outer a cls a0 h'') (sm:s'.heap.UpToSlots h'') (he:E cls (some a) H'):pO X.prog X.w X.outer X.H₀ X.s₀ E (.ref a) { s' with heap:=h'' }:=by
 have hfs:j6 X.stack=X.env.locals::j6 X.outer:=by rw[hS];unfold j6;rw[O4,hf]
 have U1:=I.base;rw[hx] at U1;have U:Un (j6 X.stack) [] X.H₀ H' X.s₀.heap s'.heap:=(U1.mono (λb hb=>by rw[hfs];exact Æ _ hb) λb hb=>hb).trans un
 have nL:∀ b o,X.s₀.heap.get? b=some o->b ∉ j6 X.outer->b ∉ j6 X.stack:=λb o e hn hm=>by
  rw[hfs] at hm;rcases Û.mp hm with z | z
  ·exact absurd (ë e) (by rw[z];exact Wn.mpr I.ok.above)
  ·exact hn z
 have frN:∀ b∈j6 X.stack,H' b=none:=λb hb=>by
  obtain⟨_,o,ho,_⟩:=I.stack.mem hb;exact un.free b o ho (I.rj b hb) (by simp)
 have old:∀ b o,X.s₀.heap.get? b=some o->b ∉ j6 X.outer->∃ u,s'.heap.get? b=some u/\B.get? b=some u:=λb o e hn=>by
  obtain⟨o1,e1⟩:=U1.there b o e (by simp)
  obtain⟨o2,e2⟩:=un.there b o1 e1 (by simp)
  exact⟨o2,e2,bB b o2 e2 (nL b o e hn) (.inl ⟨o1,e1⟩)⟩
 have GO:∀ b,H' b≠none->∃ u,s'.heap.get? b=some u/\B.get? b=some u:=λb hb=>by
  obtain⟨o,e⟩:=Uc.mp hb;obtain⟨u,eu⟩:=(bx b o e).there;exact⟨u,eu,bB b u eu (λhm=>by rw[frN b hm] at e;cases e) (.inr hb)⟩
 refine⟨a,cls,a0,H',B,rfl,os.trans I.os,bare,⟨λb o e n hb _=>?_,λb o e n hb _=>?_,λb o e n hb=>U.free b o e n hb,λb o e _=>?_,U.tups,U.frzs,U.tbls⟩,λc o e=>?_,fl,na,λb u e hn hor=>?_,he⟩
 ·obtain⟨u,e1,e2⟩:=old b o e hb;have e3:=U.keep b o e n (nL b o e hb) (by simp)
  rw[e1] at e3;cases e3;exact fl.1 b _ e2
 ·obtain⟨sl,e1⟩:=U.slot b o e n (by rw[hfs];exact Æ _ hb) (by simp)
  obtain⟨_,o',ho',hd⟩:=I.ok.pT.mem hb;rw[e] at ho';cases ho';obtain⟨sl',e2⟩:=sm b _ e1 hd;exact⟨sl',e2⟩
 ·by_cases hb:b∈j6 X.outer
  ·obtain⟨_,o',ho',_⟩:=fl.2.2.1.mem hb;exact⟨o',ho'⟩
  ·obtain⟨u,_,e2⟩:=old b o e hb;exact⟨u,fl.1 b _ e2⟩
 ·refine(bx c o e).rg (λb u hb q=>?_) (λ_ q=>q) λ_ _ q=>q;have hbn:H' b≠none:=by
   rcases hb with rfl | hb
   ·rw[e];exact λz=>nomatch z
   ·rw[hb];exact λz=>nomatch z
  obtain⟨u',e1,e2⟩:=GO b hbn;rw[q] at e1;cases e1;exact fl.1 b _ e2
 ·have:∃ u',B.get? b=some u':=by
   rcases hor with ⟨o,ho⟩ | hor
   ·obtain⟨u',_,e2⟩:=old b o ho hn;exact⟨u',e2⟩
   ·obtain⟨u',_,e2⟩:=GO b hor;exact⟨u',e2⟩
  obtain⟨u',e2⟩:=this;have e3:=fl.1 b _ e2;rw[e] at e3;cases e3;exact e2
end
section
variable {P:í}{w:ü}{K:Â}{mg:Str->Option Ä}{base:û}{N:List Str}{qual:Str}{scope:ON}{f:Ë}{cd:Ä}{A:p8}{outer:List Env}{s₀:É}{H₀:Hp}{E:XK}
theorem zI(I:Inv (iz (pO P w) P w K mg base N qual scope f cd A outer s₀ H₀ E) aa σ H s)(hx:Xm s.heap h' e cls vs)(he:E cls (some e) H) :
  (iz (pO P w) P w K mg base N qual scope f cd A outer s₀ H₀ E).xe (.ref e) { s with heap:=h' }:=by
 have hin:∀ env∈(iz (pO P w) P w K mg base N qual scope f cd A outer s₀ H₀ E).stack,∀ a,env.frame=some a->a∈j6 (iz (pO P w) P w K mg base N qual scope f cd A outer s₀ H₀ E).stack:=λenv he a ha=>S3.mpr ⟨env,he,ha⟩;have kB:(hideAll s.heap (j6 (iz (pO P w) P w K mg base N qual scope f cd A outer s₀ H₀ E).stack)).StaysIn s.heap:=λb o q=>of_hideAll _ q;show Ú _ _ (leaving _ _) _ _ _;refine wpAny_leaves_madeW (base:=hideAll s.heap (j6 (iz (pO P w) P w K mg base N qual scope f cd A outer s₀ H₀ E).stack)) (h:=s.heap) I.ok.frames rfl kB (PySem.W.funFrames_hide I.stack hin) hx λh'' t fl _ _ sm=>?_;have na:H e=none:=by
  cases z:H e with
  |none=>rfl|some o=>obtain⟨u,eu⟩:=(I.bx e o z).there;rw[hx.new] at eu;cases eu
 refine xX (X:=iz (pO P w) P w K mg base N qual scope f cd A outer s₀ H₀ E) (s':={ s with heap:=h' }) rfl rfl rfl I rfl I.bare (Un.kept hx.keeps) (I.bx.kept hx.keeps) (λb u q hn hor=>?_) na fl sm he;have:∃ o,s.heap.get? b=some o:=by
  rcases hor with hor | hor
  ·exact hor
  ·obtain⟨o,z⟩:=Uc.mp hor;exact(I.bx b o z).there
 obtain⟨o,ho⟩:=this;have:=hx.keeps b o ho;have q':h'.get? b=some u:=q;rw[this] at q';cases q';exact hideAll_get _ ho hn
theorem Ku:Passes (pO P w) (iz (pO P w) P w K mg base N qual scope f cd A outer s₀ H₀ E) E:=by
 intro aa σ H s e s' I h;obtain⟨a,cls,a0,H',B,rfl,os,bare,un,bx,fl,na,bB,he⟩:=h;show Ú _ _ (leaving _ _) _ _ _;refine wpAny_leaves_onW I.ok.frames rfl fl λh'' fl' sm=>?_;exact xX (X:=iz (pO P w) P w K mg base N qual scope f cd A outer s₀ H₀ E) (s':=s') rfl rfl rfl I os bare un bx bB na fl' sm he
end
theorem Eu{K:Â}{h:û}{C:Ë}{bmB:List Ä}{newId:String}(KX:K.In h)(hq:RN K C bmB newId=true) :
  ∃ bm N nm q bs hdct sn sub ab col dd k0 k1 k2 k3 k5 mN,h.get? C=some (excClassObj nm q C N bs bm hdct sn sub ab col dd k0 k1 k2 k3 k5 newId)/\h.Ns N mN/\mN "__init__"=none/\OwnTail h bmB bm:=by
 unfold RN at hq;split at hq
 case h_2=>cases hq
 case h_1 dd cd sl ho =>
  split at hq
  case h_2=>cases hq
  case h_1 C' bm k0 k1 k2 k3 n k5 hm hs =>
   simp only[Á,beq_iff_eq,ô] at hq;obtain⟨⟨⟨⟨⟨z1,z2⟩,hdel⟩,ht⟩,bx⟩,hni⟩:=hq;subst z1 z2;cases cd with
   |mk nm bs mro ns qn hd sn sub ab col del =>
    dsimp only at hm hdel bx hni;subst hm hdel;have esl:sl=#[k0,k1,k2,k3,some (.builtin n),k5]:=by cases sl with | mk l=>simp only at hs;rw[hs]
    subst esl;refine⟨bm,ns,nm,qn,bs,hd,sn,sub,ab,col,dd,k0,k1,k2,k3,k5,h.nsMap ns,KX _ _ ho,?_,PySem.W.nsMap_none_of_in KX bx hni,PySem.W.tail_of_in KX ht⟩;exact .of_isNs (PySem.W.isNs_of_in KX bx)
def nY(X:Cx)(E:XK):Prop:=∀ (aa:List (Ë × Obj)) (σ:St) (H:Hp) (s:É) (h':û) (e:Ë) (cls:Ä) (vs:List Ä),Inv X aa σ H s->Xm s.heap h' e cls vs->E cls (some e) H->X.xe (.ref e) { s with heap:=h' }
theorem zJ{P:í}{w:ü}{K:Â}{mg:Str->Option Ä}{base:û}{N:List Str}{qual:Str}{scope:ON}{f:Ë}{cd:Ä}{A:p8}{outer:List Env}{s₀:É}{H₀:Hp}{E:XK} :
  nY (iz (pO P w) P w K mg base N qual scope f cd A outer s₀ H₀ E) E:=λ_ _ _ _ _ _ _ _ I hx he=>zI I hx he
def HC(E:XK)(C:Ë)(t:TA):TS:=λ_ σ H=>t σ H λvs H1=>vs.length<=sizeLine/\∀ e,H1 e=none->E (.ref C) (some e) H1
section
variable {X:Cx}{x:Str}{C:Ë}{E:XK}{e₀:Ö}{rest:List Ö}{t:TA}{np cpos pos:Pos}
theorem By(hE:nY X E)(hc:X.calm=true)(hg:Gl X x)(hm:X.mg x=some (.ref C))(hq:RN X.K C [.type "ValueError",.type "Exception",.type "BaseException",.type "object"] "ValueError.__new__"=true)(ha:PA X (e₀::rest) t)
  (hdb:(x == ("__debug__":Str))=false:=by decide) (he:Of (e₀::rest) X.env=(false,eval e₀ X.env)::Of rest X.env:=by rfl) (hpl:(SJ cpos (Of rest X.env)).any (·.1)=false:=by rfl) :
  PS X (.Raise (some (.Call (.Name x np) (e₀::rest) [] cpos)) none pos) (HC E C t):=by
 intro aa s σ H D I h;obtain⟨bm,N,nm,q,bs,hdct,sn,sub,ab,col,dd,k0,k1,k2,k3,k5,mN,hC,hN,hni,T⟩:=Eu I.ok.mod.kin hq;refine wpAny_Raise_call_subT (C:=C) (nm:=nm) (q:=q) (N:=N) (bs:=bs) (bm:=bm) (hdct:=hdct) (sn:=sn) (sub:=sub) (ab:=ab) (col:=col) (dd:=dd) (k0:=k0) (k1:=k1) (k2:=k2) (k3:=k3) (k5:=k5)
  T2 (mN:=mN) (T.hasType T2.hasBase) (I.ok.hd hc) (by rw[he];exact hpl) hni (rk I hg hm ⟨rfl,?_⟩ hdb)
 have k:=ha cpos aa s σ H _ I h;rw[he] at k ⊢;refine Vt (b8 k λus s2 ⟨vs,H2,I2,r,z,q⟩=>⟨rfl,by show us.length<=_;rw[← r.length];exact z,I2.bk _ _ hC,hN.keeps I2.bk,T.keeps I2.bk,λh' e hx=>?_⟩)
 refine hE aa σ H2 s2 h' e _ us I2 hx (q e ?_);cases z:H2 e with
 |none=>rfl|some o=>obtain⟨u,eu⟩:=(I2.bx e o z).there;rw[hx.new] at eu;cases eu
end
open PySem PySem.Spec PyProof.Rows PySem.W PySem.Builtin PySem.Builtin.ObjectAttr PySem.Builtin.Getset_descriptor
end L2
namespace L2
open PySem PySem.Spec PyProof.Rows
def recAt(c:Ë)(qual:Str):û->Prop:=λh=>h.CodeRec (.ref c) qual
def Tab(H:Hp)(P:Ë)(qual:Str):Prop:=∃ ps:Array Ä,H P=some (.fj ps)/\Yb ps.toList/\∀ pos c,codeAmong pos ps.toList=some c->∃ c',c=.ref c'/\H c'=some (.ext (recAt c' qual))
def BMain(mg:Str->Option Ä)(h:û):Prop:=∃ bm ob,mg "__builtins__"=some (.ref bm)/\bm≠Vc/\h.get? bm=some ob/\ob.cls=.type "module"/\ob.dict=some Vc/\ob.data=.plain
theorem HD{P:í}{w:ü}{X:Cx}:Passes (pO P w) X (λ_ _ _=>False):=λ_ _ _ _ _ _ _ h=>by
 obtain⟨_,_,_,_,_,_,_,_,_,_,_,_,_,e⟩:=h;exact e.elim
theorem Tab.same{H H':Hp}{P:Ë}{q:Str}(t:Tab H P q)(s:ae H H'):Tab H' P q:=by
 obtain⟨ps,e,tr,h⟩:=t;refine⟨ps,s _ _ e,tr,λpos c hc=>?_⟩;obtain⟨c',e1,e2⟩:=h pos c hc;exact⟨c',e1,s _ _ e2⟩
abbrev Ke:=List Int × Ë × Ä
def M9(x:Ke):DictEntry:=⟨reduceHash (Yp (x.1.map hashInt)),.ref x.2.1,x.2.2⟩
def rR(d:Ë)(xs:List Ke)(h:û):Prop:=∃ o es ep,h.get? d=some o/\o.ExactDict/\o.data=.dict es ep/\es.toList=xs.map M9/\(xs.map (·.1)).Nodup
def lK(K:Â)(H:Hp)(d:Ë)(kss:List (List Int)):Prop:=∃ xs:List Ke,H d=some (.ext (rR d xs))/\(d == U6)=false/\(∀ x∈xs,cI K H x.2.1 (x.1.map V.int))/\∀ ks,ks∈xs.map (·.1)↔ks∈kss
theorem lK.same{K:Â}{H H':Hp}{d:Ë}{kss:List (List Int)}(h:lK K H d kss)(e:∀ b o,H b=some o->H' b=some o):lK K H' d kss:=by
 obtain⟨xs,h1,h2,h3,h4⟩:=h;exact⟨xs,e _ _ h1,h2,λx hx=>ae.il e (h3 x hx),h4⟩
theorem items_int{P:í}{w:ü}:∀ {ks:List Int}{ai:List Ä},Vals (ks.map V.int) ai->ItemsAre (QA P w) ks ai
 |[],_,h=>by cases h;exact .nil
 |k::ks,_,h=>by
  cases h with
  |cons r t =>
   obtain⟨u,rfl⟩:=r;exact .cons (by show Vf k (.int k u)=true;simp[Vf]) (items_int t)
section
variable {X:Cx}{aa:List (Ë × Obj)}{σ:St}{H:Hp}{s:É}
theorem key_is(I:Inv X aa σ H s){b:Ë}{ks:List Int}(h:cI X.K H b (ks.map V.int)):T6 (QA X.prog X.w) s.heap ks b:=by
 obtain⟨ai,rv,⟨o,e,c,n,d⟩,_⟩:=I.tuple h;exact⟨o,ai.toArray,n,e,c,d,items_int rv⟩
theorem m8:∀ {xs:List Ke}{ks:List Int},(atKey xs ks).isSome=decide (ks∈xs.map (·.1))
 |[],_=>rfl
 |x::r,ks=>by
  have ih:=@m8 r ks;unfold atKey at ih ⊢;rw[List.find?_cons];by_cases h:x.1=ks
  ·simp[h]
  ·have h':¬ ks=x.1:=λz=>h z.symm;simp only[h,decide_false,ih,Qw,OO,h',false_or]
def Ew(o:Bool):CmpOp:=match o with
 |true=>.In|false=>.NotIn
def Gh(K:Â)(o:Bool):R2:=λx y H Q=>∃ b ks d kss,x=.ref b/\y=.ref d/\cI K H b (ks.map V.int)/\lK K H d kss/\Q (.bl (decide (ks∈kss) == o)) H
theorem xY(o:Bool)(hu:X.A.units + 1 < PM):eM X (c0 (Ew o)) (Gh X.K o):=by
 intro aa s σ H x y v u Q I rx ry h;obtain⟨b,ks,d,kss,rfl,rfl,hb,⟨xs,h1,h2,h3,h4⟩,q⟩:=h;cases rx;cases ry;obtain⟨⟨ob,es,ep,e1,e2,e3,e4,e5⟩,_,_⟩:=I.bx d _ h1;have ek:decide (ks∈xs.map (·.1))=decide (ks∈kss):=decide_eq_decide.mpr (h4 ks);cases o with
 |true =>
  refine wpAny_in_heap (knd:=VW (QA X.prog X.w)) (Xr hu) (key_is I hb) h2 ⟨ob,es,ep,e1,e2,e3,e4,λx hx=>key_is I (h3 x hx),e5⟩ ?_;rw[m8,ek];rw[show(decide (ks∈kss) == true)=decide (ks∈kss) by cases decide (ks∈kss) <;> rfl] at q
  exact⟨.bl _,H,I.tok _,rfl,q⟩
 |false =>
  refine wpAny_notIn_heap (knd:=VW (QA X.prog X.w)) (Xr hu) (key_is I hb) h2 ⟨ob,es,ep,e1,e2,e3,e4,λx hx=>key_is I (h3 x hx),e5⟩ ?_;rw[m8,ek];rw[show(decide (ks∈kss) == false)=!decide (ks∈kss) by cases decide (ks∈kss) <;> rfl] at q
  exact⟨.bl _,H,I.tok _,rfl,q⟩
end
theorem t9{xs:List Ke}{k ks:List Int}{a:Ë}{v:Ä}:ks∈(Ue xs k a v).map (·.1)↔ks∈xs.map (·.1)∨ks=k:=by
 unfold Ue;rw[m8];split
 ·rename_i h;have h:=of_decide_eq_true h;have e:(xs.map (putAt k v)).map (·.1)=xs.map (·.1):=by
   rw[à];exact O0 λx _=>by show(putAt k v x).1=x.1;unfold putAt;split <;> rfl
  rw[e];exact⟨.inl,λz=>z.elim id λz=>z ▸ h⟩
 ·simp
theorem wo{xs:List Ke}{k:List Int}{a:Ë}{v:Ä}{x:Ke}(h:x∈Ue xs k a v):(∃ y∈xs,y.1=x.1/\y.2.1=x.2.1)∨(x.1=k/\x.2.1=a):=by
 unfold Ue at h;split at h
 ·obtain⟨y,hy,rfl⟩:=Î.mp h;exact .inl ⟨y,hy,by unfold putAt;split <;> rfl,by unfold putAt;split <;> rfl⟩
 ·rcases Ì.mp h with h | h
  ·exact .inl ⟨x,h,rfl,rfl⟩
  ·cases Ð.mp h;exact .inr ⟨rfl,rfl⟩
theorem wq{xs:List Ke}{k:List Int}{a:Ë}{v:Ä}:(Ue xs k a v).length<=xs.length + 1:=by
 unfold Ue;split <;> simp
section
variable {P:í}{w:ü}{A:p8}{R:Vh->É->Prop}{s:É}
theorem wt{x:Str}{p1 p2 px ps:Pos}{k2:Nat}{iter:Ö}{sc:ON}{I D a:Ë}{en:Env}{ai:Array Ä}{m:Str->Option Ä}{kss:List (List Int)}(hu:A.units < PM)(hh:A.handled=none)(hI:a≠I)
  (hl:kss.length=ai.size) (hz:ai.size<=sizeLine) (ka:∀ (i:Nat) (ks:List Int),kss[i]?=some ks->∃ b:Ë,ai[i]?=some (Pf b)/\b≠I/\b≠D/\b≠en.locals/\T6 (QA P w) s.heap ks b)
  (hx:en.kindOf x=some .local) (hk:en.scope.kind=.function) (hd:(x == ("__debug__":Str))=false) (hDC:D≠en.locals) (hDI:D≠I) (hDa:D≠a) (hCI:en.locals≠I) (hCa:en.locals≠a)
  (st:s.heap.IsListIter I a 0/\s.heap.IsList a ai) (ac:rR D [] s.heap) (hn:s.heap.Ns en.locals m)
  (hR:∀ (h':û) (tk:Nat) m' (xs:List Ke),h'.Ns en.locals m'->rR D xs h'->(∀ ks,ks∈xs.map (·.1)↔ks∈kss)->(∀ x∈xs,∃ i:Nat,kss[i]?=some x.1/\ai[i]?=some (Pf x.2.1))->(∀ b o,b≠en.locals->b≠I->b≠D->s.heap.get? b=some o->h'.get? b=some o)->R (.ok .next) { s with heap:=h',toks:=tk }) :
  Qc (Ù P w) A (.compLoop (.DictComp (.Name x p1) (.Constant (.bool true) k2 p2) [⟨.Name x px,iter,[],0⟩] sc ps) 0 (.ref I) (.ref D) en) R s:=by
 have W:=Ul (prog:=P) (w:=w) hh I a hI ai;have keyS:∀ {h':û}{ks:List Int}{b:Ë},(∀ b o,b≠en.locals->b≠I->b≠D->s.heap.get? b=some o->h'.get? b=some o)->b≠I->b≠D->b≠en.locals->T6 (QA P w) s.heap ks b->T6 (QA P w) h' ks b:=λk n1 n2 n3 ⟨o,i,n,e,r⟩=>⟨o,i,n,k _ o n3 n1 n2 e,r⟩;refine codeAny_compLoop_testsD (λn s'=>∃ (i:Nat) (h':û) (tk:Nat) (m':Str->Option Ä) (xs:List Ke),s'={ s with heap:=h',toks:=tk }/\i<=ai.size/\n=ai.size + 1 - i/\(h'.IsListIter I a i/\h'.IsList a ai)/\rR D xs h'/\h'.Ns en.locals m'/\xs.length<=i/\(∀ ks,ks∈xs.map (·.1)↔ks∈kss.take i) /\
  (∀ x∈xs,∃ i:Nat,kss[i]?=some x.1/\ai[i]?=some (Pf x.2.1))/\∀ b o,b≠en.locals->b≠I->b≠D->s.heap.get? b=some o->h'.get? b=some o) ?_ (ai.size + 1)
  ⟨0,s.heap,s.toks,m,[],rfl,PQ _,rfl,st,ac,hn,PQ _,λks=>(by simp),λx hx=>(by simp at hx),λ_ _ _ _ _ e=>e⟩
 rintro n s' ⟨i,h',tk,m',xs,rfl,hi,rfl,st',ac',hn',hxl,hks,had,hkp⟩;by_cases hlt:i < ai.size
 ·refine W.item i _ _ _ hlt st' λv h1 tk1 hv aQ k1=>?_;have hv':kss[i]?=some kss[i]:=Ø ∅
  obtain⟨b,hb,bI,bD,bC,isb⟩:=ka i _ hv';have hv0:ai[i]?=some v:=hv;rw[hb] at hv0;cases hv0;refine QH (Rx hx (hn'.at' λo e=>k1 _ o (by simpa using hCI) e) (λh2 hn2 sb2=>?_) (by rw[hk];rfl))
  have k2:∀ b o,b≠en.locals->b≠I->h'.get? b=some o->h2.get? b=some o:=λb o z1 z2 e=>sb2.extBut b o z1 (k1 b o (by simpa using z2) e)
  refine SM ?_;rw[if_pos rfl];refine SH (QT (v:=.ref b) hk hx hn2 (by simp) ?_) hd
  refine Constant_bool ?_;obtain⟨o,es,ep,e1,e2,e3,e4,e5⟩:=ac';have kall:∀ b o,b≠en.locals->b≠I->b≠D->s.heap.get? b=some o->h2.get? b=some o:=λb o z1 z2 z3 e=>k2 b o z1 z2 (hkp b o z1 z2 z3 e);have isK:∀ x∈xs,T6 (QA P w) h2 x.1 x.2.1:=λx hx=>by
   obtain⟨j,q1,q2⟩:=had x hx;obtain⟨b',r1,r2,r3,r4,r5⟩:=ka j _ q1;rw[q2] at r1;cases r1;exact keyS kall r2 r3 r4 r5
  refine wpAny_dictSet_heap (hsz:=by omega) (knd:=VW (QA P w)) hu (keyS kall bI bD bC isb) ⟨o,es,ep,k2 D o hDC hDI e1,e2,e3,e4,isK,e5⟩ λh3 ⟨o3,es3,ep3,f1,f2,f3,f4,_,f6⟩ sb3=>?_
  refine⟨ai.size + 1 - (i + 1),by omega,i + 1,h3,_,_,Ue xs kss[i] b (.bool true),rfl,hlt,rfl,W.frame _ h2 _ ?_ λc hc o e=>sb3.extBut c o (λz=>?_) e,⟨o3,es3,ep3,f1,f2,f3,f4,f6⟩,hn2.sameBut sb3 (OT hDC),ã wq ∅,λks=>?_,λy hy=>?_,λc o z1 z2 z3 e=>sb3.extBut c o z3 (kall c o z1 z2 z3 e)⟩
  ·exact W.frame _ _ _ aQ λc hc o e=>sb2.extBut c o (λz=>by subst z;rcases Û.mp hc with z | z;exact hCI z;exact hCa (by simpa using z)) e
  ·subst z;rcases Û.mp hc with z | z
   ·exact hDI z
   ·exact hDa (by simpa using z)
  ·rw[t9,hks,T9,Ì,hv'];exact or_congr Tv (Sb (a:=ks) (b:=kss[i])).symm
  ·rcases wo hy with ⟨u,hu',e6,e7⟩ | ⟨e6,e7⟩
   ·rw[← e6,← e7];exact had u hu'
   ·exact⟨i,by rw[e6];exact hv',by rw[e7];exact hb⟩
 ·have hin:i=ai.size:=by omega
  subst hin;refine W.done _ _ _ st' λh1 tk1 k1=>?_;obtain⟨o,es,ep,e1,e2⟩:=ac';exact hR h1 tk1 m' xs (hn'.at' λo e=>k1 _ o (by simpa using hCI) e) ⟨o,es,ep,k1 _ _ (by simpa using hDI) e1,e2⟩ (λks=>by rw[hks,← hl,QI]) had λb o z1 z2 z3 e=>k1 b o (by simpa using z2) (hkp b o z1 z2 z3 e)
end
theorem nZ{α β:Type}{R:α->β->Prop}:∀ {l:List α}{r:List β}{i:Nat}{b:β},Pd R l r->r[i]?=some b->∃ a,l[i]?=some a/\R a b
 |_,_,_,_,.nil,e=>by simp at e|_,_,0,_,.cons h _,e=>by cases e;exact⟨_,rfl,h⟩
 |_,_,i + 1,_,.cons _ t,e=>nZ (i:=i) t e
section
variable {X:Cx}
def HE(K:Â)(ti:TE):TE:=λσ H Q=>ti σ H λv H1=>∃ a ys kss,v=.ref a/\jj K H1 a ys/\Pd (λy ks=>∃ b,y=.ref b/\cI K H1 b (ks.map V.int)) ys kss/\∀ d H2,ae H1 H2->H1 d=none->lK K H2 d kss->Q (.ref d) H2
theorem Bz{x:Str}{p1 p2 px ps:Pos}{k2:Nat}{iter:Ö}{sc:ON}{ti:TE}(hc:X.calm=true)(hu:X.A.units < PM)(S:fB X sc [x] [])(hx:sc.names.lookup x=some .local)(hd:(x == ("__debug__":Str))=false)(hi:PE X iter ti)
  (hs:∀ v,Pn iter X.env v=pure v):PE X (.DictComp (.Name x p1) (.Constant (.bool true) k2 p2) [⟨.Name x px,iter,[],0⟩] sc ps) (HE X.K ti):=by
 intro aa s σ H Q I h;obtain⟨cl,hclos,hcl,hcf⟩:=kg (scope:=sc) (env:=X.env) λy hy hk=>I.ok.has y.1 (S.frees y hy hk);rw[arm_eval_DictComp];refine Qh (use:=none) rfl hs hclos S.kind S.locs (b8 (hi aa s σ H _ I h) λv s1 h1=>?_);obtain⟨x1,H1,I1,r1,a,ys,kss,rfl,hq,pk,q⟩:=h1;cases r1;obtain⟨ai,rv,p,hz⟩:=I1.list hq;have hal:a < s1.heap.objs.size:=by
  obtain⟨_,o,e,_⟩:=p;exact ë e
 refine Rp p.isList (My (S6 S.nocell (by intro y hy;simp at hy) (λh2 hns sb=>?_) S.kind))
 dsimp only at hns sb ⊢;generalize e0:s1.heap.push { cls:=.type "list_iterator",data:=.fields #[.ref a,.int 0 0] }=g0 at hns sb ⊢;generalize e1:g0.push { cls:=.type "dict",dict:=none,data:=.dict #[] }=g1 at hns sb ⊢;have z0:g0.objs.size=s1.heap.objs.size + 1:=by rw[← e0,Qi]
 have z1:g1.objs.size=s1.heap.objs.size + 2:=by rw[← e1,Qi,z0]
 have n01:s1.heap.objs.size≠g0.objs.size:=by omega
 have n02:s1.heap.objs.size≠g1.objs.size:=by omega
 have n12:g0.objs.size≠g1.objs.size:=by omega
 have lw:∀ {b:Ë},b < s1.heap.objs.size->b≠s1.heap.objs.size/\b≠g0.objs.size/\b≠g1.objs.size:=λ{b} hb=>⟨â hb,â (ê hb ∅),â (ê hb ∅)⟩
 have old0:∀ b o,g0.get? b=some o->b≠g1.objs.size->h2.get? b=some o:=λb o e n=>sb.extBut b o n (Ã _ (e1 ▸ Ã _ e));have old:∀ b o,s1.heap.get? b=some o->h2.get? b=some o:=λb o e=>old0 b o (e0 ▸ Ã _ e) (lw (ë e)).2.2;have hit:h2.IsListIter s1.heap.objs.size a 0:=⟨_,old0 _ _ (e0 ▸ Í _ rfl) n02,rfl,rfl⟩;have hD:rR g0.objs.size [] h2:=⟨_,#[],_,sb.extBut _ _ n12 (Ã _ (e1 ▸ Í _ rfl)),⟨rfl,rfl,rfl⟩,rfl,rfl,by simp⟩
 have loop:∀ s3:É,s3={ s1 with heap:=h2,toks:=s1.toks + ([]:List (Str × Ä)).length }->Qc (Ù X.prog X.w) X.A (.compLoop (.DictComp (.Name x p1) (.Constant (.bool true) k2 p2) [⟨.Name x px,iter,[],0⟩] sc ps) 0 (.ref s1.heap.objs.size) (.ref g0.objs.size) (Vb sc cl g1.objs.size X.env))
   (Va (Ù X.prog X.w) X.A X.xe none (EP X aa σ Q) (.ref g0.objs.size) g1.objs.size) s3:=by
  rintro s3 rfl;refine wt (kss:=kss) (ai:=ai.toArray) (a:=a) hu (I1.ok.hd hc) (lw hal).1 (by rw[ß,← rv.length];exact pk.length.symm) (by rw[ß,← rv.length];exact hz) (λi ks e=>?_) (S8 hx) S.kind hd n12 n01.symm (lw hal).2.1.symm n02.symm (lw hal).2.2.symm
   ⟨hit,p.isList.at λo e=>old _ o e⟩ hD hns λh' tk m' xs hn' kd kk ka kp=>?_
  ·obtain⟨y,hy,b,rfl,hb⟩:=nZ pk e;obtain⟨u,hu1,hu2⟩:=rv.get hy;cases hu2;obtain⟨o,i2,n2,f1,f2⟩:=key_is I1 hb;obtain⟨l1,l2,l3⟩:=lw (ë f1);exact⟨b,by simpa using hu1,l1,l2,l3,o,i2,n2,old _ _ f1,f2⟩
  ·refine⟨m',hn',λh3 sb3=>?_⟩;obtain⟨o,es,ep,f1,f2⟩:=kd;have kd3:rR g0.objs.size xs h3:=⟨o,es,ep,sb3.extBut _ _ n12 f1,f2⟩;have kp3:∀ b o,s1.heap.get? b=some o->h3.get? b=some o:=λb o e=>by
    obtain⟨l1,l2,l3⟩:=lw (ë e);exact sb3.extBut b o l3 (kp b o l3 l1 l2 (old b o e))
   have hDn:H1 g0.objs.size=none:=I1.bx.fresh ∅
   have hst:∀ h1 h2:û,rR g0.objs.size xs h1->(∀ o,h1.get? g0.objs.size=some o->h2.get? g0.objs.size=some o)->rR g0.objs.size xs h2:=λ_ _ ⟨o,es,ep,f1,f2⟩ k=>⟨o,es,ep,k _ f1,f2⟩;refine⟨.ref g0.objs.size,upd H1 g0.objs.size (.ext (rR g0.objs.size xs)),I1.laid (t':=tk) kp3 ∅ ⟨kd3,⟨o,sb3.extBut _ _ n12 f1⟩,hst⟩,rfl,q _ _ (ae.new _ hDn) hDn ⟨xs,a7,?_,λy hy=>?_,kk⟩⟩
   ·exact beq_eq_false_iff_ne.mpr (lw I1.big).2.1.symm
   ·obtain⟨i,g1',g2⟩:=ka y hy;obtain⟨u,hu0,b,rfl,hb⟩:=nZ pk g1';obtain⟨u',hu1,hu2⟩:=rv.get hu0;cases hu2;have g2':ai[i]?=some (.ref y.2.1):=by simpa using g2
    rw[hu1] at g2';cases g2';exact ae.il (ae.new _ hDn) hb
 exact codeAny_compStart_dict (loop _ rfl) (WB hit (loop _ rfl))
end
section
variable {P:í}{w:ü}{A:p8}{R:Vh->É->Prop}{s:É}
abbrev cx(x y:Str)(pe px py px2:Pos)(iter:Ö)(sc:ON)(ps:Pos):Expr:=.ListComp (.Name y pe) [⟨.Name x px,iter,[],0⟩,⟨.Name y py,.Name x px2,[],0⟩] sc ps
section
variable {x y:Str}{pe px py px2 ps:Pos}{iter:Ö}{sc:ON}
theorem wu(it acc:Ä)(env:Env):U9 (cx x y pe px py px2 iter sc ps) 0 it acc env=(do
   Tg iter.pos
   match ← SI it with
   |none=>pure (.done .next)
   |some v =>
    RL (.Name x px) it v
    Rr (.Name x px) env v
    let mut ok:=true
    for c in ([]:List Ö) do
     if ok then ok ← UD c env (eval c env)
    if ok then
     let u ← eval (.Name x px2) env
     Tg px2
     let u ← Pn (.Name x px2) env u
     let _ ← runOwn (.compStart (cx x y pe px py px2 iter sc ps) 1 (← Ui [u] (Wd u)) acc env) env
    again (.compLoop (cx x y pe px py px2 iter sc ps) 0 it acc env)):=by rfl
theorem wx(it acc:Ä)(env:Env):U9 (cx x y pe px py px2 iter sc ps) 1 it acc env=(do
   Tg px2
   match ← SI it with
   |none=>pure (.done .next)
   |some v =>
    RL (.Name y py) it v
    Rr (.Name y py) env v
    let mut ok:=true
    for c in ([]:List Ö) do
     if ok then ok ← UD c env (eval c env)
    if ok then
     (do let _ ← call (.builtin "list.append") [acc,← eval (.Name y pe) env])
    again (.compLoop (cx x y pe px py px2 iter sc ps) 1 it acc env)):=by rfl
theorem wy{it acc:Ä}{env:Env}
  (h0:Qc (Ù P w) A (.compLoop (cx x y pe px py px2 iter sc ps) 1 it acc env) R s)
  (h:Ú (Ù P w) A (Wd it) (λit' s'=>Qc (Ù P w) A (.compLoop (cx x y pe px py px2 iter sc ps) 1 it' acc env) R s') (notedBy (Ù P w) A env λx s'=>R (.error x) s') s) :
  Qc (Ù P w) A (.compStart (cx x y pe px py px2 iter sc ps) 1 it acc env) R s:=by
 refine SW ?_;show Ú _ _ ((compStart (cx x y pe px py px2 iter sc ps) 1 it acc env).onRaise (λx=>do VX x env;Tg theWindowsPlace)) _ _ s;refine wpAny_notedAt ?_;unfold compStart;show Ú _ _ (ask >>= _) _ _ s;refine À (X1 (wpAny_ite ?_));split
 ·first
   |exact À (È (È (U3 rfl h0)))
   |exact È (U3 rfl h0)
 ·first
   |exact À (Qy (À (P5 (À (Pz h (λit' s' h'=>È (U3 rfl h')) λ_ _ x=>x)))))|(refine À (Qy ?_);show Ú _ _ (Tg px2 >>= _) _ _ s;exact À (P5 (À (Pz h (λit' s' h'=>È (U3 rfl h')) λ_ _ x=>x))))
theorem uc{J b:Ë}{acc:Ä}{env:Env}(hit:s.heap.IsTupleIter J b 0)(h0:Qc (Ù P w) A (.compLoop (cx x y pe px py px2 iter sc ps) 1 (.ref J) acc env) R s):Qc (Ù P w) A (.compStart (cx x y pe px py px2 iter sc ps) 1 (.ref J) acc env) R s:=wy h0 (SG hit h0)
abbrev ud(ai:List Ä)(k:Nat):Obj:={ cls:=.type "list",data:=.seq ai.toArray k }
theorem Ey{J b D:Ë}{en:Env}{row:Array Ä}{m:Str->Option Ä}{ai:List Ä}{k:Nat}(hh:A.handled=none)(hJ:b≠J)(hz:ai.length + row.size<=sizeLine)
  (hy:en.kindOf y=some .local) (hk:en.scope.kind=.function) (hd:(y == ("__debug__":Str))=false) (hDC:D≠en.locals) (hDJ:D≠J) (hDb:D≠b) (hCJ:en.locals≠J) (hCb:en.locals≠b)
  (st:s.heap.IsTupleIter J b 0/\s.heap.IsTuple b row) (ac:s.heap.get? D=some (ud ai k)) (hn:s.heap.Ns en.locals m)
  (hR:∀ (h':û) (tk:Nat) m' k',h'.Ns en.locals m'->h'.get? D=some (ud (ai++row.toList) k')->(∀ c o,c≠en.locals->c≠J->c≠D->s.heap.get? c=some o->h'.get? c=some o)->R (.ok .next) { s with heap:=h',toks:=tk }) :
  Qc (Ù P w) A (.compLoop (cx x y pe px py px2 iter sc ps) 1 (.ref J) (.ref D) en) R s:=by
 have W:=Ve (prog:=P) (w:=w) (A:=A) hh J b hJ row;refine Wg rfl (λn s'=>∃ (i:Nat) (h':û) (tk:Nat) (m':Str->Option Ä) (k':Nat),s'={ s with heap:=h',toks:=tk }/\i<=row.size/\n=row.size + 1 - i/\(h'.IsTupleIter J b i/\h'.IsTuple b row)/\h'.get? D=some (ud (ai++row.toList.take i) k')/\h'.Ns en.locals m' /\
  ∀ c o,c≠en.locals->c≠J->c≠D->s.heap.get? c=some o->h'.get? c=some o) (λn s' I=>?_) (row.size + 1) ⟨0,s.heap,s.toks,m,k,rfl,PQ _,rfl,st,by rw[List.take_zero,ö];exact ac,hn,λ_ _ _ _ _ e=>e⟩
 show Ú _ A ((U9 (cx x y pe px py px2 iter sc ps) 1 (.ref J) (.ref D) en).onRaise (λx=>do VX x en;UR x)) _ _ s';refine WN ?_;rw[wx];obtain⟨i,h',tk,m',k',rfl,hi,rfl,st',ac',hn',hkp⟩:=I;refine À (P5 (À ?_));by_cases hlt:i < row.size
 ·refine W.item i _ _ _ hlt st' λv h1 tk1 hv aQ k1=>?_;refine À (È ?_);refine À (QH (Rx hy (hn'.at' λo e=>k1 _ o (by simpa using hCJ) e) (λh2 hn2 sb2=>?_) (by rw[hk];rfl)))
  refine À (SM (env:=en) ?_);rw[if_pos rfl];refine À (À (SH (QT (v:=v) hk hy hn2 (by simp) ?_) hd))
  have k2:∀ b o,b≠en.locals->b≠J->h'.get? b=some o->h2.get? b=some o:=λb o z1 z2 e=>sb2.extBut b o z1 (k1 b o (by simpa using z2) e)
  have hv:row[i]?=some v:=hv;have e1:row.toList.take (i + 1)=row.toList.take i++[v]:=by
   rw[T9,Rj,hv];rfl
  refine À (append_at (k2 D _ hDC hDJ ac') (λh3 sb3 hD3=>?_) (by
   show(TC _).size<=sizeLine;rw[ß,Ü,î];have:row.toList.length=row.size:=rfl;omega))
  refine È (È ⟨rfl,row.size + 1 - (i + 1),by omega,i + 1,h3,_,_,k' + 1,rfl,hlt,rfl,W.frame _ h2 _ ?_ λc hc o e=>sb3.2 c (λz=>?_) ▸ e,?_,hn2.sameBut sb3 (OT hDC),λc o z1 z2 z3 e=>(sb3.2 c z3).trans (k2 c o z1 z2 (hkp c o z1 z2 z3 e))⟩)
  ·exact W.frame _ _ _ aQ λc hc o e=>sb2.extBut c o (λz=>by subst z;rcases Û.mp hc with z | z;exact hCJ z;exact hCb (by simpa using z)) e
  ·subst z;rcases Û.mp hc with z | z
   ·exact hDJ z
   ·exact hDb (by simpa using z)
  ·rw[e1,← Ý];rw[Tr] at hD3;exact hD3
 ·have hin:i=row.size:=by omega
  subst hin;refine W.done _ _ _ st' λh1 tk1 k1=>È (hR h1 tk1 m' k' (hn'.at' λo e=>k1 _ o (by simpa using hCJ) e) ?_ λc o z1 z2 z3 e=>k1 c o (by simpa using z2) (hkp c o z1 z2 z3 e))
  have:=k1 D _ (by simpa using hDJ) ac'
  rwa [show row.toList.take row.size=row.toList from QI] at this
theorem ue{α:Type}:∀ (l:List (List α)) (i:Nat) (r:List α),l[i]?=some r->(l.take i).flatten.length + r.length<=l.flatten.length
 |[],i,r,h=>by simp at h|x::l,0,r,h=>by cases h;simp
 |x::l,i + 1,r,h=>by
  have:=ue l i r h;simp only[List.take_succ_cons,Pj,Ü];omega
theorem zK{I D a:Ë}{en:Env}{ai:Array Ä}{m:Str->Option Ä}{rows:List (List Ä)}{k:Nat}(hh:A.handled=none)(hI:a≠I)(hl:rows.length=ai.size)(hz:rows.flatten.length<=sizeLine)
  (ka:∀ (i:Nat) (row:List Ä),rows[i]?=some row->∃ b:Ë,ai[i]?=some (Pf b)/\b≠I/\b≠D/\b≠en.locals/\s.heap.IsTuple b row.toArray)
  (hx:en.kindOf x=some .local) (hy:en.kindOf y=some .local) (hk:en.scope.kind=.function) (hdx:(x == ("__debug__":Str))=false) (hdy:(y == ("__debug__":Str))=false) (hDC:D≠en.locals) (hDI:D≠I) (hDa:D≠a) (hCI:en.locals≠I) (hCa:en.locals≠a)
  (st:s.heap.IsTupleIter I a 0/\s.heap.IsTuple a ai) (ac:s.heap.get? D=some (ud [] k)) (hn:s.heap.Ns en.locals m)
  (hR:∀ (h':û) (tk:Nat) m' k',h'.Ns en.locals m'->h'.get? D=some (ud rows.flatten k')->(∀ c o,c≠en.locals->c≠I->c≠D->s.heap.get? c=some o->h'.get? c=some o)->R (.ok .next) { s with heap:=h',toks:=tk }) :
  Qc (Ù P w) A (.compLoop (cx x y pe px py px2 iter sc ps) 0 (.ref I) (.ref D) en) R s:=by
 have W:=Ve (prog:=P) (w:=w) (A:=A) hh I a hI ai;refine Wg rfl (λn s'=>∃ (i:Nat) (h':û) (tk:Nat) (m':Str->Option Ä) (k':Nat),s'={ s with heap:=h',toks:=tk }/\i<=ai.size/\n=ai.size + 1 - i/\(h'.IsTupleIter I a i/\h'.IsTuple a ai)/\h'.get? D=some (ud (rows.take i).flatten k')/\h'.Ns en.locals m' /\
  ∀ c o,c≠en.locals->c≠I->c≠D->s.heap.get? c=some o->h'.get? c=some o) (λn s' I=>?_) (ai.size + 1) ⟨0,s.heap,s.toks,m,k,rfl,PQ _,rfl,st,ac,hn,λ_ _ _ _ _ e=>e⟩
 show Ú _ A ((U9 (cx x y pe px py px2 iter sc ps) 0 _ (.ref D) en).onRaise (λx=>do VX x en;UR x)) _ _ s';refine WN ?_;rw[wu];obtain⟨i,h',tk,m',k',rfl,hi,rfl,st',ac',hn',hkp⟩:=I;refine À (P5 (À ?_));by_cases hlt:i < ai.size
 ·refine W.item i _ _ _ hlt st' λv h1 tk1 hv aQ k1=>?_;have hr:rows[i]?=some rows[i]:=Ø ∅
  obtain⟨b,hb,bI,bD,bC,isb⟩:=ka i _ hr;have hv0:ai[i]?=some v:=hv;rw[hb] at hv0;cases hv0;refine À (È ?_);refine À (QH (Rx hx (hn'.at' λo e=>k1 _ o (by simpa using hCI) e) (λh2 hn2 sb2=>?_) (by rw[hk];rfl)))
  refine À (SM (env:=en) ?_);rw[if_pos rfl];refine À (SH (QT (v:=.ref b) hk hx hn2 (by simp) ?_) hdx)
  have k2:∀ c o,c≠en.locals->c≠I->h'.get? c=some o->h2.get? c=some o:=λc o z1 z2 e=>sb2.extBut c o z1 (k1 c o (by simpa using z2) e)
  have isb2:h2.IsTuple b rows[i].toArray:=isb.at λo e=>k2 b o bC bI (hkp b o bC bI bD e);have st2:=W.frame _ _ h2 aQ λc hc o e=>sb2.extBut c o (λz=>by subst z;rcases Û.mp hc with z | z;exact hCI z;exact hCa (by simpa using z)) e
  have D2:=k2 D _ hDC hDI ac';refine À (P5 (À (È (À (PC (Py isb2 ?_))))));dsimp only;generalize e3:h2.push { cls:=.type "tuple_iterator",data:=.fields #[.ref b,.int 0 0] }=h3;have old:∀ c o,h2.get? c=some o->h3.get? c=some o:=λc o e=>e3 ▸ Ã _ e;have lt:∀ {c:Ë}{o:Obj},h2.get? c=some o->c≠h2.objs.size:=λe=>â (ë e);have ltb:b≠h2.objs.size:=by obtain⟨o,e,_⟩:=isb2;exact lt e
  have ltC:en.locals≠h2.objs.size:=â hn2.lt;have lta:a≠h2.objs.size:=by obtain⟨_,o,e,_⟩:=st2;exact lt e
  have ltI:I≠h2.objs.size:=by obtain⟨⟨o,e,_⟩,_⟩:=st2;exact lt e
  have it3:h3.IsTupleIter h2.objs.size b 0:=⟨_,e3 ▸ Í _ rfl,rfl,rfl⟩;refine À (wpAny_runOwn (uc it3 ?_));refine Ey (ai:=(rows.take i).flatten) (show(A.mark none).handled=none from by show Option.or none A.handled=none;rw[hh];rfl) ltb (ã (Vi (by rw[ß])) (ã (ue rows i _ hr) hz)) hy hk hdy hDC (lt D2) (OT bD) ltC (OT bC) ⟨it3,isb2.at λo e=>old _ o e⟩ (old _ _ D2) (hn2.at' λo e=>old _ o e) λh4 tk4 m4 k4 hn4 ac4 k5=>È ⟨rfl,ai.size + 1 - (i + 1),by omega,i + 1,h4,tk4,m4,k4,rfl,hlt,rfl,?_,?_,hn4,λc o z1 z2 z3 e=>?_⟩
  ·have sI:=st2.1;have sa:=st2.2;exact⟨sI.at λo e=>k5 _ o (OT hCI) ltI (OT hDI) (old _ o e),sa.at λo e=>k5 _ o (OT hCa) lta (OT hDa) (old _ o e)⟩
  ·rw[T9,hr];show _=some (ud ((rows.take i)++[rows[i]]).flatten k4);rw[VO];simpa using ac4
  ·have e2:=k2 c o z1 z2 (hkp c o z1 z2 z3 e);exact k5 c o z1 (lt e2) z3 (old c o e2)
 ·have hin:i=ai.size:=by omega
  subst hin;refine W.done _ _ _ st' λh1 tk1 k1=>È (hR h1 tk1 m' k' (hn'.at' λo e=>k1 _ o (by simpa using hCI) e) ?_ λc o z1 z2 z3 e=>k1 c o (by simpa using z2) (hkp c o z1 z2 z3 e))
  have:=k1 D _ (by simpa using hDI) ac'
  rwa [show rows.take ai.size=rows from by rw[← hl,QI]] at this
end
end
section
variable {X:Cx}{x y:Str}{pe px py px2 ps pos:Pos}{iter:Ö}{sc:ON}
theorem xZ{aa:List (Ë × Obj)}{σ:St}{H:Hp}{s:É}(I:Inv X aa σ H s):∀ {ys:List V}{rows:List (List V)}{ai:List Ä},Pd (λy row=>∃ b,y=V.ref b/\cI X.K H b row) ys rows->Vals ys ai ->
  ∃ rvs:List (List Ä),Vals rows.flatten rvs.flatten/\rvs.length=ai.length/\∀ (i:Nat) (row:List Ä),rvs[i]?=some row->∃ b:Ë,ai[i]?=some (Pf b)/\b < s.heap.objs.size/\s.heap.IsTuple b row.toArray
 |_,_,_,.nil,h=>by cases h;exact⟨[],.nil,rfl,λi row e=>by simp at e⟩
 |_,_,_,.cons ⟨b,e,hb⟩ t,h=>by
  subst e;cases h with
  |cons r1 r2 =>
   cases r1;obtain⟨rvs,v1,v2,v3⟩:=xZ I t r2;obtain⟨ai,rv,p,_⟩:=I.tuple hb;refine⟨ai::rvs,rv.append v1,by simp[v2],λi row e=>?_⟩
   cases i with
   |zero=>cases e;exact⟨b,rfl,by obtain⟨o,e,_⟩:=p;exact ë e,p⟩
   |succ i=>exact v3 i row e
theorem n5{aa:List (Ë × Obj)}{σ:St}{H2:Hp}{s2:É}{cl:List (Str × Ë)}{a:Ë}{ys:List V}{rows:List (List V)}(hc:X.calm=true)(S:fB X sc [x,y] [])(hx:sc.names.lookup x=some .local)(hy:sc.names.lookup y=some .local)(dx:(x == ("__debug__":Str))=false)(dy:(y == ("__debug__":Str))=false)
  (I2:Inv X aa σ H2 s2) (hq:cI X.K H2 a ys) (pk:Pd (λy row=>∃ b,y=V.ref b/\cI X.K H2 b row) ys rows) (hz:rows.flatten.length<=sizeLine)
  {R:VK} (q:∀ D,H2 D=none->R (.ref D) (upd H2 D (.lst rows.flatten))) {RR:Ä->Ë->Vh->É->Prop} (hRR:∀ acc C s',xN X aa σ R acc C s'->RR acc C (.ok .next) s') {E:Ä->É->Prop} :
  Ú (Ù X.prog X.w) X.A (Wd (.ref a)) (λit s1=>Ú (Ù X.prog X.w) X.A (UW []) (λacc s3=>Ú (Ù X.prog X.w) X.A (newFunctionEnv sc X.env.globals cl [] X.env.qual none .none (some X.env)) (λce s4 =>
   Qc (Ù X.prog X.w) X.A (.compStart (cx x y pe px py px2 iter sc ps) 0 it acc { ce with scope:=relabel sc X.env }) (RR acc ce.locals) s4) E s3) E s1) E s2:=by
 obtain⟨ai,rv,p,hzi⟩:=I2.tuple hq;obtain⟨rvs,v1,v2,v3⟩:=xZ I2 pk rv;have hal:a < s2.heap.objs.size:=by
  obtain⟨o,e,_⟩:=p;exact ë e
 refine Py p (My (S6 S.nocell (by intro y hy;simp at hy) (λh2 hns sb=>?_) S.kind))
 dsimp only at hns sb ⊢;generalize e0:s2.heap.push { cls:=.type "tuple_iterator",data:=.fields #[.ref a,.int 0 0] }=g0 at hns sb ⊢;generalize e1:g0.push { cls:=.type "list",dict:=none,data:=.seq ([]:List Ä).toArray }=g1 at hns sb ⊢;have z0:g0.objs.size=s2.heap.objs.size + 1:=by rw[← e0,Qi]
 have z1:g1.objs.size=s2.heap.objs.size + 2:=by rw[← e1,Qi,z0]
 have n01:s2.heap.objs.size≠g0.objs.size:=by omega
 have n02:s2.heap.objs.size≠g1.objs.size:=by omega
 have n12:g0.objs.size≠g1.objs.size:=by omega
 have lw:∀ {b:Ë},b < s2.heap.objs.size->b≠s2.heap.objs.size/\b≠g0.objs.size/\b≠g1.objs.size:=λ{b} hb=>⟨â hb,â (ê hb ∅),â (ê hb ∅)⟩
 have old0:∀ b o,g0.get? b=some o->b≠g1.objs.size->h2.get? b=some o:=λb o e n=>sb.extBut b o n (Ã _ (e1 ▸ Ã _ e));have old:∀ b o,s2.heap.get? b=some o->h2.get? b=some o:=λb o e=>old0 b o (e0 ▸ Ã _ e) (lw (ë e)).2.2;have hit:h2.IsTupleIter s2.heap.objs.size a 0:=⟨_,old0 _ _ (e0 ▸ Í _ rfl) n02,rfl,rfl⟩;have hD:h2.get? g0.objs.size=some (ud [] 0):=sb.extBut _ _ n12 (Ã _ (e1 ▸ Í _ rfl));have ta:h2.IsTuple a ai.toArray:=Sl.at p λo e=>old _ o e;have loop:∀ s3:É,s3={ s2 with heap:=h2,toks:=s2.toks + ([]:List (Str × Ä)).length }->Qc (Ù X.prog X.w) X.A (.compLoop (cx x y pe px py px2 iter sc ps) 0 (.ref s2.heap.objs.size) (.ref g0.objs.size) (Vb sc cl g1.objs.size X.env)) (RR (.ref g0.objs.size) g1.objs.size) s3:=by
  rintro s3 rfl;refine zK (rows:=rvs) (ai:=ai.toArray) (a:=a) (I2.ok.hd hc) (lw hal).1 (by rw[v2,ß]) (by rw[← v1.length];exact hz) (λi row e=>?_) (S8 hx) (S8 hy) S.kind dx dy n12 n01.symm (lw hal).2.1.symm n02.symm (lw hal).2.2.symm ⟨hit,ta⟩ hD hns λh' tk m' k' hn' hD' kp=>?_
  ·obtain⟨b,w1,w2,w3⟩:=v3 i row e;obtain⟨l1,l2,l3⟩:=lw w2;exact⟨b,by simpa using w1,l1,l2,l3,w3.at λo e=>old _ o e⟩
  ·have kp2:∀ b o,s2.heap.get? b=some o->h'.get? b=some o:=λb o e=>by
    obtain⟨l1,l2,l3⟩:=lw (ë e);exact kp b o l3 l1 l2 (old b o e)
   have hDn:H2 g0.objs.size=none:=I2.bx.fresh ∅
   have hCn:H2 g1.objs.size=none:=I2.bx.fresh ∅
   exact hRR _ _ _ ⟨g0.objs.size,upd H2 g0.objs.size (.lst rows.flatten),m',rfl,I2.laid (t':=tk) kp2 ∅ ⟨hz,rvs.flatten,k',v1,hD'⟩,I2.ly ∅ (by rw[ax n12.symm];exact hCn),hn',q _ hDn⟩
 exact Wh (loop _ rfl) (SG hit (loop _ rfl))
def BA(K:Â)(ti:TE):TE:=λσ H Q=>ti σ H λv H1=>∃ a ys rows,v=.ref a/\cI K H1 a ys/\Pd (λy row=>∃ b,y=V.ref b/\cI K H1 b row) ys rows/\rows.flatten.length<=sizeLine/\∀ D,H1 D=none->Q (.ref D) (upd H1 D (.lst rows.flatten))
theorem Ez{ti:TE}(hc:X.calm=true)(S:fB X sc [x,y] [])(hx:sc.names.lookup x=some .local)(hy:sc.names.lookup y=some .local)(dx:(x == ("__debug__":Str))=false)(dy:(y == ("__debug__":Str))=false)(hi:PE X iter ti)
  (hs:∀ v,Pn iter X.env v=pure v):PE X (cx x y pe px py px2 iter sc ps) (BA X.K ti):=by
 intro aa s σ H Q I h;obtain⟨cl,hclos,hcl,hcf⟩:=kg (scope:=sc) (env:=X.env) λy hy hk=>I.ok.has y.1 (S.frees y hy hk);rw[eval_ListComp];refine Qh (use:=none) rfl hs hclos S.kind S.locs (b8 (hi aa s σ H _ I h) λv s1 h1=>?_);obtain⟨x1,H1,I1,r1,a,ys,rows,rfl,hq,pk,hz,q⟩:=h1;cases r1;refine n5 hc S hx hy dx dy I1 hq pk hz q (RR:=λacc C=>Va (Ù X.prog X.w) X.A X.xe none (EP X aa σ Q) acc C) λacc C s' hf=>?_;obtain⟨D,H',m',rfl,I',f',ns',r⟩:=hf;exact⟨m',ns',λh' sb=>⟨.ref D,H',I'.turned (t':=s'.toks) (λb o hb e=>(sb.2 b hb).trans e) f'.1 f'.2.1 f'.2.2.2.1 f'.2.2.2.2.1 f'.2.2.2.2.2,rfl,r⟩⟩
theorem EA{i:Nat}{yy:Str}{pyy:Pos}{ti:TE}(hN:X.N.Nodup)(hiN:X.N[i]?=some yy)(hyy:Loc X.env.scope yy)(hsw:Rf (cx x y pe px py px2 iter sc ps) (some (.Name yy pyy)) pos.line X.env=pure true)
  (hc:X.calm=true) (S:fB X sc [x,y] []) (hx:sc.names.lookup x=some .local) (hy:sc.names.lookup y=some .local) (dx:(x == ("__debug__":Str))=false) (dy:(y == ("__debug__":Str))=false) (hi:PE X iter ti)
  (hs:∀ v,Pn iter X.env v=pure v) (hf:X.fn yy=true∨X.env.scope.names.lookup yy=some .local) :
  PS X (.Assign [.Name yy pyy] (cx x y pe px py px2 iter sc ps) pos) (vR (BA X.K ti) (j8 i)):=by
 intro aa s σ H D I h;obtain⟨cl,hclos,hcl,hcf⟩:=kg (scope:=sc) (env:=X.env) λy hy hk=>I.ok.has y.1 (S.frees y hy hk);rw[WC _ _ _ _ hsw];refine À (P5 (À ?_));show Ú _ X.A (do let _ ← comprehension (cx x y pe px py px2 iter sc ps) sc X.env _ (UW []) false (eval iter X.env) (some (Rr (.Name yy pyy) X.env))) _ _ s;refine À (Pz (Qh (use:=some (Rr (.Name yy pyy) X.env)) (Q:=λ_ s'=>SP X aa D .next s') rfl hs hclos S.kind S.locs
  (b8 (hi aa s σ H _ I h) λv s1 h1=>?_)) (λ_ s' hq=>È (È hq)) λ_ _ e=>e)
 obtain⟨x1,H1,I1,r1,a,ys,rows,rfl,hq,pk,hz,q⟩:=h1;cases r1;refine n5 (R:=λv H'=>j8 i v σ H' D.nx) hc S hx hy dx dy I1 hq pk hz q (RR:=λacc C=>Va (Ù X.prog X.w) X.A X.xe (some (Rr (.Name yy pyy) X.env)) (λ_ s'=>SP X aa D .next s') acc C) λacc C s' hfn=>?_;obtain⟨DA,H',m',rfl,I',f',ns',r⟩:=hfn;show Ú _ X.A (Rr (.Name yy pyy) X.env (.ref DA)) _ _ _;refine QH (lu (v:=.ref DA) I' hN hiN hyy rfl (λs3 I3 ha=>?_) hf);obtain⟨a,sb,ha⟩:=ha;have hCa:C≠a:=λz=>by
  rcases ha with q | q
  ·exact f'.2.1 (z.trans q)
  ·exact f'.2.2.2.2.1 _ _ q z.symm
 exact⟨m',ns'.sameBut sb hCa,λh' sb'=>⟨_,H',I3.turned (t':=s3.toks) (λb o hb e=>(sb'.2 b hb).trans e) f'.1 f'.2.1 f'.2.2.2.1 f'.2.2.2.2.1 f'.2.2.2.2.2,r⟩⟩
end
end L2
namespace SS
open PySem
def iq(m:Nat):List Nat:=(é 8).filter λi=>m.testBit i
def add(m v:Nat):Nat:=m ||| 2 ^ v
def fj(led:Bool)(m:Nat):SetTable:=if (iq m).length < 5 then⟨7,(iq m).toArray,#[],0,led,0,true⟩ else⟨31,(iq m).toArray,#[],0,led,1,true⟩
def mQ(led:Bool)(m v:Nat):SetTable:={ fj led m with place:=(iq (add m v)).toArray }
def pos(m v:Nat):Nat:=((iq m).filter (· < v)).length
def hs(m:Nat):Array Int:=((iq m).map Int.ofNat).toArray
def full(led:Bool)(m v:Nat):Bool:=if (mQ led m v).tooFull then decide ((mQ led m v).relaid (hs (add m v)) (V0 ((iq m).length + 1))=some (fj led (add m v),(é ((iq m).length + 1)).toArray)) else decide (mQ led m v=fj led (add m v))
def HF(led:Bool)(m v:Nat):Bool:=if m.testBit v then decide (add m v=m) else decide (add m v < 256)&&decide ((fj led m).freeSlot (v:Int)=some (v,false))&&decide ((fj led m).put v=(mQ led m v,pos m v))&&(mQ led m v).fits ((iq m).length + 1) &&
 decide ((iq m).take (pos m v)++v::(iq m).drop (pos m v)=iq (add m v))&&decide ((iq (add m v)).length=(iq m).length + 1)&&(fj led (add m v)).fits ((iq m).length + 1)&&full led m v
theorem EB:([true,false].all λled=>(é 256).all λm=>(fj led m).fits (iq m).length&&(é 8).all λv=>HF led m v)=true:=by decide +kernel
theorem jF(led:Bool)(hm:m < 256):(fj led m).fits (iq m).length=true/\∀ v,v < 8->HF led m v=true:=by
 have h:=á.mp (á.mp EB led (by cases led <;> simp)) m (ì.mpr hm)
 rw[Á] at h;exact⟨h.1,λv hv=>á.mp h.2 v (ì.mpr hv)⟩
theorem m9:i∈iq m↔i < 8/\m.testBit i=true:=by unfold iq;rw[QL,RJ]
abbrev led(w:ü):Bool:=!(w.params.followText "set-order")
def ent(g:Nat->Tok)(m:Nat):Array (Int × Ä):=((iq m).map λ(i:Nat)=>((i:Int),Rk i (g i))).toArray
def hX(w:ü)(h:û)(a:Ë)(m:Nat):Prop:=∃ o ep g,h.get? a=some o/\o.ExactSet/\o.data=.set (ent g m) ep (fj (led w) m)
theorem cM(g:Nat->Tok)(m:Nat):(ent g m).size=(iq m).length:=by unfold ent;simp
theorem EC(g:Nat->Tok)(u:Tok)(hv:m.testBit v=false)(h:(iq m).take (pos m v)++v::(iq m).drop (pos m v)=iq (add m v)):Vg (ent g m) (pos m v) ((v:Int),Rk v u)=ent (λi=>if i=v then u else g i) (add m v):=by
 have hne:∀ i∈iq m,i≠v:=λi hi e=>by subst e;rw[(m9.mp hi).2] at hv;cases hv
 have e1:(iq m).map (λ(i:Nat)=>((i:Int),Rk i (g i)))=(iq m).map λ(i:Nat)=>((i:Int),Rk i (if i=v then u else g i)):=O0 λi hi=>by rw[if_neg (hne i hi)]
 unfold ent;rw[← h,e1];apply QG.mp;unfold Vg;simp;exact Qe (by simp)
theorem BB(g:Nat->Tok)(m:Nat):(ent g m).map (·.1)=hs m:=by
 unfold ent hs;rw[Uh,à];rfl
theorem BC{α:Type}(xs:Array α):((é xs.size).toArray).filterMap (xs[·]?)=xs:=by
 apply QG.mp;rw[Array.toList_filterMap];exact PySem.W.krv_all xs
section
variable {P:í}{w:ü}{A:p8}{E:Ä->É->Prop}{s:É}{a:Ë}{m:Nat}
theorem n6{v:Nat}(h:v < 8):(QA P w).hash (v:Int)=v:=by
 have:∀ v:Nat,v < 8->hashInt (v:Int)=v:=by decide
 exact this v h
theorem elems(g:Nat->Tok)(m:Nat):ElemsOf (QA P w) (ent g m).toList:=λe he=>by
 unfold ent at he;obtain⟨i,hi,rfl⟩:=Î.mp he;exact⟨⟨i,TY _ _ _ _,(n6 (m9.mp hi).1).symm⟩,rfl⟩
theorem Kv(g:Nat->Tok){v:Nat}(u:Tok){led:Bool}(hm:m < 256)(hv:v < 8)(hb:m.testBit v=false):layNew (fj led m) (ent g m) (v:Int) (.int v u)=(ent (λi=>if i=v then u else g i) (add m v),mQ led m v,false,false):=by
 have h:=(jF led hm).2 v hv;unfold HF at h;rw[hb,if_neg Õ] at h;simp only[Á,decide_eq_true_eq] at h;obtain⟨⟨⟨⟨⟨⟨⟨_,h1⟩,h2⟩,h3⟩,h4⟩,h5⟩,_⟩,_⟩:=h;unfold layNew;rw[h1];dsimp only;rw[h2];dsimp only;rw[EC g u hb h4,cM,h5];unfold SetTable.orStandIn;rw[h3];rfl
theorem ED(g:Nat->Tok){v:Nat}{led:Bool}(hm:m < 256)(hv:v < 8)(hb:m.testBit v=false)(ht:(mQ led m v).tooFull=true):relayAll (mQ led m v) (ent g (add m v)) (V0 (ent g (add m v)).size)=(ent g (add m v),fj led (add m v),false):=by
 have h:=(jF led hm).2 v hv;unfold HF at h;rw[hb,if_neg Õ] at h;simp only[Á,decide_eq_true_eq] at h;obtain⟨⟨⟨⟨⟨⟨⟨_,_⟩,_⟩,_⟩,_⟩,h5⟩,h6⟩,h7⟩:=h;unfold full at h7;rw[if_pos ht,decide_eq_true_eq] at h7;unfold relayAll;rw[BB,cM,h5,h7];dsimp only;have e:((é ((iq m).length + 1)).toArray).filterMap ((ent g (add m v))[·]?)=ent g (add m v):=by
  have:=BC (ent g (add m v));rw[cM,h5] at this;exact this
 rw[e,cM,h5,h6];have c:coversAll (é ((iq m).length + 1)).toArray ((iq m).length + 1)=true:=by
  unfold coversAll;rw[W6]
 rw[c];rfl
theorem BD(hm:m < 256)(hv:v < 8):add m v < 256:=by
 have h:=(jF true hm).2 v hv;unfold HF at h;cases hb:m.testBit v with
 |true=>rw[hb,if_pos rfl,decide_eq_true_eq] at h;rw[h];exact hm
 |false =>
  rw[hb,if_neg Õ] at h;simp only[Á,decide_eq_true_eq] at h;exact h.1.1.1.1.1.1.1
theorem add_same(hm:m < 256)(hv:v < 8)(hb:m.testBit v=true):add m v=m:=by
 have h:=(jF true hm).2 v hv;unfold HF at h;rw[hb,if_pos rfl,decide_eq_true_eq] at h;exact h
theorem HG{v:Nat}(hm:m < 256)(hv:v < 8)(hS:hX w s.heap a m)(h:∀ b h',Tt a s.heap h'->hX w h' a (add m v)->Q b { s with heap:=h' }) :
  Ú (Ù P w) A (setAddHashed a (.int v u) ((QA P w).hash v)) Q E s:=by
 obtain⟨o,ep,g,ho,hex,hd⟩:=hS;have hf:(fj (led w) m).fits (ent g m).size=true:=by rw[cM];exact(jF _ hm).1
 have hsz:(iq m).length<=8:=ã (Qk _ _) (by simp)
 have hb:(ent g m).size < scanBound:=by rw[cM];unfold scanBound;omega
 have hel:=elems (P:=P) (w:=w) g m;unfold setAddHashed setAddHashedIn;refine PC (À (wpAny_setState_of ho hd hf ?_));dsimp only;rw[byScan_of (knd:=QA P w) rfl hb hel];simp only[↓reduceIte];unfold setAddByScan;refine À ?_;refine À (Qy ?_);refine À (wpAny_setScan_of (TY _ _ _ _) ho hd hf hel ?_);cases hr:List.findIdx? (λe=>(QA P w).is (v:Int) e.2) (ent g m).toList with
 |some j =>
  dsimp only;obtain⟨hj,hpj,_⟩:=List.findIdx?_eq_some_iff_getElem.mp hr;have hmem:(ent g m).toList[j]∈(ent g m).toList:=Pb hj;unfold ent at hmem;obtain⟨i,hi,e⟩:=Î.mp hmem;rw[show(ent g m).toList[j]=((i:Int),Rk i (g i)) from e.symm] at hpj;have hiv:i=v:=by
   have:=(QA P w).inj _ _ _ hpj (TY P w i (g i));omega
  subst hiv;have q:=h false s.heap (Yz a s.heap) (by rw[add_same hm hv (m9.mp hi).2];exact⟨o,ep,g,ho,hex,hd⟩)
  exact È (È q)
 |none =>
  dsimp only;have hbt:m.testBit v=false:=by
   cases hk:m.testBit v with
   |false=>rfl
   |true =>
    have:((v:Int),Rk v (g v))∈(ent g m).toList:=Î.mpr ⟨v,m9.mpr ⟨hv,hk⟩,rfl⟩;have:=List.findIdx?_eq_none_iff.mp hr _ this;rw[TY] at this;cases this
  rw[n6 hv,Kv g u hm hv hbt];have hgw:∀ (b:Bool) {s₁:É}{Q':Unit->É->Prop},Q' () s₁->Ú (Ù P w) A (match b with | true=>rule "set.scan.the-table-gave-way" | false=>pure ()) Q' E s₁:=λb s₁ Q' hq=>by cases b <;> first | exact È hq | exact Qy hq
  dsimp only;refine À (È ?_);have hpl:(mQ (led w) m v).plain=true:=by unfold mQ fj;split <;> rfl
  rw[if_pos hpl,hashByValue_scannable 8 rfl];refine À (È ?_);simp only[plainKind,↓reduceIte];have hk:=(jF (led w) hm).2 v hv;unfold HF at hk;rw[hbt,if_neg Õ] at hk;simp only[Á,decide_eq_true_eq] at hk;obtain⟨⟨_,h6⟩,h7⟩:=hk;have hlt:=BD hm hv;have hsz2:(iq (add m v)).length<=8:=ã (Qk _ _) (by simp)
  have hb2:∀ g,(ent g (add m v)).size<=sizeLine:=λg=>by rw[cM,O2];omega
  have get:∀ {h0:û}{o:Obj}{es ep t} (es':Array (Int × Ä)) (t':SetTable),h0.get? a=some o->o.data=.set es ep t->(h0.update a (Wk es' t')).get? a=some { o with data:=.set es' (ep + 1) t' }:=λ{h0 o es ep t} es' t' e1 e2=>by
   have:=Su (Wk es' t') e1 (by rw[putSet_of es' t' e2];rfl)
   rw[putSet_of es' t' e2] at this;exact this
  refine À (XD ho hd ?_ (hb2 _));have g1:=get (ent (λi=>if i=v then u else g i) (add m v)) (mQ (led w) m v) ho hd;have sb1:=P6 s.heap a (Wk (ent (λi=>if i=v then u else g i) (add m v)) (mQ (led w) m v));simp only[Bool.not_false,Pw];unfold full at h7;split
  ·rename_i ht;rw[if_pos ht] at h7;rw[ED _ hm hv hbt ht];dsimp only;refine À (È ?_);refine À (XD g1 rfl ?_ (hb2 _));exact È (È (h _ _ (sb1.trans (P6 _ a _)) ⟨_,_,_,get _ _ g1 rfl,hex,rfl⟩))
  ·rename_i ht;rw[if_neg ht,decide_eq_true_eq] at h7;exact È (È (h _ _ sb1 ⟨_,ep + 1,_,g1,hex,congrArg _ h7⟩))
end
open PySem PySem.W PyProof.Rows
def met(val:Nat->Nat):Nat->Nat
 |0=>0|i + 1=>add (met val i) (val i)
theorem wz(h:∀ i,val i < 8):∀ i,met val i < 256
 |0=>by show(0:Nat) < 256;decide|i + 1=>BD (wz h i) (h i)
section
variable {P:í}{w:ü}{A:p8}
theorem hX.keep(x:hX w h a m)(k:∀ o,h.get? a=some o->h'.get? a=some o):hX w h' a m:=by
 obtain⟨o,ep,g,ho,r⟩:=x;exact⟨o,ep,g,k o ho,r⟩
theorem EE{R:Vh->É->Prop}{I:Ë}{fp wr:List Ë}{G:Array Vq->Array Vq->Prop}{n:Nat}{Pv:Nat->Ä->Prop}{St:Nat->É->Prop}(W:WalksS P w A.in1 I fp wr G n Pv St)(S:Ë)(hf:S ∉ fp){val:Nat->Nat}(hv:∀ i,val i < 8)(hp:∀ i v,Pv i v->∃ t,v=.int (val i) t) :
  ∀ (k i:Nat) (s:É),i + k=n->St i s->hX w s.heap S (met val i)->(∀ s',Moved (S::wr) G s s'->hX w s'.heap S (met val n)->R (.ok (.ret .none)) s')->Qc (Ù P w) A (.builtin "set.update.loop" ⟨[.ref S,.ref I],[]⟩) R s:=by
 have hw:S ∉ wr:=λh=>hf (W.sub _ h);intro k
 induction k with
 |zero =>
  intro i s hk st x q;have hk:i=n:=hk;subst hk;refine PN VC ?_;rw[P9 So _];refine À (m:=SI (.ref I)) (W.done s _ _ st λs1 mv=>?_);exact È (q s1 (mv.mono λb hb=>Æ _ hb) (x.keep λo=>mv.heap S o hw))
 |succ k ih =>
  intro i s hk st x q;refine PN VC ?_;rw[P9 So _];refine À (m:=SI (.ref I)) (W.item i s _ _ ∅ st λv s1 pv aQ mv=>?_)
  obtain⟨t,rfl⟩:=hp i v pv;refine À (m:=Ui _ (setAdd S (.int (val i) t))) (PC ?_);unfold setAdd;refine PC (À ((QA P w).pyHash (k:=(val i:Int)) (TY _ _ _ _) ?_));refine HG (s:={ s1 with toks:=s1.toks + 1 }) (wz hv i) (hv i) (x.keep λo=>mv.heap S o hw) λb h2 sb x2=>?_;have off:∀ c o,c≠S->s1.heap.get? c=some o->h2.get? c=some o:=λc o hc e=>(sb.2 c hc).trans e;refine È ⟨TF So _,ih (i + 1) _ ∅ (W.frame _ s1 _ _ aQ (le_succ _) λc hc o e=>off c o (λz=>hf (z ▸ hc)) e) x2 λs2 mv2 x3=>?_⟩
  exact q s2 (Moved.trans W.gtrans ((mv.mono λb hb=>Æ _ hb).then_heap (le_succ _) λc o hc e=>off c o (λz=>hc (z ▸ Å)) e) mv2) x3
end
section
variable {P:í}{w:ü}{A:p8}{E:Ä->É->Prop}{s:É}
abbrev uf(w:ü):Obj:={ cls:=.type "set",dict:=none,data:=.set #[] 0 (.fresh 0 0 (led w)) }
theorem EG(a:Ä)(h:Q (.ref s.heap.objs.size) { s with heap:=s.heap.push (uf w) }):Qc (Ù P w) A (.call (.builtin "set.__new__") ⟨[.type "set",a],[]⟩) (wants Q E) s:=by
 refine SW ?_;refine À (m:=X7 _ _) (WM (F.newCall_set_1 a) (È ⟨TF XW _,PN F.entry_set_new ?_⟩));rw[P9 XW _];have hsub:=sub_set_self;obtain⟨hp,g,d,tk,os⟩:=s;unfold Ra.«set.__new__» Xa;dsimp only
 wp_walk
 refine X1 (È ?_);dsimp only;simp only[newObj];exact À (wpAny_alloc (È (È h)))
theorem EH{h:û}:hX w (h.push (uf w)) h.objs.size 0:=⟨_,0,λ_=>0,Í _ rfl,⟨rfl,rfl,rfl⟩,rfl⟩
structure Na(P:Program)(w:World)(T:String)(l:Addr)(o it:Obj)(n:Nat)(Pv:Nat->Value->Prop)(St:Addr->Nat->Heap->Prop):Prop where
 ty:o.cls=.type T
 f1:isSubtype (.type T) (.type "set")=pure false
 f2:isSubtype (.type T) (.type "frozenset")=pure false
 f3:(Value.type T == Value.type "dict")=false
 iter:∀ (A:Around) (E:Value->Shared->Prop) (s:Shared) (Q:Value->Shared->Prop),s.heap.get? l=some o->Q (.ref s.heap.objs.size) { s with heap:=s.heap.push it }->wpAny (model P w) A (pyIter (.ref l)) Q E s
 walk:∀ (A:Around) (I:Addr),A.handled=none->l≠I->Walks P w A I [I,l] [I] n Pv (St I)
 zero:∀ h:Heap,h.get? l=some o->St h.objs.size 0 (h.push it)
set_option maxHeartbeats 3200000 in
theorem ug{T:String}{l:Ë}{o it:Obj}{n:Nat}{Pv:Nat->Ä->Prop}{St:Ë->Nat->û->Prop}{val:Nat->Nat}{Q:Ä->É->Prop}(D:Na P w T l o it n Pv St)(hh:A.handled=none)(ho:s.heap.get? l=some o)(hv:∀ i,val i < 8)(hp:∀ i v,Pv i v->∃ t,v=.int (val i) t)
  (h:∀ (h':û) (tk:Nat),hX w h' s.heap.objs.size (met val n)->(∀ b u,s.heap.get? b=some u->h'.get? b=some u)->Q (.ref s.heap.objs.size) { s with heap:=h',toks:=tk }):Ú (Ù P w) A (call (.type "set") [.ref l]) Q E s:=by
 obtain⟨c,tl,hmro⟩:=QW.mro;have hmade:=QW.made;have hsub:=QW.sub;have h1:=QW.notType;have h2:=QW.canCreate;have hct:=F.typeCall_set_1 (.ref l);refine wpAny_call (SW ?_);show Ú _ _ (callAny (.type "set") _) _ _ _;refine È ⟨V7 _ (by decide +kernel),PN F.entry_type_call ?_⟩
 rw[Around.under_plain (weight_type_call_type "set" [.ref l] []) rfl]
 repeat (any_goals (first | assumption | wp_step))
 refine Rq (EG (.ref l) (E:=E) (Q:=λv s1=>v=.ref s.heap.objs.size/\s1={ s with heap:=s.heap.push (uf w) }) ⟨rfl,rfl⟩) λr s1 hr=>?_;cases r with
 |error e=>exact hr
 |ok fl =>
  cases fl with
  |ret v =>
   obtain⟨rfl,rfl⟩:=hr;have hT:É.TypeIs { s with heap:=s.heap.push (uf w) } (.ref s.heap.objs.size) "set":=⟨_,Í _ rfl,rfl⟩;have hli:=QW.init.lookup;have hbi:=QW.init.bind (.ref s.heap.objs.size);have lS:l < s.heap.objs.size:=ë ho;have ho1:(s.heap.push (uf w)).get? l=some o:=Ã _ ho
   repeat (any_goals (first | assumption | wp_step))
   refine Rq (codeAny_call_builtin (R:=wants (λr s2=>r=.none/\∃ h' tk,s2={ s with heap:=h',toks:=tk }/\hX w h' s.heap.objs.size (met val n)/\∀ b u,s.heap.get? b=some u->h'.get? b=some u) E) QW.init.plain F.entry_set_init (check_set_init_1 hT ?_)) λr2 s2 hr2=>?_
   ·have f1:=D.f1;have f2:=D.f2;have f3:=D.f3;obtain⟨ocls,odict,odata,oslots⟩:=o;have hc:ocls=.type T:=D.ty;subst hc;unfold Ra.«set.__init__» noKeywords W9;generalize hPI:Wd=PI
    wp_walk
    subst hPI;refine D.iter _ _ _ _ ho1 ?_;refine À (U4 ?_);have hI:(s.heap.push (uf w)).objs.size=s.heap.objs.size + 1:=Qi ..;have nI:l≠(s.heap.push (uf w)).objs.size:=by rw[hI];exact â (Qz lS)
    have nS:s.heap.objs.size ∉ [(s.heap.push (uf w)).objs.size,l]:=by
     rw[hI];simp only[OO,OU,or_false,not_or];exact⟨â (Sq _),SO lS⟩
    refine EE ((D.walk _ _ (by simp[hh]) nI).toS) s.heap.objs.size nS hv hp n 0 _ (RS _) (D.zero _ ho1) (EH.keep λu e=>Ã _ e) λs' mv x=>?_
    obtain⟨h',g',d',tk',os'⟩:=s';have eg:g'=s.gens:=mv.gens;have ed:d'=s.drawn:=mv.drawn;have eo:os'=s.os:=mv.os;subst eg;subst ed;subst eo;refine È (È ⟨rfl,h',tk',rfl,x,λb u e=>?_⟩);have lb:=ë e;refine mv.heap b u (λz=>?_) (Ã _ (Ã _ e));simp only[OO,OU,or_false] at z;rw[hI] at z;rcases z with z | z
    ·exact â lb z
    ·exact â (Qz lb) z
   ·cases r2 with
    |error e=>exact hr2
    |ok fl2 =>
     cases fl2 with
     |ret r =>
      obtain⟨rfl,h',tk,rfl,x,kp⟩:=hr2
      repeat (any_goals (first | assumption | wp_step))
      exact h _ _ x kp
     |_=>exact hr2.elim
  |_=>exact hr.elim
end
end SS
namespace Q
open PySem L2
abbrev Z:=Option (Int × Bool)
inductive S where
 |d (x:D) | fr (xs:List D) | z
 |ks (l:List (List Int))
inductive R (α:Type) where
 |ok (a:α) (z:Z) | er (c:Nat) (z:Z)
abbrev M(α:Type):=Z->Option (R α)
def M.ret{α:Type}(a:α):M α:=λz=>some (.ok a z)
def M.no{α:Type}:M α:=λ_=>none
def M.of{α:Type}:Option α->M α
 |some a=>M.ret a|none=>M.no
def M.bind{α β:Type}(m:M α)(f:α->M β):M β:=λz=>match m z with
 |some (.ok a z1)=>f a z1|some (.er c z1)=>some (.er c z1)|none=>none
def M.calm{α:Type}(m:M α):M α:=λz=>match m z with
 |some (.ok a z1)=>some (.ok a z1)|_=>none
abbrev Env:=List (Option S)
def pl:List S->Option D
 |[.d x]=>some x|[.fr xs]=>some (.lst xs)|_=>none
def one:List S->Option S
 |[s]=>some s|_=>none
def gA:S->S
 |.fr xs=>.d (.lst xs)|s=>s
def BE:S->Option D
 |.d x=>some x|.fr xs=>some (.lst xs)|_=>none
def gB:List S->Option (List D)
 |[]=>some []|.d x::r=>(gB r).map (x::·)|.fr xs::r=>(gB r).map (.lst xs::·)|_::_=>none
inductive Bi where
 |add | sub | mul | fdiv | mod | pow
inductive Cm where
 |eq | ne | lt | le | gt | ge | is | isnt | mem | nmem
inductive Bf where
 |len | sorted | tuple | list | sum | min | max | all | any | int | sset | nP
inductive Ty where
 |int | bool | tuple | list | str | seq
inductive fW where
 |v (i:Nat) | tup (ps:fW) | nil | cons (p r:fW)
inductive It where
 |seq | rng1 | rng2 | zip
 |enum
inductive Ex where
 |nil | cons (a r:Ex)
 |var (i:Nat) | con (x:D) | gint (g:Str) (i:Int)
 |tup (as:Ex) | lst (as:Ex)
 |bin (o:Bi) (a b:Ex) | cmp (o:Cm) (a b:Ex) | neg (a:Ex)
 |not (a:Ex) | and (a b:Ex) | or (a b:Ex) | orT (a b:Ex) | ite (c a b:Ex)
 |ch (o o':Cm) (a b c:Ex)
 |bf (f:Bf) (as:Ex) | isi (t:Ty) (a:Ex)
 |idx (a i:Ex) | sl (a lo hi:Ex)
 |call (f:Nat) (as:Ex)
 |comp (own:Nat) (aB:List Nat) (p:fW) (it:It) (src cond el:Ex)
 |zget (i k:Nat) | lrng (b:Bool) (as:Ex)
 |flat (a:Ex) | nP (as:Ex)
 |dkeys (a:Ex) | memk (o:Bool) (a:Ex) (i:Nat)
abbrev most:Nat:=100000
def ir:Nat:=2 ^ 4000
mutual
noncomputable def tG:D->D->Bool
 |.bw,.bw=>true|.bl a,.bl b=>a == b|.int a,.int b=>a == b|.str a,.str b=>a == b|.bl a,.int b=>(if a then 1 else 0) == b|.int a,.bl b=>a == (if b then 1 else 0)|.tup a,.tup b=>rS a b|.lst a,.lst b=>rS a b|.dct,.dct=>true|_,_=>false
noncomputable def rS:List D->List D->Bool
 |[],[]=>true|a::r,b::q=>tG a b&&rS r q|_,_=>false
end
mutual
noncomputable def wA:D->D->Option Bool
 |.int a,.int b=>some (decide (a < b))|.tup a,.tup b=>n8 a b|_,_=>none
noncomputable def n8:List D->List D->Option Bool
 |[],[]=>some false|[],_::_=>some true|_::_,[]=>some false|a::r,b::q=>if tG a b then n8 r q else wA a b
end
mutual
noncomputable def dg:D->Bool
 |.dct=>false|.tup l=>b9 l|.lst l=>b9 l|.str x=>PyData.strOk x|_=>true
noncomputable def b9:List D->Bool
 |[]=>true|x::r=>dg x&&b9 r
end
mutual
noncomputable def deep:D->Nat
 |.tup l=>cy l + 1|.lst l=>cy l + 1|_=>0
noncomputable def cy:List D->Nat
 |[]=>0|x::r=>Yg (deep x) (cy r)
end
def kn(d:D):Bool:=dg d&&decide (deep d<=40)
def zL(l:List D):Bool:=b9 l&&decide (cy l<=39)
theorem bV{c:Prop}[Decidable c]{α:Type}{a:Option α}{b:α}(h:(if c then a else none)=some b):c/\a=some b:=by
 by_cases k:c
 ·rw[if_pos k] at h;exact⟨k,h⟩
 ·rw[if_neg k] at h;cases h
def HH(a b:D):Option Bool:=if kn a&&kn b then some (tG a b) else none
def Nb:D->D->Option Bool
 |.tup l,.tup []=>some l.isEmpty|_,_=>none
def eqQ(a b:D):Option Bool:=if kn a&&kn b then some (tG a b) else Nb a b
def Ml(a b:D):Option Bool:=if kn a&&kn b then wA a b else none
def memD(x:D)(l:List D):Bool:=l.any λy=>tG y x
def rT(x:D)(l:List D):Option Bool:=if kn x&&zL l then some (memD x l) else none
def fY:List D->Option (List Int)
 |[]=>some []|.int i::r=>(fY r).map (i::·)|_=>none
def dU:Bi->D->D->Option S
 |.add,.int i,.int j=>some (.d (.int (i + j)))|.add,.tup a,.tup b=>if a.length + b.length<=most then some (.d (.tup (a++b))) else none|.add,.lst a,.lst b=>if a.length + b.length<=most then some (.fr (a++b)) else none|.sub,.int i,.int j=>some (.d (.int (i - j)))|.mul,.int i,.int j=>if i.natAbs < ir/\j.natAbs < ir then some (.d (.int (i * j))) else none|.mul,.tup a,.int j=>if 0<=j/\j.toNat * a.length<=most/\j < 1000000 then some (.d (.tup (ø j.toNat a).flatten)) else none|.mul,.lst a,.int j=>if 0<=j/\j.toNat * a.length<=most/\j < 1000000 then some (.fr (ø j.toNat a).flatten) else none|.fdiv,.int i,.int j=>if 0 < j/\j.natAbs < ir then some (.d (.int (i / j))) else none|.mod,.int i,.int j=>if 0 < j then some (.d (.int (i % j))) else none|.pow,.int i,.int j=>if 0<=j/\j<=1000/\i.natAbs < 2 ^ 64 then some (.d (.int (i ^ j.toNat))) else none|_,_,_=>none
def n9:D->Bool
 |.bw=>true|_=>false
def Nc:D->D->Option Bool
 |.dct,.tup _=>some true|a,b=>(HH a b).map (!·)
def ez:Cm->D->D->Option Bool
 |.eq,a,b=>eqQ a b|.ne,a,b=>Nc a b|.lt,a,b=>Ml a b|.gt,.int a,.int b=>some (decide (b < a))|.le,.int a,.int b=>some (decide (a<=b))|.le,.tup a,.tup b=>(fY a).bind λns=>(fY b).map λms=>HT.leB ns ms|.ge,.int a,.int b=>some (decide (b<=a))|.is,.bl a,.bl b=>some (a == b)|.is,a,.bw=>some (n9 a)|.isnt,.bl a,.bl b=>some (a != b)|.isnt,a,.bw=>some (!n9 a)|.mem,a,.tup l=>rT a l|.mem,a,.lst l=>rT a l|.nmem,a,.tup l=>(rT a l).map (!·)|.nmem,a,.lst l=>(rT a l).map (!·)|_,_,_=>none
def EI:Ty->D->Bool
 |.int,.int _=>true|.int,.bl _=>true|.bool,.bl _=>true|.tuple,.tup _=>true|.list,.lst _=>true|.str,.str _=>true|.seq,.tup _=>true|.seq,.lst _=>true|_,_=>false
def ll:D->Option Bool
 |.bl b=>some b|_=>none
def qa:D->Option (List D)
 |.tup l=>some l|_=>none
def EJ:D->Option Int
 |.int i=>some i|_=>none
def jG:D->Option (List D)
 |.tup l=>some l|.lst l=>some l|_=>none
mutual
noncomputable def fk:D->List Int
 |.int i=>[i]|.tup l=>Kw l|_=>[]
noncomputable def Kw:List D->List Int
 |[]=>[]|x::r=>fk x++Kw r
end
mutual
noncomputable def eqT:D->D->Bool
 |.int i,.int j=>i == j|.tup a,.tup b=>lN a b|_,_=>false
noncomputable def lN:List D->List D->Bool
 |[],[]=>true|x::r,y::q=>eqT x y&&lN r q|_,_=>false
end
def ko:D->Nat
 |.int _=>0|.tup (.int _::_)=>1|.tup (.tup _::_)=>2|_=>3
def cR(x y:D):Bool:=ko y == ko x&&(wA x y == some (MySort.aN (fk x) (fk y))&&(eqT x y || !(fk x == fk y)))
def dh(l:List D):Bool:=l.all λx=>decide (ko x < 3)&&(kn x&&l.all (cR x))
def rV(k:D):List D->List D
 |[]=>[k]|y::r=>if MySort.aN (fk y) (fk k) then y::rV k r else k::y::r
def hY:List D->List D
 |[]=>[]|k::r=>rV k (hY r)
def aj(k m:Nat):D:=.tup ((TS.qy k 0 m).map λ(i:Nat)=>.int i)
def kq(k:Nat):List D:=(é (2 ^ k)).map (aj k)
def Gi(k:Nat):List D:=(TS.sN k).map (aj k)
mutual
noncomputable def enc:D->List Int
 |.int i=>[i]|.tup l=>wC l|_=>[]
noncomputable def wC:List D->List Int
 |[]=>[0]|x::r=>1::(enc x++wC r)
end
def mm:Nat->D->Bool
 |0,.int _=>true|k + 1,.tup l=>l.all (mm k)|_,_=>false
def uh(k:D):List D->List D
 |[]=>[k]|y::r=>if MySort.aN (enc y) (enc k) then y::uh k r else k::y::r
def ic:List D->List D
 |[]=>[]|k::r=>uh k (ic r)
def zM:List D->Bool
 |.tup []::r=>decide (r.length < 60000)&&(r.all (mm 1) || r.all (mm 2))|_=>false
def ui(l:List D):Option (List D):=if zM l=true then some (ic l) else none
def sortedS(x:D):Option S:=(jG x).bind λl=>if l.length < 64/\dh l=true then some (.fr (hY l)) else(ui l).map S.fr
def rW:List D->Option Int
 |[]=>some 0|.int i::r=>(rW r).map (i + ·)|_=>none
def mR:Bf->List D->Option S
 |.len,[x]=>(jG x).map λl=>.d (.int l.length)|.tuple,[x]=>(jG x).map λl=>.d (.tup l)|.list,[x]=>(jG x).map λl=>.fr l|.all,[.lst l]=>(l.mapM ll).map λbs=>.d (.bl (bs.all id))|.any,[.lst l]=>(l.mapM ll).map λbs=>.d (.bl (bs.any id))|.sorted,[x]=>sortedS x|.sum,[x]=>((jG x).bind rW).map λi=>.d (.int i)|.min,[.int i,.int j]=>some (.d (.int (if j < i then j else i)))|.max,[.int i,.int j]=>some (.d (.int (if j > i then j else i)))|.int,[.bl b]=>some (.d (.int (if b then 1 else 0)))|.int,[.int i]=>some (.d (.int i))|_,_=>none
def iB:D->D->Option D
 |.tup l,.int i=>A5 l i|.lst l,.int i=>A5 l i|_,_=>none
def cutD(l:List D)(lo hi:Option Int):List D:=(l.drop (HT.c9 l.length 0 lo)).take (HT.c9 l.length l.length hi - HT.c9 l.length 0 lo)
def Nd:D->Option Int->Option Int->Option S
 |.tup l,lo,hi=>some (.d (.tup (cutD l lo hi)))|.lst l,lo,hi=>some (.fr (cutD l lo hi))|_,_,_=>none
def uj:List S->Option (Option Int)
 |[]=>some none|[.d (.int i)]=>some (some i)|_=>none
def ig:List D->Nat->List D
 |[],_=>[]|x::r,i=>.tup [.int i,x]::ig r (i + 1)
def dB:List D->List D->List D
 |x::r,y::q=>.tup [x,y]::dB r q|_,_=>[]
def inR:Int->Bool
 |.ofNat n=>WH n 100000|.negSucc n=>WH n 99999
theorem kz:inR j=true↔-100000 < j/\j < 100000:=by
 cases j with
 |ofNat n=>show ble (n + 1) 100000=true↔_;rw[Nat.ble_eq];show _↔-100000 < (n:Int)/\(n:Int) < 100000;omega|negSucc n=>show ble (n + 1) 99999=true↔_;rw[Nat.ble_eq,Int.negSucc_eq];omega
def qz:It->List D->Option (List D)
 |.seq,[x]=>jG x|.rng1,[.int j]=>if inR j=true then some ((é j.toNat).map λ(i:Nat)=>D.int i) else none|.rng2,[.int i,.int j]=>if inR i=true/\inR j=true then some ((é (j - i).toNat).map λ(k:Nat)=>D.int (i + k)) else none|.zip,[.tup a,.tup b]=>some (dB a b)|.zip,[.lst a,.lst b]=>some (dB a b)|.enum,[.tup a]=>some (ig a 0)|.enum,[.lst a]=>some (ig a 0)|_,_=>none
def N6:Bool->List D->S
 |true,xs=>.d (.tup xs)|false,xs=>.fr xs
def Gj:Bool->Str
 |true=>"tuple"|false=>"list"
def Mm:List D->Option (List D)
 |[x]=>qz .rng1 [x]|l=>qz .rng2 l
mutual
noncomputable def bO:fW->D->Env->Option Env
 |.v i=>λx ρ=>some (ρ.set i (some (.d x)))
 |.tup ps=>λx ρ=>match x with
  |.tup l=>bindL ps l ρ|_=>none
 |.nil=>λ_ _=>none|.cons _ _=>λ_ _=>none
noncomputable def bindL:fW->List D->Env->Option Env
 |.nil=>λl ρ=>match l with
  |[]=>some ρ|_=>none
 |.cons p r=>λl ρ=>match l with
  |x::l=>(bO p x ρ).bind λρ=>bindL r l ρ|_=>none
 |.v _=>λ_ _=>none|.tup _=>λ_ _=>none
end
def turns(f:D->M (Option D)):List D->M (List D)
 |[]=>M.ret []|x::r=>M.bind (f x) λo=>M.bind (turns f r) λl=>M.ret (match o with | some y=>y::l | none=>l)
def d5(fc fe:Env->M (List S))(p:fW)(ρ0:Env)(x:D):M (Option D):=M.bind (M.of (bO p x ρ0)) λρ'=>M.bind (fc ρ') λc=>match c with
 |[]=>M.bind (fe ρ') λy=>M.bind (M.of (pl y)) λy=>M.ret (some y)|[.d (.bl true)]=>M.bind (fe ρ') λy=>M.bind (M.of (pl y)) λy=>M.ret (some y)|[.d (.bl false)]=>M.ret none|_=>M.no
def uk(k:Nat):Option (Option S)->Z->Option (R (List S))
 |some (some .z),some p=>if k=0 then some (.ok [.d (.int p.1)] (some p)) else if k=1 then some (.ok [.d (.bl p.2)] (some p)) else none|_,_=>none
abbrev FT:=Bool->Nat->List S->M S
abbrev cS(F:FT):FT:=λ_=>F true
def BF:D->Option (List D)
 |.tup l=>(l.mapM qa).bind λrs=>if rs.flatten.length<=most then some rs.flatten else none|_=>none
def qA:List D->Option (List Nat)
 |[]=>some []|.int i::r=>if 0<=i/\i < 8 then(qA r).map (i.toNat::·) else none|_=>none
def BG:List D->Option S
 |[x]=>(jG x).bind λl=>(qA l).map λns=>.d (.int ((é 8).filter λi=>ns.contains i).length)|_=>none
def zN:D->Option (List Int)
 |.tup l=>fY l|_=>none
def um:List D->Option (List (List Int))
 |[]=>some []|x::r=>(zN x).bind λk=>(um r).map (k::·)
def BH:D->Option (List (List Int))
 |.lst l=>um l|_=>none
def HI:Option (Option S)->Option (List (List Int))
 |some (some (.ks l))=>some l|_=>none
def ev:FT->Ex->Env->M (List S)
 |F,.nil=>λ_=>M.ret []|F,.cons a r=>λρ=>M.bind (ev F a ρ) λx=>M.bind (M.of (one x)) λs=>M.bind (ev F r ρ) λy=>M.ret (s::y)
 |F,.var i=>λρ=>match ρ[i]? with
  |some (some s)=>M.ret [gA s]|_=>M.no
 |F,.con x=>λ_=>M.ret [.d x]|F,.gint _ i=>λ_=>M.ret [.d (.int i)]|F,.tup as=>λρ=>M.bind (ev F as ρ) λl=>M.bind (M.of (gB l)) λds=>if ds.length<=most then M.ret [.d (.tup ds)] else M.no|F,.lst as=>λρ=>M.bind (ev F as ρ) λl=>M.bind (M.of (gB l)) λds=>if ds.length<=most then M.ret [.fr ds] else M.no|F,.bin o a b=>λρ=>M.bind (ev F a ρ) λx=>M.bind (M.of (pl x)) λx=>M.bind (ev F b ρ) λy=>M.bind (M.of (pl y)) λy=>M.bind (M.of (dU o x y)) λs=>M.ret [s]|F,.cmp o a b=>λρ=>M.bind (ev F a ρ) λx=>M.bind (M.of (pl x)) λx=>M.bind (ev F b ρ) λy=>M.bind (M.of (pl y)) λy=>M.bind (M.of (ez o x y)) λb=>M.ret [.d (.bl b)]|F,.neg a=>λρ=>M.bind (ev F a ρ) λx=>M.bind (M.of ((pl x).bind EJ)) λi=>M.ret [.d (.int (-i))]|F,.not a=>λρ=>M.bind (ev F a ρ) λx=>M.bind (M.of ((pl x).bind ll)) λb=>M.ret [.d (.bl !b)]|F,.and a b=>λρ=>M.bind (ev F a ρ) λx=>M.bind (M.of ((pl x).bind ll)) λc=>if c then M.bind (ev F b ρ) λy=>M.bind (M.of ((pl y).bind ll)) λc=>M.ret [.d (.bl c)] else M.ret [.d (.bl false)]|F,.or a b=>λρ=>M.bind (ev F a ρ) λx=>M.bind (M.of ((pl x).bind ll)) λc=>if c then M.ret [.d (.bl true)] else M.bind (ev F b ρ) λy=>M.bind (M.of ((pl y).bind ll)) λc=>M.ret [.d (.bl c)]|F,.orT a b=>λρ=>M.calm (M.bind (ev F a ρ) λx=>M.bind (M.of ((pl x).bind qa)) λl=>if l.isEmpty then M.bind (ev F b ρ) λy=>M.bind (M.of ((pl y).bind qa)) λl=>M.ret [.d (.tup l)] else M.ret [.d (.tup l)])|F,.ite c a b=>λρ=>M.bind (ev F c ρ) λx=>M.bind (M.of ((pl x).bind ll)) λc=>if c then ev F a ρ else ev F b ρ
 |F,.ch o o' a b c=>λρ=>M.bind (ev F a ρ) λx=>M.bind (M.of (pl x)) λx=>M.bind (ev F b ρ) λy=>M.bind (M.of (pl y)) λy=>M.bind (M.of (ez o x y)) λk =>
   if k then M.bind (ev F c ρ) λw=>M.bind (M.of (pl w)) λw=>M.bind (M.of (ez o' y w)) λk=>M.ret [.d (.bl k)] else M.ret [.d (.bl false)]
 |F,.bf f as=>λρ=>M.bind (ev F as ρ) λl=>M.bind (M.of (gB l)) λds=>M.bind (M.of (mR f ds)) λs=>M.ret [s]|F,.isi t a=>λρ=>M.bind (ev F a ρ) λx=>M.bind (M.of (pl x)) λx=>M.ret [.d (.bl (EI t x))]|F,.idx a i=>λρ=>M.bind (ev F a ρ) λx=>M.bind (M.of (pl x)) λx=>M.bind (ev F i ρ) λy=>M.bind (M.of (pl y)) λy=>M.bind (M.of (iB x y)) λr=>M.ret [.d r]|F,.sl a lo hi=>λρ=>M.bind (ev F a ρ) λx=>M.bind (M.of (pl x)) λx=>M.bind (ev F lo ρ) λu=>M.bind (M.of (uj u)) λu=>M.bind (ev F hi ρ) λv=>M.bind (M.of (uj v)) λv=>M.bind (M.of (Nd x u v)) λs=>M.ret [s]|F,.call f as=>λρ=>M.bind (ev F as ρ) λl=>M.bind (F false f (l.map gA)) λs=>M.ret [s]|F,.comp own aB p it src cond el=>λρ=>M.bind (ev F src ρ) λl=>M.bind (M.of ((gB l).bind (qz it))) λxs=>if xs.length<=most then M.bind (M.calm (turns (d5 (ev F cond) (ev F el) p (ø own none++aB.map λi=>(ρ[i]?).getD none)) xs)) λys=>M.ret [.fr ys] else M.no|F,.zget i k=>λρ z=>uk k ρ[i]? z|F,.lrng b as=>λρ=>M.bind (ev F as ρ) λl=>M.bind (M.of ((gB l).bind Mm)) λxs=>M.ret [N6 b xs]|F,.flat a=>λρ=>M.bind (ev F a ρ) λl=>M.bind (M.of ((pl l).bind BF)) λxs=>M.ret [.fr xs]|F,.nP as=>λρ=>M.bind (ev F as ρ) λl=>M.bind (M.of (gB l)) λds=>M.bind (M.of (BG ds)) λs=>M.ret [s]|F,.dkeys a=>λρ=>M.bind (ev F a ρ) λl=>M.bind (M.of ((pl l).bind BH)) λkss=>M.ret [.ks kss]|F,.memk o a i=>λρ=>M.bind (ev F a ρ) λl=>M.bind (M.of ((pl l).bind zN)) λk=>M.bind (M.of (HI ρ[i]?)) λkss=>M.ret [.d (.bl (kss.contains k == o))]
def mn(ρ:Env):Env:=ρ.map λo=>match o with
 |some .z=>none|o=>o
inductive Sm where
 |nil | seq (s r:Sm)
 |set (p:fW) (e:Ex) | ret (e:Ex) | iff (c:Ex) (t e:Sm)
 |fr (p:fW) (it:It) (src:Ex) (b:Sm)
 |whl (c:Ex) (b:Sm)
 |rais (c:Nat) | exp (e:Ex)
 |app (i:Nat) (e:Ex) | aug (o:Bi) (i:Nat) (e:Ex)
 |newz (i:Nat) (f:Nat) (as:Ex) | zset (i:Nat) (e:Ex)
inductive O where
 |nx (ρ:Env) | rt (s:S)
mutual
noncomputable def bare:D->Bool
 |.lst _=>false|.tup l=>cF l|.dct=>false|_=>true
noncomputable def cF:List D->Bool
 |[]=>true|x::r=>bare x&&cF r
end
def oa:S->Bool
 |.d x=>bare x|.fr xs=>cF xs|_=>true
def jH(ρ:Env):Env:=ρ.map λo=>o.map gA
def mq(b:Bool):Option S->Option S
 |some (.fr xs)=>some (if b then .fr xs else .d (.lst xs))|o=>o
theorem og(b:Bool)(ρ:Env):ρ.map (mq b)=if b then ρ else jH ρ:=by
 have h:∀ o:Option S,mq b o=if b then o else o.map gA:=λo=>by
  match o with
  |some (.fr xs)=>cases b <;> rfl
  |some (.d _)=>cases b <;> rfl
  |some .z=>cases b <;> rfl
  |some (.ks _)=>cases b <;> rfl
  |none=>cases b <;> rfl
 rw[show mq b=λo=>if b then o else o.map gA from funext h];cases b with
 |true=>exact Tj ρ|false=>rfl
def cT(s:S)(ρ:Env):Env:=ρ.map (mq (oa s))
def iC:fW->S->Env->Option Env
 |p,.d x,ρ=>bO p x ρ|.v i,s,ρ=>if i < ρ.length then some (ρ.set i (some s)) else none|_,_,_=>none
def jn(f:D->Env->M O):List D->Env->M O
 |[],ρ=>M.ret (.nx ρ)
 |x::r,ρ=>M.bind (f x ρ) λo=>match o with
  |.nx ρ=>jn f r ρ|.rt s=>M.ret (.rt s)
def uo(c:Env->M (List S))(f:Env->M O):Nat->Env->M O
 |0,_=>M.no
 |n + 1,ρ=>M.bind (c ρ) λx=>M.bind (M.of ((pl x).bind ll)) λk=>if k then M.bind (f ρ) λo=>match o with
  |.nx ρ=>uo c f n ρ|.rt s=>M.ret (.rt s)
  else M.ret (.nx ρ)
def ownAt(ρ:Env)(i:Nat):Option (List D):=match ρ[i]? with
 |some (some (.fr xs))=>some xs|_=>none
def Nf(xs:List D)(i:Int)(y:D):Option (List D):=(Ge xs.length i).map λj=>xs.set j y
def BI:D->Bool
 |.tup l=>cF l|.lst l=>cF l|_=>true
def mw(l:List S):Bool:=match gB l with
 |some ds=>ds.all BI|none=>false
def EK:S->Option S
 |.z=>none|.ks _=>none|s=>some s
def BJ:(it:It)->(e:Ex)->Option {i:Nat // it=.seq/\e=.cons (.var i) .nil}
 |.seq,.cons (.var i) .nil=>some ⟨i,rfl,rfl⟩|_,_=>none
def lO:List S->Bool
 |[]=>false|.d (.lst _)::_=>true|_::r=>lO r
def oh(it:It)(e:Ex)(l:List S)(ρ:Env):Env:=match BJ it e with
 |some i=>ρ.set i.1 ((ρ[i.1]?.getD none).map gA)
 |none=>match lO l with
  |true=>jH ρ|false=>ρ
def uq(it:It)(e:Ex)(l:List S)(ρ:Env):Env:=(oh it e l ρ).map (mq (mw l))
abbrev zO:Nat:=20000
def uu(tp:Bool)(ρ:Env)(i:Nat):List S->Option (R O)
 |[.fr [.int n,.bl b]]=>if tp then some (.ok (.nx ((mn ρ).set i (some .z))) (some (n,b))) else none|_=>none
def uw(ρ:Env)(v:Int):Option (Option S)->Z->Option (R O)
 |some (some .z),some p=>some (.ok (.nx ρ) (some (v,p.2)))|_,_=>none
def ex(F:FT)(tp:Bool):Sm->Env->M O
 |.nil=>λρ=>M.ret (.nx ρ)
 |.seq s r=>λρ=>M.bind (ex F tp s ρ) λo=>match o with
  |.nx ρ=>ex F tp r ρ|.rt s=>M.ret (.rt s)
 |.set p e=>λρ=>M.bind (ev F e ρ) λl=>M.bind (M.of (one l)) λs=>M.bind (M.of (iC p s (cT s ρ))) λρ=>M.ret (.nx ρ)
 |.ret e=>λρ=>match e with
  |.var i=>(match ρ[i]? with
   |some (some s)=>M.bind (M.of (EK s)) λs=>M.ret (.rt s)
   |_=>M.no)
  |e=>M.bind (ev F e ρ) λl=>M.bind (M.of ((one l).bind EK)) λs=>M.ret (.rt s)
 |.iff c t e=>λρ=>M.bind (ev F c ρ) λx=>M.bind (M.of ((pl x).bind ll)) λc=>if c then ex F tp t ρ else ex F tp e ρ|.fr p it src b=>λρ=>M.bind (ev F src ρ) λl=>M.bind (M.of ((gB l).bind (qz it))) λxs=>jn (λx ρ=>M.bind (M.of (bO p x ρ)) λρ=>ex F tp b ρ) xs (uq it src l ρ)|.whl c b=>λρ=>uo (ev F c) (ex F tp b) zO ρ|.rais c=>λ_ z=>some (.er c z)|.exp e=>λρ=>M.bind (ev F e ρ) λl=>M.bind (M.of (one l)) λ_=>M.ret (.nx ρ)|.app i e=>λρ=>M.bind (M.of (ownAt ρ i)) λxs=>M.bind (ev F e ρ) λl=>M.bind (M.of (pl l)) λx=>if bare x=true/\xs.length < most then M.ret (.nx (ρ.set i (some (.fr (xs++[x]))))) else M.no|.aug o i e=>λρ=>M.bind (M.of ((ρ[i]?.getD none).bind BE)) λy=>M.bind (ev F e ρ) λl=>M.bind (M.of ((pl l).bind EJ)) λx=>M.bind (M.of ((EJ y).bind λy=>dU o (.int y) (.int x))) λs=>M.bind (M.of (iC (.v i) s (cT s ρ))) λρ=>M.ret (.nx ρ)|.newz i f as=>λρ=>M.bind (ev F (.call f as) ρ) λl=>λ_=>uu tp ρ i l|.zset i e=>λρ=>M.bind (ev F e ρ) λl=>M.bind (M.of ((pl l).bind EJ)) λv=>λz=>uw ρ v ρ[i]? z
inductive Df where
 |code (ps ns:Nat) (b:Sm) | prim (f:List S->M S)
def gC:Z->Z->Z
 |none,_=>none|some _,z=>z
def start(ns:Nat)(l:List S):Env:=l.map some++ø (ns - l.length) none
def run(F:FT):Df->List S->M S
 |.code ps ns b,l=>λz=>if l.length=ps/\ps<=ns then(match ex F z.isNone b (start ns (l.map gA)) z with
  |some (.ok (.nx _) z1)=>some (.ok (.d .bw) (gC z z1))|some (.ok (.rt s) z1)=>some (.ok s (gC z z1))|some (.er c z1)=>some (.er c (gC z z1))
  |none=>none) else none
 |.prim f,l=>f l
def ao(T:List Df):Nat->Nat->List S->M S
 |k + 3,f,l=>match T[f]? with
  |some d=>run (λb g m=>match b with | true=>ao T k g m | false=>ao T (k + 2) g m) d l
  |none=>M.no
 |_,_,_=>M.no
abbrev jo(T:List Df)(k:Nat):FT:=λb g m=>match b with | true=>ao T (k - 2) g m | false=>ao T k g m
theorem ux(T:List Df)(k f:Nat)(l:List S):ao T (k + 3) f l=match T[f]? with
  |some d=>run (jo T (k + 2)) d l|none=>M.no:=rfl
end Q
namespace Q
open PySem L2 PySem.Spec PyProof.Rows
def cJ(K:Â)(H:Hp)(a:Ë)(xs:List V):Prop:=Rd H a (.lst xs)∨∃ (ai:Array Ä) (n:Nat),K.lookup a=some { cls:=.type "list",data:=.seq ai n }/\ai.size<=sizeLine/\Vals xs ai.toList
theorem cJ.of{K:Â}{H:Hp}{a:Ë}{xs:List V}(h:H a=some (.lst xs)):cJ K H a xs:=.inl (.inl h)
theorem cJ.sq{K:Â}{H:Hp}{a:Ë}{xs:List V}(h:cJ K H a xs):jj K H a xs:=by
 rcases h with h | ⟨ai,n,h1,h2,h3⟩
 ·exact .inl h
 ·exact .inr ⟨_,ai,n,h1,rfl,rfl,rfl,h2,h3⟩
theorem cJ.same{K:Â}{H H':Hp}{a:Ë}{xs:List V}(h:cJ K H a xs)(e:ae H H'):cJ K H' a xs:=by
 rcases h with (h | ⟨o,h⟩) | h
 ·exact .inl (.inl (e _ _ h))
 ·exact .inl (.inr ⟨o,e _ _ h⟩)
 ·exact .inr h
theorem cJ.mem(I:Inv X aa σ H s)(h:cJ X.K H a xs):xs.length<=sizeLine/\∃ (ai:List Ä) (n:Nat),Vals xs ai/\xs.length=ai.length/\s.heap.get? a=some { cls:=.type "list",data:=.seq ai.toArray n }:=by
 rcases h with (h | ⟨o,h⟩) | ⟨ai,n,h1,h2,h3⟩
 ·exact I.Kn h
 ·obtain⟨e,z,ai,n,r,e2⟩:=I.bx a _ h;exact⟨z,ai,n,r,r.length,e2⟩
 ·refine⟨by rw[h3.length,Q0];exact h2,ai.toList,n,h3,h3.length,?_⟩
  have:=I.pQ a _ h1;rw[RT];exact this
mutual
def Hd(K:Â)(H:Hp):D->V->Prop
 |.bw,v=>v=.bw|.bl b,v=>v=.bl b|.int i,v=>v=.int i|.str x,v=>v=.str x|.tup ds,v=>∃ a xs,v=.ref a/\cI K H a xs/\aJ K H ds xs|.lst ds,v=>∃ a xs,v=.ref a/\cJ K H a xs/\aJ K H ds xs|.dct,v=>∃ a kvs,v=.ref a/\H a=some (.dK kvs)
def aJ(K:Â)(H:Hp):List D->List V->Prop
 |[],xs=>xs=[]|d::ds,xs=>∃ x r,xs=x::r/\Hd K H d x/\aJ K H ds r
end
section
variable {K:Â}{H H':Hp}
mutual
theorem Hd.same(e:ae H H'):∀ {d:D}{v:V},Hd K H d v->Hd K H' d v
 |.bw,_,h=>by unfold Hd at h ⊢;exact h|.bl _,_,h=>by unfold Hd at h ⊢;exact h|.int _,_,h=>by unfold Hd at h ⊢;exact h|.str _,_,h=>by unfold Hd at h ⊢;exact h
 |.tup ds,_,h=>by
  unfold Hd at h ⊢;obtain⟨a,xs,rfl,h1,h2⟩:=h;exact⟨a,xs,rfl,e.il h1,aJ.same e h2⟩
 |.lst ds,_,h=>by
  unfold Hd at h ⊢;obtain⟨a,xs,rfl,h1,h2⟩:=h;exact⟨a,xs,rfl,h1.same e,aJ.same e h2⟩
 |.dct,_,h=>by
  unfold Hd at h ⊢;obtain⟨a,kvs,rfl,h1⟩:=h;exact⟨a,kvs,rfl,e _ _ h1⟩
theorem aJ.same(e:ae H H'):∀ {ds:List D}{xs:List V},aJ K H ds xs->aJ K H' ds xs
 |[],_,h=>by unfold aJ at h ⊢;exact h
 |d::ds,_,h=>by
  unfold aJ at h ⊢;obtain⟨x,r,rfl,h1,h2⟩:=h;exact⟨x,r,rfl,Hd.same e h1,aJ.same e h2⟩
end
mutual
theorem Hd.has:∀ {d:D}{v:V},Hd K H d v->mO K H d v
 |.bw,_,h=>by unfold Hd at h;unfold mO;exact h|.bl _,_,h=>by unfold Hd at h;unfold mO;exact h|.int _,_,h=>by unfold Hd at h;unfold mO;exact h|.str _,_,h=>by unfold Hd at h;unfold mO;exact h
 |.tup ds,_,h=>by
  unfold Hd at h;unfold mO;obtain⟨a,xs,rfl,h1,h2⟩:=h;exact⟨a,xs,rfl,h1,aJ.has h2⟩
 |.lst ds,_,h=>by
  unfold Hd at h;unfold mO;obtain⟨a,xs,rfl,h1,h2⟩:=h;exact⟨a,xs,rfl,h1.sq,aJ.has h2⟩
 |.dct,_,h=>by unfold Hd at h;unfold mO;exact h
theorem aJ.has:∀ {ds:List D}{xs:List V},aJ K H ds xs->lI K H ds xs
 |[],_,h=>by unfold aJ at h;unfold lI;exact h
 |d::ds,_,h=>by
  unfold aJ at h;unfold lI;obtain⟨x,r,rfl,h1,h2⟩:=h;exact⟨x,r,rfl,Hd.has h1,aJ.has h2⟩
end
theorem aJ.nil:aJ K H [] []:=by unfold aJ;rfl
theorem aJ.cons(h:Hd K H d x)(r:aJ K H ds xs):aJ K H (d::ds) (x::xs):=by unfold aJ;exact⟨x,xs,rfl,h,r⟩
theorem aJ.aH(h:aJ K H (d::ds) xs):∃ x r,xs=x::r/\Hd K H d x/\aJ K H ds r:=by unfold aJ at h;exact h
theorem aJ.bz(h:aJ K H [] xs):xs=[]:=by unfold aJ at h;exact h
theorem aJ.length:∀ {ds:List D}{xs:List V},aJ K H ds xs->xs.length=ds.length
 |[],_,h=>by rw[h.bz];rfl
 |d::ds,_,h=>by
  obtain⟨x,r,rfl,_,h2⟩:=h.aH;simp[h2.length]
theorem aJ.get:∀ {ds:List D}{xs:List V}{i:Nat}{d:D},aJ K H ds xs->ds[i]?=some d->∃ x,xs[i]?=some x/\Hd K H d x
 |[],_,_,_,_,e=>by simp at e
 |d::ds,_,i,d',h,e=>by
  obtain⟨y,r,rfl,h1,h2⟩:=h.aH;cases i with
  |zero=>simp at e;subst e;exact⟨y,rfl,h1⟩
  |succ i =>
   obtain⟨x',e1,e2⟩:=aJ.get (i:=i) h2 (by simpa using e)
   exact⟨x',by simpa using e1,e2⟩
theorem aJ.append:∀ {ds es:List D}{xs ys:List V},aJ K H ds xs->aJ K H es ys->aJ K H (ds++es) (xs++ys)
 |[],_,_,_,h,g=>by rw[h.bz];exact g
 |d::ds,_,_,_,h,g=>by
  obtain⟨x,r,rfl,h1,h2⟩:=h.aH;exact .cons h1 (aJ.append h2 g)
theorem aJ.take:∀ {ds:List D}{xs:List V} (n:Nat),aJ K H ds xs->aJ K H (ds.take n) (xs.take n)
 |ds,xs,0,_=>by simp;exact .nil|[],_,n + 1,h=>by rw[h.bz];simp;exact .nil
 |d::ds,_,n + 1,h=>by
  obtain⟨x,r,rfl,h1,h2⟩:=h.aH;exact .cons h1 (aJ.take n h2)
theorem aJ.drop:∀ {ds:List D}{xs:List V} (n:Nat),aJ K H ds xs->aJ K H (ds.drop n) (xs.drop n)
 |ds,xs,0,h=>by simpa using h|[],_,n + 1,h=>by rw[h.bz];simp;exact .nil
 |d::ds,_,n + 1,h=>by
  obtain⟨x,r,rfl,h1,h2⟩:=h.aH;exact aJ.drop n h2
theorem aJ.reverse:∀ {ds:List D}{xs:List V},aJ K H ds xs->aJ K H ds.reverse xs.reverse
 |[],_,h=>by rw[h.bz];simp;exact .nil
 |d::ds,_,h=>by
  obtain⟨x,r,rfl,h1,h2⟩:=h.aH;rw[RH,RH];exact(aJ.reverse h2).append (.cons h1 .nil)
theorem aJ.rep(h:aJ K H ds xs):∀ n:Nat,aJ K H (ø n ds).flatten (ø n xs).flatten
 |0=>by simp;exact .nil|n + 1=>by rw[Qj,Qj,Pj,Pj];exact h.append (h.rep n)
theorem aJ.set:∀ {ds:List D}{xs:List V}{d:D}{x:V} (i:Nat),aJ K H ds xs->Hd K H d x->aJ K H (ds.set i d) (xs.set i x)
 |[],_,_,_,_,h,_=>by rw[h.bz];simp;exact .nil
 |e::ds,_,d,x,i,h,g=>by
  obtain⟨y,r,rfl,h1,h2⟩:=h.aH;cases i with
  |zero=>exact .cons g h2|succ i=>exact .cons h1 (aJ.set i h2 g)
theorem aJ.ints:∀ ns:List Int,aJ K H (ns.map D.int) (ns.map V.int)
 |[]=>.nil|n::r=>.cons (by unfold Hd;rfl) (aJ.ints r)
theorem Hd.bH(h:Hd K H (.int i) v):v=.int i:=by unfold Hd at h;exact h
theorem Hd.vN(h:Hd K H (.bl b) v):v=.bl b:=by unfold Hd at h;exact h
theorem Hd.BK(h:Hd K H .bw v):v=.bw:=by unfold Hd at h;exact h
theorem Hd.HJ{x:Str}{v:V}(h:Hd K H (.str x) v):v=.str x:=by unfold Hd at h;exact h
theorem Hd.dz(h:Hd K H (.tup ds) v):∃ a xs,v=.ref a/\cI K H a xs/\aJ K H ds xs:=by unfold Hd at h;exact h
theorem Hd.iF(h:Hd K H (.lst ds) v):∃ a xs,v=.ref a/\cJ K H a xs/\aJ K H ds xs:=by unfold Hd at h;exact h
theorem Hd.int:Hd K H (.int i) (.int i):=by unfold Hd;rfl
theorem Hd.bl:Hd K H (.bl b) (.bl b):=by unfold Hd;rfl
theorem Hd.bw:Hd K H .bw .bw:=by unfold Hd;rfl
theorem Hd.str{x:Str}:Hd K H (.str x) (.str x):=by unfold Hd;rfl
theorem Hd.tup(h:cI K H a xs)(r:aJ K H ds xs):Hd K H (.tup ds) (.ref a):=by unfold Hd;exact⟨a,xs,rfl,h,r⟩
theorem Hd.lst(h:H a=some (.lst xs))(r:aJ K H ds xs):Hd K H (.lst ds) (.ref a):=by unfold Hd;exact⟨a,xs,rfl,cJ.of h,r⟩
end
def AK(H:Hp):Hp:=λb=>match H b with
 |some (.fj _)=>none|o=>o
theorem oi(h:AK H b=some o):H b=some o/\∀ ps,o≠.fj ps:=by
 unfold AK at h;split at h
 ·cases h
 ·rename_i n;exact⟨h,λps e=>n ps (by rw[h,e])⟩
theorem rX(h:H b=some o)(n:∀ ps,o≠.fj ps):AK H b=some o:=by
 unfold AK;split
 ·rename_i ps e;rw[h] at e;cases e;exact absurd rfl (n ps)
 ·exact h
theorem kA(H:Hp):ae (AK H) H:=λ_ _ h=>(oi h).1
theorem uy(e:ae H H'):ae (AK H) (AK H'):=λb o h=>rX (e b o (oi h).1) (oi h).2
def hz(zA:Option Ë)(H:Hp):Hp:=match zA with
 |some a=>hide a (AK H)|none=>AK H
class Tb where
 tb:List (Addr × Str)
variable [TB:Tb]
def Mn(zA:Option Ë)(z:Z)(H:Hp):Prop:=match zA,z with
 |some a,some (n,b)=>H a=some (.lst [.int n,.bl b])|none,none=>True|_,_=>False
structure aP(zA:Option Addr)(z:Z)(H:Hp):Prop where
 zat:Mn zA z H
 tab:∀ p∈TB.tb,Tab H p.1 p.2
theorem ag(zA:Option Ë)(H:Hp):ae (hz zA H) H:=by
 cases zA with
 |none=>exact kA H|some a=>exact ae.trans (cA a _) (kA H)
theorem dQ(e:ae H H'):ae (hz zA H) (hz zA H'):=by
 cases zA with
 |none=>exact uy e|some a=>exact lJ λb o _ h=>uy e b o h
theorem bu(h:H b=some o)(n:zA≠some b)(ht:∀ ps,o≠.fj ps:=by exact λ_ h=>nomatch h):hz zA H b=some o:=by
 cases zA with
 |none=>exact rX h ht|some a=>exact nX (rX h ht) λe=>n (by rw[e])
theorem eS(h:hz zA H b=some o):H b=some o/\zA≠some b:=by
 cases zA with
 |none=>exact⟨kA H b o h,λe=>nomatch e⟩
 |some a =>
  refine⟨kA H b o (cA a _ b o h),λe=>?_⟩;cases e;have:hide b (AK H) b=some o:=h;unfold hide at this;rw[if_pos rfl] at this;cases this
theorem gE(h:hz zA H b=some o):∀ ps,o≠.fj ps:=by
 cases zA with
 |none=>exact(oi h).2|some a=>exact(oi (cA a _ b o h)).2
structure Ext(zA:Option Addr)(H H':Hp):Prop where
 same:ae (hz zA H) (hz zA H')
 fj:∀ b ps,H b=some (.fj ps)->∃ qs,H' b=some (.fj qs)
instance {zA:Option Ë}{H H':Hp}:CoeFun (Ext zA H H') (λ_=>∀ b o,hz zA H b=some o->hz zA H' b=some o):=⟨λx=>x.same⟩
instance {zA:Option Ë}{H H':Hp}:CoeOut (Ext zA H H') (ae (hz zA H) (hz zA H')):=⟨λx=>x.same⟩
theorem Ext.refl:Ext zA H H:=⟨ae.refl _,λb ps h=>⟨ps,h⟩⟩
theorem Ext.trans(a:Ext zA H H1)(b:Ext zA H1 H2):Ext zA H H2:=⟨ae.trans a.same b.same,λc ps h=>let ⟨qs,h1⟩:=a.fj c ps h;b.fj c qs h1⟩
theorem Ext.of(e:ae H H'):Ext zA H H':=⟨dQ e,λb ps h=>⟨ps,e b _ h⟩⟩
theorem Ext.at(e:Ext zA H H')(h:H a=some o)(n:zA≠some a)(ht:∀ ps,o≠.fj ps:=by exact λ_ h=>nomatch h):H' a=some o:=(eS (e.same a o (bu h n ht))).1
theorem Ext.free(e:Ext zA H H')(h:H' a=none)(n:zA≠some a):H a=none:=by
 cases q:H a with
 |none=>rfl
 |some o =>
  by_cases ht:∃ ps,o=.fj ps
  ·obtain⟨ps,rfl⟩:=ht;obtain⟨qs,q'⟩:=e.fj a ps q;rw[q'] at h;cases h
  ·rw[e.at q n λps z=>ht ⟨ps,z⟩] at h;cases h
theorem Mn.same(h:Mn zA z H)(e:ae H H'):Mn zA z H':=by
 cases zA with
 |none=>cases z with
  |none=>trivial|some _=>exact h.elim
 |some a=>cases z with
  |none=>exact h.elim|some p=>exact e _ _ h
theorem aP.same(h:aP zA z H)(e:ae H H'):aP zA z H':=⟨h.zat.same e,λp hp=>(h.tab p hp).same e⟩
theorem Tab.upd{H:Hp}{P a:Ë}{q:Str}{xs:List V}{o:HO}(t:Tab H P q)(h:H a=some (.lst xs)):Tab (upd H a o) P q:=by
 obtain⟨ps,e,tr,k⟩:=t;have ne:∀ {b:Ë}{u:HO},H b=some u->(∀ l,u≠.lst l)->b≠a:=λ{b u} e1 e2 z=>by
  subst z;rw[h] at e1;cases e1;exact e2 _ rfl
 refine⟨ps,by rw[ax (ne e λ_ z=>nomatch z)];exact e,tr,λpos c hc=>?_⟩
 obtain⟨c',e1,e2⟩:=k pos c hc;exact⟨c',e1,by rw[ax (ne e2 λ_ z=>nomatch z)];exact e2⟩
theorem aP.uz{K:Â}{zA:Option Ë}{z:Z}{H:Hp}(h:aP zA z H){a:Ë}{xs:List V}(t:cI K H a xs):cI K (hz zA H) a xs:=by
 have h:=h.zat;rcases t with (t | ⟨o,t⟩) | t
 ·refine .inl (.inl (bu t λe=>?_));subst e;cases z with
  |none=>exact h.elim
  |some p =>
   have h':H a=some (.lst [.int p.1,.bl p.2]):=h;rw[t] at h';cases h'
 ·refine .inl (.inr ⟨o,bu t λe=>?_⟩);subst e;cases z with
  |none=>exact h.elim
  |some p =>
   have h':H a=some (.lst [.int p.1,.bl p.2]):=h;rw[t] at h';cases h'
 ·exact .inr t
theorem aP.rY(h:aP zA z H)(n:H a=none):zA≠some a:=λe=>by
 have h:=h.zat;subst e;cases z with
 |none=>exact h.elim
 |some p =>
  have h':H a=some (.lst [.int p.1,.bl p.2]):=h;rw[n] at h';cases h'
def jI(K:Â)(zA:Option Ë)(H0 H:Hp):S->V->Prop
 |.d x,v=>Hd K (hz zA H) x v|.fr xs,v=>∃ a ys,v=.ref a/\H0 a=none/\zA≠some a/\H a=some (.lst ys)/\aJ K (hide a (hz zA H)) xs ys|.z,v=>∃ a,zA=some a/\v=.ref a|.ks l,v=>∃ d,v=.ref d/\lK K (hz zA H) d l
def vO(K:Â)(zA:Option Ë)(H:Hp):S->V->Prop
 |.d x,v=>Hd K (hz zA H) x v|.fr xs,v=>Hd K (hz zA H) (.lst xs) v|.z,v=>∃ a,zA=some a/\v=.ref a|.ks l,v=>∃ d,v=.ref d/\lK K (hz zA H) d l
section
variable {K:Â}{zA:Option Ë}{H0 H H':Hp}
theorem jI.pl{s:S}{v:V}(h:jI K zA H0 H s v):vO K zA H s v:=by
 cases s with
 |d x=>exact h|z=>exact h|ks l=>exact h
 |fr xs =>
  obtain⟨a,ys,rfl,_,h2,h3,h4⟩:=h;exact Hd.lst (bu h3 h2) (h4.same (cA a _))
theorem vO.gA{s:S}{v:V}(h:vO K zA H s v):vO K zA H (gA s) v:=by cases s <;> exact h
theorem vO.mono{s:S}{v:V}(h:vO K zA H s v)(e:Ext zA H H'):vO K zA H' s v:=by
 cases s with
 |d x=>exact Hd.same e h|z=>exact h|ks l=>obtain⟨d,q,k⟩:=h;exact⟨d,q,k.same e.same⟩
 |fr xs=>exact Hd.same e h
theorem jI.mono{s:S}{v:V}(h:jI K zA H0 H s v)(e:Ext zA H H'):jI K zA H0 H' s v:=by
 cases s with
 |d x=>exact Hd.same e h|z=>exact h|ks l=>obtain⟨d,q,k⟩:=h;exact⟨d,q,k.same e.same⟩
 |fr xs =>
  obtain⟨a,ys,rfl,h1,h2,h3,h4⟩:=h;exact⟨a,ys,rfl,h1,h2,e.at h3 h2,h4.same (lJ λb o _ q=>e b o q)⟩
theorem jI.from{H1:Hp}{s:S}{v:V}(h:jI K zA H1 H s v)(e:Ext zA H0 H1):jI K zA H0 H s v:=by
 cases s with
 |d x=>exact h|z=>exact h|ks l=>exact h
 |fr xs =>
  obtain⟨a,ys,rfl,h1,h2,h3⟩:=h;exact⟨a,ys,rfl,e.free h1 h2,h2,h3⟩
theorem vO.d_{s:S}{v:V}{x:D}(h:vO K zA H s v)(e:BE s=some x):Hd K (hz zA H) x v:=by
 cases s with
 |d y=>cases e;exact h
 |fr xs=>cases e;exact h
 |_=>cases e
end
abbrev uC(K:Â)(zA:Option Ë)(H:Hp):List S->List V->Prop:=Pd (vO K zA H)
theorem uC.mono{K:Â}{zA:Option Ë}{H H':Hp}{l:List S}{vs:List V}(h:uC K zA H l vs)(e:Ext zA H H'):uC K zA H' l vs:=Pd.ze h λ_ _ q=>q.mono e
theorem uC.gA{K:Â}{zA:Option Ë}{H:Hp}:∀ {l:List S}{vs:List V},uC K zA H l vs->uC K zA H (l.map gA) vs
 |_,_,.nil=>.nil|_,_,.cons r t=>.cons r.gA (uC.gA t)
theorem uC.ds{K:Â}{zA:Option Ë}{H:Hp}:∀ {l:List S}{vs:List V}{ds:List D},uC K zA H l vs->gB l=some ds->aJ K (hz zA H) ds vs
 |_,_,_,.nil,e=>by cases e;exact .nil
 |.d x::r,_,_,.cons h t,e=>by
  simp only[gB,Sw] at e;obtain⟨l,e,rfl⟩:=e;exact .cons h (uC.ds t e)
 |.fr x::r,_,_,.cons h t,e=>by
  simp only[gB,Sw] at e;obtain⟨l,e,rfl⟩:=e;exact .cons h (uC.ds t e)
 |.z::r,_,_,.cons h t,e=>by simp[gB] at e|.ks _::r,_,_,.cons h t,e=>by simp[gB] at e
theorem cc(h:pl l=some x):∃ s,l=[s]/\BE s=some x:=by
 unfold pl at h;split at h
 ·exact⟨_,rfl,h⟩
 ·exact⟨_,rfl,h⟩
 ·cases h
theorem M.bind_some{α β:Type}{m:M α}{f:α->M β}{z:Z}{r:R β}(h:M.bind m f z=some r):(∃ a z1,m z=some (.ok a z1)/\f a z1=some r)∨(∃ c z1,m z=some (.er c z1)/\r=.er c z1):=by
 unfold M.bind at h;split at h
 ·exact .inl ⟨_,_,by assumption,h⟩
 ·cases h;exact .inr ⟨_,_,by assumption,rfl⟩
 ·cases h
theorem M.ah{α β:Type}{o:Option α}{f:α->M β}{z:Z}{r:R β}(h:M.bind (M.of o) f z=some r):∃ a,o=some a/\f a z=some r:=by
 cases o with
 |none=>cases h
 |some a=>exact⟨a,rfl,h⟩
end Q
set_option exponentiation.threshold 5000
namespace Q
open PySem L2 PySem.Spec PyProof.Rows
variable [TB:Tb]
section
variable {K:Â}{zA:Option Ë}{z:Z}{H:Hp}
theorem BL(hp:H p=none):ae (hz zA H) (hide p (hz zA (upd H p o))):=λb u e=>by
 obtain⟨e1,e2⟩:=eS e;have hb:b≠p:=λq=>by subst q;rw[hp] at e1;cases e1
 exact nX (bu (by rw[ax hb];exact e1) e2 (gE e)) hb
theorem cU:jI K zA H0 H (.d (.int i)) (.int i):=Hd.int (K:=K) (H:=hz zA H)
theorem bQ:jI K zA H0 H (.d (.bl b)) (.bl b):=Hd.bl (K:=K) (H:=hz zA H)
theorem oj(h:Hd K (hz zA H) x v):jI K zA H0 H (.d x) v:=h
theorem fE(st:aP zA z H)(h:aJ K (hz zA H) xs ys)(hp:H p=none):jI K zA H (upd H p (.lst ys)) (.fr xs) (.ref p) :=
 ⟨p,ys,rfl,hp,st.rY hp,a7,h.same (BL hp)⟩
theorem tupQ(st:aP zA z H)(h:aJ K (hz zA H) xs ys)(q:∀ v H',ae H H'->jI K zA H H' (.d (.tup xs)) v->Q v H'):rQ K H ys Q :=
 λp H' sm hq=>q _ _ sm (oj (Hd.tup ((st.same sm).uz hq) (h.same (dQ sm))))
end
def om(K:Â)(f:D->D->Option S):R2:=λx y H Q=>∃ zA z dx dy s,aP zA z H/\Hd K (hz zA H) dx x/\Hd K (hz zA H) dy y/\f dx dy=some s/\∀ v H',ae H H'->jI K zA H H' s v->Q v H'
def zP(K:Â)(f:List D->Option S):List V->Hp->VK->Prop:=λxs H Q=>∃ zA z ds s,aP zA z H/\aJ K (hz zA H) ds xs/\f ds=some s/\∀ v H',ae H H'->jI K zA H H' s v->Q v H'
section
variable {X:Cx}
theorem bits_le(h:k.natAbs < ir):UA k<=4000:=by
 unfold UA;split
 ·exact PQ _
 ·have hn:k.natAbs < 2 ^ 4000:=h;have:k.natAbs.log2 < 4000:=by
   rcases Wq k.natAbs with h0 | hp
   ·rw[h0];decide
   ·exact(Yv (SO hp)).mpr hn
  omega
theorem BM(hi:i.natAbs < ir)(hj:j.natAbs < ir):IntMulOk i j:=by
 have h1:=bits_le hi;have h2:=bits_le hj;unfold IntMulOk;intro h;rw[Á] at h;have h3:=h.2;unfold Builtin.Int.intTooBig at h3;simp only[decide_eq_true_eq] at h3;have:(8000:Nat) < bitsLine:=by decide
 omega
theorem zQ(hj:j.natAbs < ir):Builtin.divisionGoesByPylong i j=false:=by
 refine PyProof.noPylong_of_log2 ?_;rcases Wq j.natAbs with h0 | hp
 ·rw[h0];decide
 ·have:j.natAbs.log2 < 4000:=(Yv (SO hp)).mpr hj;omega
theorem cY(h:n<=most):n<=sizeLine:=ã h (by rw[O2];decide)
def Kx(K:Â):R2:=λx y H Q=>∃ l b xs zs,x=.ref l/\y=.ref b/\cJ K H l xs/\cJ K H b zs/\xs.length + zs.length<=sizeLine/\∀ p,H p=none->Q (.ref p) (upd H p (.lst (xs++zs)))
def Ky(K:Â):R2:=λx y H Q=>∃ l k xs,x=.ref l/\y=.int k/\cJ K H l xs/\-(2 ^ 63)<=k/\k < 2 ^ 63/\xs.length * k.toNat<=sizeLine/\∀ p,H p=none->Q (.ref p) (upd H p (.lst (ø k.toNat xs).flatten))
theorem EL:eM X (Qa .Add) (Kx X.K):=by
 intro aa s σ H x y v u Q I rx ry h;obtain⟨l,b,xs,zs,rfl,rfl,hH,hB,hz,q⟩:=h;cases rx;cases ry;obtain⟨z,ai,n,r,hl,e⟩:=hH.mem I;obtain⟨z2,its2,n2,r2,hl2,e2⟩:=hB.mem I;refine PySem.P.add_list e e2 ?_ (by rw[ß,ß];omega)
 have ea:ai.toArray++its2.toArray=(ai++its2).toArray:=by simp
 rw[ea];exact⟨.ref _,_,I.Km (t':=s.toks) (r.append r2) (by rw[Ü];omega),rfl,q _ I.fresh⟩
theorem EM:eM X (Qa .Mult) (Ky X.K):=by
 intro aa s σ H x y v u Q I rx ry h;obtain⟨l,k,xs,rfl,rfl,hH,h1,h2,hz,q⟩:=h;cases rx;obtain⟨t,rfl⟩:=ry;obtain⟨z,ai,n,r,hl,e⟩:=hH.mem I;have hlen:ai.toArray.size * k.toNat<=sizeLine:=by rw[ß,← hl];exact hz
 have hcap:¬ ai.toArray.size * k.toNat > (2 ^ 63 - 1) / 8:=by
  have:(sizeLine:Nat)<=(2 ^ 63 - 1) / 8:=by decide
  omega
 have hfit:¬ (!YC k)=true:=by
  rw[fitsIndex_both h1 h2];exact Õ
 have hlong:¬ RC (ai.toArray.size * k.toNat)=true:=by
  rw[A6 hlen];exact Õ
 have hnew:UL (λx1 x2=>x1++x2) #[] (ø (if ai.toArray.isEmpty=true then 0 else k.toNat) ai.toArray)=(ø k.toNat ai).flatten.toArray:=by
  have f0:∀ m:Nat,UL (λx1 x2=>x1++x2) #[] (ø m ai.toArray)=(ø m ai).flatten.toArray:=λm=>by
   have:=foldl_rep ai m [];rw[RU] at this;exact this
  rw[f0];cases ai with
  |nil=>simp|cons a r'=>rw[if_neg (by simp)]
 refine Vv (T:="list") (U:="int") (-0) ⟨_,e,rfl⟩ (λs'=>TX s' k t) noFill_list_mul XX SF repeat_list XA.lookup
  (QU SF (TX s k t) XC (Xo _ _) (int___rmul___int_list k t l ai.toArray n)
   ⟨e,rfl,⟨_,e,rfl⟩,QU F.slot_list_mul ⟨_,e,rfl⟩ F.entry_list_mul (F.args_list_mul_2 _ _) (AutoListH.list___mul___list_int_3 l ai.toArray n k t hfit hcap hlong) ⟨e,?_⟩⟩)
 rw[hnew];exact⟨.ref _,_,I.Km (t':=s.toks) (r.rep k.toNat) (by rw[len_rep,Tu];exact hz),rfl,q _ I.fresh⟩
theorem EN:eM X (Qa .Add) (om X.K (dU .add)):=by
 intro aa s σ H x y v u Q I rx ry h;obtain⟨zA,z,dx,dy,w,st,hx,hy,e,q⟩:=h;cases dx with
 |int i =>
  cases dy with
  |int j =>
   cases e;cases hx.bH;cases hy.bH;exact Hb aa s σ H _ _ v u Q I rx ry ⟨i,j,rfl,rfl,q _ _ (ae.refl H) cU⟩
  |_=>cases e
 |tup a =>
  cases dy with
  |tup b =>
   obtain⟨hl,e⟩:=bV e;cases e;obtain⟨p,xs,rfl,h1,h2⟩:=hx.dz;obtain⟨p',ys,rfl,h3,h4⟩:=hy.dz;exact En aa s σ H _ _ v u Q I rx ry ⟨p,p',xs,ys,rfl,rfl,(ag zA H).il h1,(ag zA H).il h3,cY (by rw[h2.length,h4.length];exact hl),tupQ st (h2.append h4) q⟩
  |_=>cases e
 |lst a =>
  cases dy with
  |lst b =>
   obtain⟨hl,e⟩:=bV e;cases e;obtain⟨p,xs,rfl,h1,h2⟩:=hx.iF;obtain⟨p',ys,rfl,h3,h4⟩:=hy.iF;exact EL aa s σ H _ _ v u Q I rx ry ⟨p,p',xs,ys,rfl,rfl,h1.same (ag zA H),h3.same (ag zA H),cY (by rw[h2.length,h4.length];exact hl),λr hr=>q _ _ (ae.new _ hr) (fE st (h2.append h4) hr)⟩
  |_=>cases e
 |_=>cases e
theorem EO:eM X (Qa .Sub) (om X.K (dU .sub)):=by
 intro aa s σ H x y v u Q I rx ry h;obtain⟨zA,z,dx,dy,w,st,hx,hy,e,q⟩:=h;cases dx with
 |int i =>
  cases dy with
  |int j =>
   cases e;cases hx.bH;cases hy.bH;exact Hc aa s σ H _ _ v u Q I rx ry ⟨i,j,rfl,rfl,q _ _ (ae.refl H) cU⟩
  |_=>cases e
 |_=>cases e
theorem ER:eM X (Qa .Mult) (om X.K (dU .mul)):=by
 intro aa s σ H x y v u Q I rx ry h;obtain⟨zA,z,dx,dy,w,st,hx,hy,e,q⟩:=h;cases dx with
 |int i =>
  cases dy with
  |int j =>
   obtain⟨hl,e⟩:=bV e;cases e;cases hx.bH;cases hy.bH;obtain⟨t,rfl⟩:=rx;obtain⟨t',rfl⟩:=ry;exact mul_int ⟨.int (i * j),H,I.tok _,⟨_,rfl⟩,q _ _ (ae.refl H) cU⟩ (BM hl.1 hl.2)
  |_=>cases e
 |tup a =>
  cases dy with
  |int j =>
   obtain⟨hl,e⟩:=bV e;cases e;cases hy.bH;obtain⟨p,xs,rfl,h1,h2⟩:=hx.dz;exact Eo aa s σ H _ _ v u Q I rx ry ⟨p,j,xs,rfl,rfl,(ag zA H).il h1,hl.1,hl.2.2,cY (by rw[h2.length];exact hl.2.1),tupQ st (h2.rep _) q⟩
  |_=>cases e
 |lst a =>
  cases dy with
  |int j =>
   obtain⟨hl,e⟩:=bV e;cases e;cases hy.bH;obtain⟨p,xs,rfl,h1,h2⟩:=hx.iF;exact EM aa s σ H _ _ v u Q I rx ry ⟨p,j,xs,rfl,rfl,h1.same (ag zA H),by omega,by omega,cY (by rw[h2.length,Tu];exact hl.2.1),λr hr=>q _ _ (ae.new _ hr) (fE st (h2.rep _) hr)⟩
  |_=>cases e
 |_=>cases e
theorem BN:eM X (Qa .FloorDiv) (om X.K (dU .fdiv)):=by
 intro aa s σ H x y v u Q I rx ry h;obtain⟨zA,z,dx,dy,w,st,hx,hy,e,q⟩:=h;cases dx with
 |int i =>
  cases dy with
  |int j =>
   obtain⟨hl,e⟩:=bV e;cases e;cases hx.bH;cases hy.bH;obtain⟨t,rfl⟩:=rx;obtain⟨t',rfl⟩:=ry;refine floordiv_int ∅ ⟨.int (i / j),H,I.tok _,⟨s.toks,?_⟩,q _ _ (ae.refl H) cU⟩ (.inl (zQ hl.2))
   rw[Int.fdiv_eq_ediv_of_nonneg _ ∅]
  |_=>cases e
 |_=>cases e
theorem ES:eM X (Qa .Mod) (om X.K (dU .mod)):=by
 intro aa s σ H x y v u Q I rx ry h;obtain⟨zA,z,dx,dy,w,st,hx,hy,e,q⟩:=h;cases dx with
 |int i =>
  cases dy with
  |int j =>
   obtain⟨hl,e⟩:=bV e;cases e;cases hx.bH;cases hy.bH;exact He aa s σ H _ _ v u Q I rx ry ⟨i,j,rfl,rfl,hl,q _ _ (ae.refl H) cU⟩
  |_=>cases e
 |_=>cases e
theorem ET:eM X (Qa .Pow) (om X.K (dU .pow)):=by
 intro aa s σ H x y v u Q I rx ry h;obtain⟨zA,z,dx,dy,w,st,hx,hy,e,q⟩:=h;cases dx with
 |int i =>
  cases dy with
  |int j =>
   obtain⟨hl,e⟩:=bV e;cases e;cases hx.bH;cases hy.bH;exact Hf aa s σ H _ _ v u Q I rx ry ⟨i,j,rfl,rfl,⟨hl.1,by omega,hl.2.2⟩,q _ _ (ae.refl H) cU⟩
  |_=>cases e
 |_=>cases e
def Ng:Bi->R7
 |.add=>.Add | .sub=>.Sub | .mul=>.Mult | .fdiv=>.FloorDiv | .mod=>.Mod | .pow=>.Pow
theorem Ov(o:Bi):eM X (Qa (Ng o)) (om X.K (dU o)):=by
 cases o
 ·exact EN
 ·exact EO
 ·exact ER
 ·exact BN
 ·exact ES
 ·exact ET
mutual
noncomputable def pP:D->PyData
 |.bw=>.none|.bl b=>.bool b|.int i=>.int i|.str x=>.str x|.tup l=>.tuple (iw l)|.lst l=>.list (iw l)|.dct=>.none
noncomputable def iw:List D->List PyData
 |[]=>[]|x::r=>pP x::iw r
end
end
end Q
namespace Q
open PySem L2 PySem.Spec PyProof.Rows
variable [TB:Tb]
mutual
theorem oo:∀ a b:D,dg a=true->dg b=true->Ub (pP a) (pP b)=tG a b
 |.bw,b,_,h=>by cases b <;> first | rfl | (simp[dg] at h)
 |.bl _,b,_,h=>by cases b <;> first | rfl | (simp[dg] at h)
 |.int _,b,_,h=>by cases b <;> first | rfl | (simp[dg] at h)
 |.str _,b,_,h=>by cases b <;> first | rfl | (simp[dg] at h)
 |.tup l,b,ha,h=>by
  cases b with
  |tup q =>
   exact rZ l q (by simpa [dg] using ha) (by simpa [dg] using h)
  |dct=>simp[dg] at h|_=>rfl
 |.lst l,b,ha,h=>by
  cases b with
  |lst q =>
   exact rZ l q (by simpa [dg] using ha) (by simpa [dg] using h)
  |dct=>simp[dg] at h|_=>rfl
 |.dct,_,h,_=>by simp[dg] at h
theorem rZ:∀ a b:List D,b9 a=true->b9 b=true->W0 (iw a) (iw b)=rS a b
 |[],[],_,_=>rfl|[],_::_,_,_=>rfl|_::_,[],_,_=>rfl
 |x::r,y::q,ha,hb=>by
  simp only[b9,Á] at ha hb;simp only[iw,W0,rS];rw[oo x y ha.1 hb.1,rZ r q ha.2 hb.2]
end
mutual
theorem iG:∀ a:D,dg a=true->(pP a).canLay0=true
 |.bw,_=>rfl|.bl _,_=>rfl|.int _,_=>rfl|.str _,h=>h|.tup l,h=>gF l h|.lst l,h=>gF l h|.dct,h=>by cases h
theorem gF:∀ a:List D,b9 a=true->VL (iw a)=true
 |[],_=>rfl
 |x::r,h=>by
  simp only[b9,Á] at h;simp only[iw,VL,iG x h.1,gF r h.2,Bool.and_self]
end
mutual
theorem ng:∀ a:D,(pP a).depth=deep a
 |.bw=>rfl|.bl _=>rfl|.int _=>rfl|.str _=>rfl|.tup l=>congrArg (· + 1) (oq l)|.lst l=>congrArg (· + 1) (oq l)|.dct=>rfl
theorem oq:∀ a:List D,Sh (iw a)=cy a
 |[]=>rfl
 |x::r=>by
  simp only[iw,Sh,cy];rw[ng x,oq r]
end
def ou(h:û)(u:Ä)(d:D):Prop:=dg d=true/\∃ as,Reads h u (pP d) as
def bj(h:û)(us:List Ä)(ds:List D):Prop:=b9 ds=true/\∃ as,WY h us (iw ds) as
section
variable {X:Cx}{aa:List (Ë × Obj)}{σ:L2.St}{H:Hp}{s:É}
mutual
theorem cV(I:Inv X aa σ H s):∀ {d:D}{v:V}{u:Ä},Hd X.K H d v->RelV v u->dg d=true->∃ as,Reads s.heap u (pP d) as
 |.bw,_,_,h,r,_=>by cases h.BK;cases r;exact⟨_,.none⟩
 |.bl b,_,_,h,r,_=>by cases h.vN;cases r;exact⟨_,.bool b⟩
 |.int i,_,_,h,r,_=>by cases h.bH;obtain⟨t,rfl⟩:=r;exact⟨_,.int i t⟩
 |.str x,_,_,h,r,_=>by cases h.HJ;obtain⟨t,rfl⟩:=r;exact⟨_,.str x t⟩
 |.tup l,_,_,h,r,f=>by
  obtain⟨a,xs,rfl,h1,h2⟩:=h.dz;cases r;obtain⟨ai,rv,⟨o,e1,e2,n,e3⟩,_⟩:=I.tuple h1;obtain⟨as,ra⟩:=kC I h2 rv f;exact⟨_,.tuple e1 e2 e3 (by simpa using ra)⟩
 |.lst l,_,_,h,r,f=>by
  obtain⟨a,xs,rfl,h1,h2⟩:=h.iF;cases r;obtain⟨ai,rv,⟨o,n,e1,e2,_,e3⟩,_⟩:=I.list h1.sq;obtain⟨as,ra⟩:=kC I h2 rv f;exact⟨_,.list e1 e2 e3 (by simpa using ra)⟩
 |.dct,_,_,_,_,f=>by cases f
theorem kC(I:Inv X aa σ H s):∀ {ds:List D}{vs:List V}{us:List Ä},aJ X.K H ds vs->Vals vs us->b9 ds=true->∃ as,WY s.heap us (iw ds) as
 |[],_,_,h,r,_=>by cases h.bz;cases r;exact⟨_,.nil⟩
 |d::ds,_,_,h,r,f=>by
  obtain⟨x,xs,rfl,h1,h2⟩:=h.aH;cases r with
  |cons r1 r2 =>
   simp only[b9,Á] at f;obtain⟨_,a1⟩:=cV I h1 r1 f.1;obtain⟨_,a2⟩:=kC I h2 r2 f.2;exact⟨_,.cons a1 a2⟩
end
end
theorem eT(h:kn d=true):dg d=true/\Xw (pP d)=true:=by
 unfold kn at h;rw[Á,decide_eq_true_eq] at h;refine⟨h.1,?_⟩;unfold Xw;rw[iG d h.1,ng,Pw,decide_eq_true_eq];omega
section
variable {X:Cx}
theorem HK(h:Nb a b=some c):∃ l,a=.tup l/\b=.tup []/\c=l.isEmpty:=by
 unfold Nb at h;split at h
 ·cases h;exact⟨_,rfl,rfl,rfl⟩
 ·cases h
theorem HL(hu:X.A.units + 64 < PM):eM X (c0 .Eq) (om X.K λa b=>(eqQ a b).map λc=>.d (.bl c)):=by
 intro aa s σ H x y v u Q I rx ry h;obtain⟨zA,z,dx,dy,w,st,hx,hy,e,q⟩:=h;unfold eqQ at e;dsimp only at e;split at e
 ·rename_i ok;cases e;rw[Á] at ok;obtain⟨f1,s1⟩:=eT ok.1;obtain⟨f2,s2⟩:=eT ok.2;obtain⟨as,r1⟩:=cV I (hx.same (ag zA H)) rx f1;obtain⟨bs,r2⟩:=cV I (hy.same (ag zA H)) ry f2;exact eq_dataH r1 r2 s1 s2 hu ⟨.bl _,H,I,rfl,by rw[oo dx dy f1 f2];exact q _ _ (ae.refl H) bQ⟩
 ·obtain⟨c,h1,h2⟩:=Ï.mp e;obtain⟨l,rfl,rfl,rfl⟩:=HK h1;subst h2;obtain⟨a,xs,rfl,k1,k2⟩:=hx.dz;obtain⟨b,ys,rfl,k3,k4⟩:=hy.dz;cases k4.bz;cases rx;cases ry;obtain⟨ai,rv,ht,_⟩:=I.tuple ((ag zA H).il k1);obtain⟨iu,ru,hu2,_⟩:=I.tuple ((ag zA H).il k3);cases ru;have e1:ai.length=l.length:=by rw[← rv.length,k2.length]
  refine SeqAt.eq_tupleAt (e:=λ_=>true) ht hu2 ∅ (λj _ h2=>absurd h2 (Uo j)) ⟨.bl _,H,I,rfl,?_⟩
  have e2:((é (min ai.toArray.size ([]:List Ä).toArray.size)).all (λ_=>true)&&ai.toArray.size == ([]:List Ä).toArray.size)=l.isEmpty:=by
   simp only[ß,PK,Nat.min_zero,List.range_zero,XR,Pw,e1];cases l <;> rfl
  rw[e2];exact q _ _ (ae.refl H) bQ
theorem HM(hu:X.A.units + 64 < PM):eM X (c0 .NotEq) (om X.K λa b=>(HH a b).map λc=>.d (.bl !c)):=by
 intro aa s σ H x y v u Q I rx ry h;obtain⟨zA,z,dx,dy,w,st,hx,hy,e,q⟩:=h;unfold HH at e;dsimp only at e;split at e
 ·rename_i ok;cases e;rw[Á] at ok;obtain⟨f1,s1⟩:=eT ok.1;obtain⟨f2,s2⟩:=eT ok.2;obtain⟨as,r1⟩:=cV I (hx.same (ag zA H)) rx f1;obtain⟨bs,r2⟩:=cV I (hy.same (ag zA H)) ry f2;exact ne_dataH r1 r2 s1 s2 hu ⟨.bl _,H,I,rfl,by rw[oo dx dy f1 f2];exact q _ _ (ae.refl H) bQ⟩
 ·cases e
theorem EU(hu:X.A.units + 64 < PM):eM X (c0 .NotEq) (om X.K λa b=>(Nc a b).map λc=>.d (.bl c)):=by
 intro aa s σ H x y v u Q I rx ry h;obtain⟨zA,z,dx,dy,w,st,hx,hy,e,q⟩:=h;unfold Nc at e;dsimp only at e;split at e
 ·cases e;unfold Hd at hx;obtain⟨a,kvs,rfl,h1⟩:=hx;obtain⟨b,xs,rfl,h2,_⟩:=hy.dz;exact Es hu aa s σ H _ _ v u Q I rx ry ⟨a,b,kvs,xs,rfl,rfl,(eS h1).1,(ag zA H).il h2,q _ _ (ae.refl H) bQ⟩
 ·refine HM hu aa s σ H _ _ v u Q I rx ry ⟨zA,z,dx,dy,w,st,hx,hy,?_,q⟩;rw[← e,WG];rfl
end
theorem nh(h:zL l=true):b9 l=true/\cy l<=39:=by
 unfold zL at h;rw[Á,decide_eq_true_eq] at h;exact h
theorem oy(h:kn d=true):deep d<=40:=by
 unfold kn at h;rw[Á,decide_eq_true_eq] at h;exact h.2
theorem kD(x:D)(fx:dg x=true):∀ l:List D,b9 l=true->((iw l).any λy=>Ub y (pP x))=memD x l
 |[],_=>rfl
 |y::r,h=>by
  simp only[b9,Á] at h;show(Ub (pP y) (pP x) || (iw r).any λy=>Ub y (pP x))=(tG y x || memD x r);rw[oo y x h.1 fx,kD x fx r h.2]
section
variable {X:Cx}
theorem ni(h:rT x l=some b):kn x=true/\zL l=true/\b=memD x l:=by
 unfold rT at h;split at h
 ·rename_i ok;rw[Á] at ok;cases h;exact⟨ok.1,ok.2,rfl⟩
 ·cases h
theorem room_in{A:p8}(hu:A.units + 64 < PM){l:List D}{x:D}(h:kn x=true):A.units + 1 + min (Sh (iw l)) (pP x).depth < cLine:=by
 have h1:=oy h;have h2:min (Sh (iw l)) (pP x).depth<=(pP x).depth:=W2 _ _;have h3:=ng x;omega
theorem EV(hu:X.A.units + 64 < PM):eM X (c0 .In) (om X.K λa b=>(ez .mem a b).map λc=>.d (.bl c)):=by
 intro aa s σ H x y v u Q I rx ry h;obtain⟨zA,z,dx,dy,w,st,hx,hy,e,q⟩:=h;cases dy with
 |tup l =>
  obtain⟨b,e1,e2⟩:=Ï.mp e;subst e2;obtain⟨o1,o2,rfl⟩:=ni e1;obtain⟨f2,_⟩:=nh o2;obtain⟨f1,_⟩:=eT o1;obtain⟨as,r1⟩:=cV I (hx.same (ag zA H)) rx f1;obtain⟨bs,r2⟩:=cV I (hy.same (ag zA H)) ry (by simpa [dg] using f2)
  exact SeqAt.in_tuple_reads r2 r1 (gF l f2) (iG dx f1) (room_in hu o1) ⟨.bl _,H,I,rfl,by rw[kD dx f1 l f2];exact q _ _ (ae.refl H) bQ⟩
 |lst l =>
  obtain⟨b,e1,e2⟩:=Ï.mp e;subst e2;obtain⟨o1,o2,rfl⟩:=ni e1;obtain⟨f2,_⟩:=nh o2;obtain⟨f1,_⟩:=eT o1;obtain⟨as,r1⟩:=cV I (hx.same (ag zA H)) rx f1;obtain⟨bs,r2⟩:=cV I (hy.same (ag zA H)) ry (by simpa [dg] using f2)
  exact SeqAt.in_list_reads r2 r1 (gF l f2) (iG dx f1) (room_in hu o1) ⟨.bl _,H,I,rfl,by rw[kD dx f1 l f2];exact q _ _ (ae.refl H) bQ⟩
 |_=>cases e
theorem BO(hu:X.A.units + 64 < PM):eM X (c0 .NotIn) (om X.K λa b=>(ez .nmem a b).map λc=>.d (.bl c)):=by
 intro aa s σ H x y v u Q I rx ry h;obtain⟨zA,z,dx,dy,w,st,hx,hy,e,q⟩:=h;cases dy with
 |tup l =>
  obtain⟨b,e1,e2⟩:=Ï.mp e;subst e2;obtain⟨b',e3,rfl⟩:=Ï.mp e1;obtain⟨o1,o2,rfl⟩:=ni e3;obtain⟨f2,_⟩:=nh o2;obtain⟨f1,_⟩:=eT o1;obtain⟨as,r1⟩:=cV I (hx.same (ag zA H)) rx f1;obtain⟨bs,r2⟩:=cV I (hy.same (ag zA H)) ry (by simpa [dg] using f2)
  exact SeqAt.notIn_tuple_reads r2 r1 (gF l f2) (iG dx f1) (room_in hu o1) ⟨.bl _,H,I,rfl,by rw[kD dx f1 l f2];exact q _ _ (ae.refl H) bQ⟩
 |lst l =>
  obtain⟨b,e1,e2⟩:=Ï.mp e;subst e2;obtain⟨b',e3,rfl⟩:=Ï.mp e1;obtain⟨o1,o2,rfl⟩:=ni e3;obtain⟨f2,_⟩:=nh o2;obtain⟨f1,_⟩:=eT o1;obtain⟨as,r1⟩:=cV I (hx.same (ag zA H)) rx f1;obtain⟨bs,r2⟩:=cV I (hy.same (ag zA H)) ry (by simpa [dg] using f2)
  exact SeqAt.notIn_list_reads r2 r1 (gF l f2) (iG dx f1) (room_in hu o1) ⟨.bl _,H,I,rfl,by rw[kD dx f1 l f2];exact q _ _ (ae.refl H) bQ⟩
 |_=>cases e
end
end Q
namespace Q
open PySem L2 PySem.Spec PyProof.Rows
variable [TB:Tb]
def HN(A:p8)(s:É)(v u:Ä)(b:Bool):Prop:=∀ (P:í) (w:ü) (E:Ä->É->Prop) (Q:Ä->É->Prop),Q (.bool b) s->Ú (Ù P w) A (WT .Lt v u) Q E s
section
open PySem.SeqAt
open PySem.AutoSeq1 (wpAny_loadPart')
open PySem.MeetsSeq PySem.MeetsSeq2 PySem.MeetsSeq3
inductive Lx (A:Around) (s:Shared):List Value->List Value->Bool->Prop
 |nn:Lx A s [] [] false
 |nc {u us}:Lx A s [] (u::us) true
 |cn {v vs}:Lx A s (v::vs) [] false
 |eq {v u vs us b}:EqAt A s v u true->Lx A s vs us b->Lx A s (v::vs) (u::us) b
 |ne {v u vs us b}:EqAt A s v u false->HN A s v u b->Lx A s (v::vs) (u::us) b
theorem my(l b:Ë)(items items2:Array Ä)(n n2:Nat)(dd dd2:Option Ë)(sl sl2:Array (Option Ä))(c:Bool) :
  UM (Ra.«tuple.__lt__» ⟨[.ref l,.ref b],[]⟩)
   (λA R s=>s.heap.get? l=some { cls:=.type "tuple",dict:=dd,data:=.seq items n,slots:=sl }/\s.heap.get? b=some { cls:=.type "tuple",dict:=dd2,data:=.seq items2 n2,slots:=sl2 } /\
    Lx A.in1 s items.toList items2.toList c/\R (.ok (.ret (.bool c))) s) :=
 .of_wp λprog w A R s h=>by
  obtain⟨hp,g,d,tk,os⟩:=s;obtain⟨hl,hb,hx,h⟩:=h;have f2:=Ud
  wp_walk using PH hl,PH hb,X0 _ (λrest b s'=>b.1=none/\s'=⟨hp,g,d,tk,os⟩/\∃ (vs ws:List Ä),rest=vs.zip ws /\
   vs.length + items2.size=ws.length + items.size/\Lx A.in1 ⟨hp,g,d,tk,os⟩ vs ws c) _
  case turn =>
   rintro ⟨y,x⟩ rest b s' ⟨hb',rfl,vs,ws,hz,hlen,hR⟩;cases hR with
   |nn=>rw[Tp] at hz;cases hz
   |nc=>rw[Tp] at hz;cases hz
   |cn=>rw[V2] at hz;cases hz
   |eq he hr =>
    rw[QZ] at hz;injection hz with hyx hrest;injection hyx with hy hx';subst hy hx';simp only[æ] at hlen;refine À (he prog w _ _ ?_)
    wp_walk
    exact⟨rfl,rfl,_,_,hrest,by omega,hr⟩
   |ne he hr =>
    rw[QZ] at hz;injection hz with hyx hrest;injection hyx with hy hx';subst hy hx';refine À (he prog w _ _ ?_);have hri:=λE Q q=>hr prog w E Q q
    wp_walk using hri
    exact⟨_,rfl,by simpa using h⟩
  case fin =>
   rintro ⟨b1,b2⟩ s' ⟨hb',rfl,vs,ws,hz,hlen,hR⟩;simp only at hb';subst hb';have hv:c=decide (items.size < items2.size):=by
    cases hR with
    |nn=>simp only[PK] at hlen;exact(decide_eq_false ∅).symm|nc=>simp only[PK,æ] at hlen;exact(decide_eq_true ∅).symm|cn=>simp only[PK,æ] at hlen;exact(decide_eq_false ∅).symm|eq he hr=>rw[QZ] at hz;cases hz
    |ne he hr=>rw[QZ] at hz;cases hz
   rw[hv] at h
   wp_walk
   exact⟨_,rfl,by simpa [Tz] using h⟩
  case h =>
   exact⟨rfl,rfl,items.toList,items2.toList,rfl,by simp;omega,hx⟩
end
theorem zR(hl:SA s.heap l i1)(hb:SA s.heap b i2)(hu:A.units < PM)(hx:Lx A.in1 s i1.toList i2.toList c):HN A s (.ref l) (.ref b) c:=by
 intro P w E Q h;obtain⟨⟨cls,dd,data,sl⟩,ho,hc,n,hd⟩:=id hl;obtain⟨⟨cls2,dd2,XG,sl2⟩,ho2,hc2,n2,hd2⟩:=id hb;simp only at hc hd hc2 hd2;subst hc hd hc2 hd2;exact Wc (op:=.Lt) ⟨_,ho,rfl⟩ ⟨_,ho2,rfl⟩ Sg UG (Uw _ _) (my l b i1 i2 n n2 dd dd2 sl sl2 c)
  ⟨ho,ho2,hx,show QD c≠Sx/\Q (.bool c) s from⟨(λx=>nomatch x),h⟩⟩ hu
theorem Gk(ha:ou s.heap v a)(hb:ou s.heap u b)(hu:A.units + deep a < PM):Yc A s v u (tG a b):=by
 obtain⟨f1,as,r1⟩:=ha;obtain⟨f2,bs,r2⟩:=hb;rw[← oo a b f1 f2];have h:=ng a;have h2:min (pP a).depth (pP b).depth<=(pP a).depth:=Nat.min_le_left _ _;exact SeqAt.eqAt_reads (pP a) (pP b) A s v u as bs r1 r2 (iG a f1) (iG b f2) ∅
theorem bj.aH(x:bj h us (d::ds)):∃ u r,us=u::r/\ou h u d/\bj h r ds:=by
 obtain⟨f,as,r⟩:=x;simp only[b9,Á] at f;cases r with
 |cons r1 r2=>exact⟨_,_,rfl,⟨f.1,_,r1⟩,f.2,_,r2⟩
theorem bj.bz(x:bj h us []):us=[]:=by
 obtain⟨_,as,r⟩:=x;cases r;rfl
theorem in1_units(A:p8):A.in1.units=A.units + 1:=rfl
theorem BP:∀ (n:Nat) {A:p8}{s:É},
  (∀ (a b:D) (v u:Ä) (c:Bool),deep a<=n->ou s.heap v a->ou s.heap u b->wA a b=some c->A.units + n < PM->HN A s v u c) /\
  (∀ (a b:List D) (vs us:List Ä) (c:Bool),cy a < n->bj s.heap vs a->bj s.heap us b->n8 a b=some c->A.units + n < PM->Lx A.in1 s vs us c):=by
 intro n
 induction n with
 |zero =>
  intro A s;refine⟨λa b v u c hd ha hb e hu=>?_,λa b vs us c hd=>absurd hd (Uo _)⟩;cases a with
  |int i =>
   cases b with
   |int j =>
    cases e;obtain⟨_,_,r1⟩:=ha;obtain⟨_,_,r2⟩:=hb;cases r1;cases r2;exact λP w E Q h=>HT.tN A s i _ j _ P w E Q h
   |_=>cases e
  |tup l=>simp[deep] at hd|_=>cases e
 |succ n ih =>
  have rows:∀ {A:p8}{s:É} (a b:List D) (vs us:List Ä) (c:Bool),cy a < n + 1->bj s.heap vs a->bj s.heap us b->n8 a b=some c->A.units + (n + 1) < PM->Lx A.in1 s vs us c:=by
   intro A s a
   induction a with
   |nil =>
    intro b vs us c _ ha hb e hu;cases ha.bz;cases b with
    |nil=>cases hb.bz;cases e;exact .nn
    |cons y q=>obtain⟨u,r,rfl,_⟩:=hb.aH;cases e;exact .nc
   |cons x r ihr =>
    intro b vs us c hd ha hb e hu;obtain⟨v,vs',rfl,a1,a2⟩:=ha.aH;cases b with
    |nil=>cases hb.bz;cases e;exact .cn
    |cons y q =>
     obtain⟨u,us',rfl,b1,b2⟩:=hb.aH;simp only[cy] at hd;have d1:deep x<=n:=Nat.le_of_lt_succ (Q4 (Xf _ _) hd);have d2:cy r < n + 1:=Q4 (W4 _ _) hd;have hu1:A.in1.units + n < cLine:=by rw[in1_units];omega
     have he:=Gk (A:=A.in1) a1 b1 ∅
     simp only[n8] at e;cases hq:tG x y with
     |true =>
      rw[hq] at he e;exact .eq he (ihr q vs' us' c d2 a2 b2 (by simpa using e) hu)
     |false =>
      rw[hq] at he e;exact .ne he ((ih (A:=A.in1) (s:=s)).1 x y v u c d1 a1 b1 (by simpa using e) hu1)
  intro A s;refine⟨λa b v u c hd ha hb e hu=>?_,rows⟩;cases a with
  |int i =>
   cases b with
   |int j =>
    cases e;obtain⟨_,_,r1⟩:=ha;obtain⟨_,_,r2⟩:=hb;cases r1;cases r2;exact λP w E Q h=>HT.tN A s i _ j _ P w E Q h
   |_=>cases e
  |tup l =>
   cases b with
   |tup q =>
    obtain⟨f1,as,r1⟩:=ha;obtain⟨f2,bs,r2⟩:=hb;simp only[deep] at hd;cases r1 with
    |tuple k1 k2 k3 k4 =>
     cases r2 with
     |tuple m1 m2 m3 m4 =>
      exact zR ⟨_,k1,k2,_,k3⟩ ⟨_,m1,m2,_,m3⟩ ∅ (rows l q _ _ c ∅ ⟨by simpa [dg] using f1,_,k4⟩ ⟨by simpa [dg] using f2,_,m4⟩ e hu)
   |_=>cases e
  |_=>cases e
section
variable {X:Cx}
theorem HP(h:Ml a b=some c):kn a=true/\kn b=true/\wA a b=some c:=by
 unfold Ml at h;split at h
 ·rename_i ok;rw[Á] at ok;exact⟨ok.1,ok.2,h⟩
 ·cases h
theorem HQ(hu:X.A.units + 64 < PM):eM X (c0 .Lt) (om X.K λa b=>(ez .lt a b).map λc=>.d (.bl c)):=by
 intro aa s σ H x y v u Q I rx ry h;obtain⟨zA,z,dx,dy,w,st,hx,hy,e,q⟩:=h;obtain⟨b,e1,e2⟩:=Ï.mp e;subst e2;obtain⟨o1,o2,e3⟩:=HP (show Ml dx dy=some b from e1);obtain⟨f1,_⟩:=eT o1;obtain⟨f2,_⟩:=eT o2;obtain⟨as,r1⟩:=cV I (hx.same (ag zA H)) rx f1;obtain⟨bs,r2⟩:=cV I (hy.same (ag zA H)) ry f2;exact(BP 40 (A:=X.A) (s:=s)).1 dx dy v u b (oy o1) ⟨f1,as,r1⟩ ⟨f2,bs,r2⟩ e3 ∅ _ _ _ _ ⟨.bl b,H,I,rfl,q _ _ (ae.refl H) bQ⟩
theorem kE{K:Â}{H:Hp}:∀ {l:List D}{ns:List Int}{vs:List V},fY l=some ns->aJ K H l vs->vs=ns.map V.int/\l=ns.map D.int
 |[],_,_,e,h=>by cases e;rw[h.bz];exact⟨rfl,rfl⟩
 |.int i::r,_,_,e,h=>by
  obtain⟨ms,e1,rfl⟩:=Ï.mp e;obtain⟨x,xs,rfl,h1,h2⟩:=h.aH;cases h1.bH;obtain⟨rfl,rfl⟩:=kE e1 h2;exact⟨rfl,rfl⟩
 |.bw::_,_,_,e,_=>by cases e
 |.bl _::_,_,_,e,_=>by cases e
 |.str _::_,_,_,e,_=>by cases e
 |.tup _::_,_,_,e,_=>by cases e
 |.lst _::_,_,_,e,_=>by cases e
 |.dct::_,_,_,e,_=>by cases e
theorem HR(hu:X.A.units + 64 < PM):eM X (c0 .LtE) (om X.K λa b=>(ez .le a b).map λc=>.d (.bl c)):=by
 intro aa s σ H x y v u Q I rx ry h;obtain⟨zA,z,dx,dy,w,st,hx,hy,e,q⟩:=h;cases dx with
 |int i =>
  cases dy with
  |int j =>
   cases e;cases hx.bH;cases hy.bH;exact Kc aa s σ H _ _ v u Q I rx ry ⟨i,j,rfl,rfl,q _ _ (ae.refl H) bQ⟩
  |_=>cases e
 |tup a =>
  cases dy with
  |tup b =>
   obtain⟨c,e1,e2⟩:=Ï.mp e;subst e2;obtain⟨ns,n1,e1⟩:=Ñ.mp (show(fY a).bind _=_ from e1);obtain⟨ms,n2,rfl⟩:=Ï.mp e1;obtain⟨p,xs,rfl,h1,h2⟩:=hx.dz;obtain⟨p',ys,rfl,h3,h4⟩:=hy.dz;obtain⟨rfl,_⟩:=kE n1 h2;obtain⟨rfl,_⟩:=kE n2 h4;exact Hz ∅ aa s σ H _ _ v u Q I rx ry ⟨p,p',ns,ms,rfl,rfl,(ag zA H).il h1,(ag zA H).il h3,q _ _ (ae.refl H) bQ⟩
  |_=>cases e
 |_=>cases e
theorem HS:eM X (c0 .Gt) (om X.K λa b=>(ez .gt a b).map λc=>.d (.bl c)):=by
 intro aa s σ H x y v u Q I rx ry h;obtain⟨zA,z,dx,dy,w,st,hx,hy,e,q⟩:=h;cases dx with
 |int i =>
  cases dy with
  |int j =>
   cases e;cases hx.bH;cases hy.bH;exact Kd aa s σ H _ _ v u Q I rx ry ⟨i,j,rfl,rfl,q _ _ (ae.refl H) bQ⟩
  |_=>cases e
 |_=>cases e
theorem HU:eM X (c0 .GtE) (om X.K λa b=>(ez .ge a b).map λc=>.d (.bl c)):=by
 intro aa s σ H x y v u Q I rx ry h;obtain⟨zA,z,dx,dy,w,st,hx,hy,e,q⟩:=h;cases dx with
 |int i =>
  cases dy with
  |int j =>
   cases e;cases hx.bH;cases hy.bH;exact Kf aa s σ H _ _ v u Q I rx ry ⟨i,j,rfl,rfl,q _ _ (ae.refl H) bQ⟩
  |_=>cases e
 |_=>cases e
theorem uD{K:Â}{H:Hp}{d:D}{v:V}(h:Hd K H d v):decide (v=.bw)=n9 d:=by
 cases d with
 |bw=>cases h.BK;rfl
 |bl b=>cases h.vN;rfl
 |int i=>cases h.bH;rfl
 |str x=>cases h.HJ;rfl
 |tup l=>obtain⟨a,xs,rfl,_⟩:=h.dz;rfl
 |lst l=>obtain⟨a,xs,rfl,_⟩:=h.iF;rfl
 |dct=>unfold Hd at h;obtain⟨a,kvs,rfl,_⟩:=h;rfl
theorem HV:eM X (c0 .Is) (om X.K λa b=>(ez .is a b).map λc=>.d (.bl c)):=by
 intro aa s σ H x y v u Q I rx ry h;obtain⟨zA,z,dx,dy,w,st,hx,hy,e,q⟩:=h;cases dy with
 |bl b =>
  cases dx with
  |bl a =>
   cases e;cases hx.vN;cases hy.vN;exact HA aa s σ H _ _ v u Q I rx ry ⟨a,b,rfl,rfl,q _ _ (ae.refl H) bQ⟩
  |_=>cases e
 |bw =>
  have e':some (S.d (.bl (n9 dx)))=some w:=by cases dx <;> exact e
  cases e';cases hy.BK;refine Hh aa s σ H _ _ v u Q I rx ry ⟨rfl,?_⟩;rw[uD hx];exact q _ _ (ae.refl H) bQ
 |_=>cases dx <;> cases e
theorem BQ:eM X (c0 .IsNot) (om X.K λa b=>(ez .isnt a b).map λc=>.d (.bl c)):=by
 intro aa s σ H x y v u Q I rx ry h;obtain⟨zA,z,dx,dy,w,st,hx,hy,e,q⟩:=h;cases dy with
 |bl b =>
  cases dx with
  |bl a =>
   cases e;cases hx.vN;cases hy.vN;exact zB aa s σ H _ _ v u Q I rx ry ⟨a,b,rfl,rfl,q _ _ (ae.refl H) bQ⟩
  |_=>cases e
 |bw =>
  have e':some (S.d (.bl (!n9 dx)))=some w:=by cases dx <;> exact e
  cases e';cases hy.BK;refine DY aa s σ H _ _ v u Q I rx ry ⟨rfl,?_⟩;rw[uD hx];exact q _ _ (ae.refl H) bQ
 |_=>cases dx <;> cases e
def EW:Cm->UO
 |.eq=>.Eq | .ne=>.NotEq | .lt=>.Lt | .le=>.LtE | .gt=>.Gt | .ge=>.GtE | .is=>.Is | .isnt=>.IsNot | .mem=>.In | .nmem=>.NotIn
theorem zS(hu:X.A.units + 64 < PM)(o:Cm):eM X (c0 (EW o)) (om X.K λa b=>(ez o a b).map λc=>.d (.bl c)):=by
 cases o
 ·exact HL hu
 ·exact EU hu
 ·exact HQ hu
 ·exact HR hu
 ·exact HS
 ·exact HU
 ·exact HV
 ·exact BQ
 ·exact EV hu
 ·exact BO hu
theorem aJ.one{K:Â}{H:Hp}{d:D}{xs:List V}(h:aJ K H [d] xs):∃ x,xs=[x]/\Hd K H d x:=by
 obtain⟨x,r,rfl,h1,h2⟩:=h.aH;rw[h2.bz];exact⟨x,rfl,h1⟩
theorem aJ.two{K:Â}{H:Hp}{d e:D}{xs:List V}(h:aJ K H [d,e] xs):∃ x y,xs=[x,y]/\Hd K H d x/\Hd K H e y:=by
 obtain⟨x,r,rfl,h1,h2⟩:=h.aH;obtain⟨y,rfl,h3⟩:=h2.one;exact⟨x,y,rfl,h1,h3⟩
theorem r6{K:Â}{zA:Option Ë}{H:Hp}{d:D}{l:List D}{v:V}(h:Hd K (hz zA H) d v)(e:jG d=some l):∃ a xs,v=.ref a/\(jj K H a xs∨cI K H a xs)/\aJ K (hz zA H) l xs:=by
 cases d with
 |tup m =>
  cases e;obtain⟨a,xs,rfl,h1,h2⟩:=h.dz;exact⟨a,xs,rfl,.inr ((ag zA H).il h1),h2⟩
 |lst m =>
  cases e;obtain⟨a,xs,rfl,h1,h2⟩:=h.iF;exact⟨a,xs,rfl,.inl (h1.same (ag zA H)).sq,h2⟩
 |_=>cases e
theorem HW:bP X (.builtin "len") (zP X.K (mR .len)):=by
 intro aa s σ H xs us Q I r h;obtain⟨zA,z,ds,w,st,hx,e,q⟩:=h
 match ds,e with
 |[d],e =>
  obtain⟨l,e1,rfl⟩:=Ï.mp (show(jG d).map _=some w from e);obtain⟨x,rfl,h1⟩:=hx.one;obtain⟨a,ys,rfl,h2,h3⟩:=r6 h1 e1;exact rF aa s σ H _ us Q I r ⟨a,ys,rfl,h2,by rw[h3.length];exact q _ _ (ae.refl H) cU⟩
theorem BR:bP X (.type "tuple") (zP X.K (mR .tuple)):=by
 intro aa s σ H xs us Q I r h;obtain⟨zA,z,ds,w,st,hx,e,q⟩:=h
 match ds,e with
 |[d],e =>
  obtain⟨l,e1,rfl⟩:=Ï.mp (show(jG d).map _=some w from e);obtain⟨x,rfl,h1⟩:=hx.one;obtain⟨a,ys,rfl,h2,h3⟩:=r6 h1 e1;refine pV aa s σ H _ us Q I r ⟨a,ys,rfl,?_⟩;rcases h2 with h2 | h2
  ·refine .inl ⟨h2,λp hp=>q _ _ (ae.new _ hp) (oj (Hd.tup ((st.same (ae.new _ hp)).uz (cI.of a7)) (h3.same (dQ (ae.new _ hp)))))⟩
  ·exact .inr ⟨h2,q _ _ (ae.refl H) (oj (Hd.tup (st.uz h2) h3))⟩
theorem EX:bP X (.type "list") (zP X.K (mR .list)):=by
 intro aa s σ H xs us Q I r h;obtain⟨zA,z,ds,w,st,hx,e,q⟩:=h
 match ds,e with
 |[d],e =>
  obtain⟨l,e1,rfl⟩:=Ï.mp (show(jG d).map _=some w from e);obtain⟨x,rfl,h1⟩:=hx.one;obtain⟨a,ys,rfl,h2,h3⟩:=r6 h1 e1;exact rG aa s σ H _ us Q I r ⟨a,ys,rfl,h2,λp hp=>q _ _ (ae.new _ hp) (fE st h3 hp)⟩
theorem wD{K:Â}{H:Hp}:∀ {l:List D}{bs:List Bool}{vs:List V},l.mapM ll=some bs->aJ K H l vs->vs=bs.map V.bl
 |[],_,_,e,h=>by simp at e;subst e;rw[h.bz];rfl
 |x::r,_,_,e,h=>by
  simp only[RK,bind,Ñ] at e;obtain⟨b,e1,bs,e2,e3⟩:=e;cases e3;obtain⟨y,ys,rfl,h1,h2⟩:=h.aH;cases x with
  |bl c=>cases e1;cases h1.vN;rw[wD e2 h2];rfl
  |_=>cases e1
theorem HX(hc:X.calm=true):bP X (.builtin "all") (zP X.K (mR .all)):=by
 intro aa s σ H xs us Q I r h;obtain⟨zA,z,ds,w,st,hx,e,q⟩:=h
 match ds,e with
 |[.lst l],e =>
  obtain⟨bs,e1,rfl⟩:=Ï.mp (show(l.mapM ll).map _=some w from e);obtain⟨x,rfl,h1⟩:=hx.one;obtain⟨a,ys,rfl,h2,h3⟩:=h1.iF;rw[wD e1 h3] at h2;exact Bg hc aa s σ H _ us Q I r ⟨a,bs,rfl,(h2.same (ag zA H)).sq,q _ _ (ae.refl H) bQ⟩
theorem uE:∀ {ns:List Int}{vs:List Ä},Vals (ns.map V.int) vs->∃ xs:List (Int × Tok),vs=xs.map (λp=>.int p.1 p.2)/\xs.map (·.1)=ns
 |[],_,h=>by cases h;exact⟨[],rfl,rfl⟩
 |n::r,_,h=>by
  cases h with
  |cons h1 h2 =>
   obtain⟨t,rfl⟩:=h1;obtain⟨xs,rfl,e⟩:=uE h2;exact⟨(n,t)::xs,rfl,by rw[Qw,e]⟩
theorem BS(hc:X.calm=true):bP X (.builtin "sum") (λxs H Q=>∃ (a:Ë) (ns:List Int),xs=[.ref a]/\(jj X.K H a (ns.map V.int)∨cI X.K H a (ns.map V.int))/\Q (.int ns.sum) H):=by
 intro aa s σ H xs us Q I r h;obtain⟨a,ns,rfl,hq,q⟩:=h;obtain⟨u,rfl,rx⟩:=vals1 r;cases rx;have fin:∀ {ai:List Ä},Vals (ns.map V.int) ai->∃ xs:Array (Int × Tok),ai.toArray=intItems xs/\preSum (numAt xs) xs.size=ns.sum:=λ{ai} rv=>by
  obtain⟨xs,rfl,e⟩:=uE rv;exact⟨xs.toArray,by simp[intItems],by rw[preSum_eq,Qe (by simp)];simp[e]⟩
 rcases hq with hq | hq
 ·obtain⟨ai,rv,p,_⟩:=I.list hq;obtain⟨xs,e1,e2⟩:=fin rv;exact sum_intListG (I.ok.hd hc) (e1 ▸ p.isList) λh' tk t' k=>⟨.int ns.sum,H,I.kept k,by rw[e2];exact⟨_,rfl⟩,q⟩
 ·obtain⟨ai,rv,p,_⟩:=I.tuple hq;obtain⟨xs,e1,e2⟩:=fin rv;exact W.ktm_sumG (I.ok.hd hc) (e1 ▸ p) λh' tk t' k=>⟨.int ns.sum,H,I.kept k,by rw[e2];exact⟨_,rfl⟩,q⟩
theorem BU{K:Â}{H:Hp}:∀ {l:List D}{i:Int}{vs:List V},rW l=some i->aJ K H l vs->∃ ns:List Int,vs=ns.map V.int/\ns.sum=i
 |[],_,_,e,h=>by cases e;rw[h.bz];exact⟨[],rfl,rfl⟩
 |.int j::r,_,_,e,h=>by
  obtain⟨k,e1,rfl⟩:=Ï.mp (show(rW r).map _=_ from e);obtain⟨v,q,rfl,h1,h2⟩:=h.aH;obtain⟨ns,rfl,e2⟩:=BU e1 h2;cases h1.bH;exact⟨j::ns,rfl,by rw[List.sum_cons,e2]⟩
theorem HY(hc:X.calm=true):bP X (.builtin "sum") (zP X.K (mR .sum)):=by
 intro aa s σ H xs us Q I r h;obtain⟨zA,z,ds,w,st,hx,e,q⟩:=h
 match ds,e with
 |[d],e =>
  obtain⟨i,e1,rfl⟩:=Ï.mp (show((jG d).bind rW).map _=some w from e);obtain⟨l,e2,e3⟩:=Ñ.mp e1;obtain⟨x,rfl,h1⟩:=hx.one;obtain⟨a,ys,rfl,h2,h3⟩:=r6 h1 e2;obtain⟨ns,rfl,rfl⟩:=BU e3 h3;exact BS hc aa s σ H _ us Q I r ⟨a,ns,rfl,h2,q _ _ (ae.refl H) (show Hd X.K (hz zA H) _ _ from Hd.int)⟩
theorem BV(hc:X.calm=true):bP X (.builtin "any") (λxs H Q=>∃ (a:Ë) (bs:List Bool),xs=[.ref a]/\jj X.K H a (bs.map V.bl)/\Q (.bl (bs.any id)) H):=by
 intro aa s σ H xs us Q I r h;obtain⟨a,bs,rfl,hq,q⟩:=h;obtain⟨u,rfl,rx⟩:=vals1 r;cases rx;obtain⟨ai,rv,pl,hz⟩:=I.list hq;have hlt:a < s.heap.objs.size:=by obtain⟨_,e,_⟩:=pl.isList;exact ë e
 have hlen:ai.length=bs.length:=by have:=rv.length;simpa using this.symm
 refine call_any_walk (Rp pl.isList ⟨_,_,_,_,_,_,λi=>(bs[i]?).getD false,rfl,Ul (by exact I.ok.hd hc) s.heap.objs.size a (â hlt) ai.toArray,⟨⟨_,Í _ rfl,rfl,rfl⟩,pl.isList.push _⟩,?_,?_⟩)
 ·intro i v s' Q' E' hP hQ;have hP':ai[i]?=some v:=by simpa using hP
  have hi:i < bs.length:=by rw[← hlen];exact(ï.mp hP').1
  obtain⟨v',hv',rv'⟩:=rv.get (i:=i) (x:=.bl bs[i]) (by simp[hi])
  rw[hP'] at hv';cases hv';cases (show v=QD _ from rv');exact OX (by simpa [hi] using hQ)
 ·intro h' tk kp;refine⟨.bl (bs.any id),H,I.kept λb o e=>kp b o (by simpa using â (ë e)) (Ã _ e),?_,q⟩
  show QD _=QD _;rw[ß,hlen]
  congr 1
  rw[O7,SX,SX];constructor
  ·rintro ⟨i,h1,h2⟩;have hi:i < bs.length:=ì.mp h1;exact⟨bs[i],Pb hi,by simpa [hi] using h2⟩
  ·rintro ⟨b,h1,h2⟩;obtain⟨i,hi,rfl⟩:=List.getElem_of_mem h1;exact⟨i,ì.mpr hi,by simpa [hi] using h2⟩
theorem HZ(hc:X.calm=true):bP X (.builtin "any") (zP X.K (mR .any)):=by
 intro aa s σ H xs us Q I r h;obtain⟨zA,z,ds,w,st,hx,e,q⟩:=h
 match ds,e with
 |[.lst l],e =>
  obtain⟨bs,e1,rfl⟩:=Ï.mp (show(l.mapM ll).map _=some w from e);obtain⟨x,rfl,h1⟩:=hx.one;obtain⟨a,ys,rfl,h2,h3⟩:=h1.iF;rw[wD e1 h3] at h2;exact BV hc aa s σ H _ us Q I r ⟨a,bs,rfl,(h2.same (ag zA H)).sq,q _ _ (ae.refl H) bQ⟩
theorem H9(hc:X.calm=true):bP X (.builtin "min") (zP X.K (mR .min)):=by
 intro aa s σ H xs us Q I r h;obtain⟨zA,z,ds,w,st,hx,e,q⟩:=h
 match ds,e with
 |[.int i,.int j],e =>
  cases e;obtain⟨x,y,rfl,h1,h2⟩:=hx.two;cases h1.bH;cases h2.bH;exact zk hc aa s σ H _ us Q I r ⟨i,j,rfl,q _ _ (ae.refl H) cU⟩
theorem Ia(hc:X.calm=true):bP X (.builtin "max") (zP X.K (mR .max)):=by
 intro aa s σ H xs us Q I r h;obtain⟨zA,z,ds,w,st,hx,e,q⟩:=h
 match ds,e with
 |[.int i,.int j],e =>
  cases e;obtain⟨x,y,rfl,h1,h2⟩:=hx.two;cases h1.bH;cases h2.bH;exact zj hc aa s σ H _ us Q I r ⟨i,j,rfl,q _ _ (ae.refl H) cU⟩
theorem Ib:bP X (.type "int") (zP X.K (mR .int)):=by
 intro aa s σ H xs us Q I r h;obtain⟨zA,z,ds,w,st,hx,e,q⟩:=h
 match ds,e with
 |[.int i],e =>
  cases e;obtain⟨x,rfl,h1⟩:=hx.one;cases h1.bH;exact qk aa s σ H _ us Q I r (.inl ⟨i,rfl,q _ _ (ae.refl H) cU⟩)
 |[.bl b],e =>
  cases e;obtain⟨x,rfl,h1⟩:=hx.one;cases h1.vN;exact qk aa s σ H _ us Q I r (.inr ⟨b,rfl,q _ _ (ae.refl H) cU⟩)
def zT:Ty->String
 |.int=>"int" | .bool=>"bool" | .tuple=>"tuple" | .list=>"list" | .str=>"str" | .seq=>""
theorem EY(t:Ty)(d:D)(h:t≠.seq):xW d.ty (zT t)=EI t d:=by
 cases t <;> cases d <;> first | rfl | (exact absurd rfl h) | decide
theorem BW(d:D):(xW d.ty "tuple" || xW d.ty "list")=EI .seq d:=by cases d <;> rfl
theorem at_of{K:Â}{H:Hp}{l:List D}{xs:List V}{i:Int}{d:D}(h:aJ K H l xs)(e:A5 l i=some d):∃ v,A5 xs i=some v/\Hd K H d v:=by
 unfold A5 at e ⊢;obtain⟨j,e1,e2⟩:=Ñ.mp e;rw[h.length,e1];exact h.get e2
theorem Ow:Md X (om X.K λa b=>(iB a b).map S.d):=by
 intro value slice aa s σ H x y v u Q I rx ry h hs;obtain⟨zA,z,dx,dy,w,st,hx,hy,e,q⟩:=h;obtain⟨r,e1,rfl⟩:=Ï.mp e;cases dx with
 |tup l =>
  cases dy with
  |int i =>
   cases hy.bH;obtain⟨a,xs,rfl,h1,h2⟩:=hx.dz;obtain⟨v',e2,h3⟩:=at_of h2 e1;exact Hl value slice aa s σ H _ _ v u Q I rx ry ⟨a,xs,i,v',rfl,rfl,(ag zA H).il h1,e2,q _ _ (ae.refl H) (oj h3)⟩ hs
  |_=>cases e1
 |lst l =>
  cases dy with
  |int i =>
   cases hy.bH;obtain⟨a,xs,rfl,h1,h2⟩:=hx.iF;obtain⟨v',e2,h3⟩:=at_of h2 e1;exact xJ value slice aa s σ H _ _ v u Q I rx ry ⟨a,xs,i,v',rfl,rfl,(h1.same (ag zA H)).sq,e2,q _ _ (ae.refl H) (oj h3)⟩ hs
  |_=>cases e1
 |_=>cases e1
theorem BX{K:Â}{H:Hp}{l:List D}{xs:List V}(h:aJ K H l xs)(lo hi:Option Int):aJ K H (cutD l lo hi) (rC xs lo hi):=by
 unfold cutD rC;rw[h.length];exact(h.drop _).take _
def Nh(K:Â):V->Option Int->Option Int->Hp->VK->Prop:=λx lo hi H Q=>∃ zA z dx s,aP zA z H/\Hd K (hz zA H) dx x/\Nd dx lo hi=some s/\∀ v H',ae H H'->jI K zA H H' s v->Q v H'
theorem Ni:Mc X (Nh X.K):=by
 intro aa s σ H x v vl vu lo hi sl Q I rx hs pl pu h;obtain⟨zA,z,dx,w,st,hx,e,q⟩:=h;cases dx with
 |tup l =>
  cases e;obtain⟨a,xs,rfl,h1,h2⟩:=hx.dz;exact Ep aa s σ H _ v vl vu lo hi sl Q I rx hs pl pu ⟨a,xs,rfl,(ag zA H).il h1,tupQ st (BX h2 lo hi) q⟩
 |lst l =>
  cases e;obtain⟨a,xs,rfl,h1,h2⟩:=hx.iF;exact D6 aa s σ H _ v vl vu lo hi sl Q I rx hs pl pu ⟨a,xs,rfl,(h1.same (ag zA H)).sq,λp hp=>q _ _ (ae.new _ hp) (fE st (BX h2 lo hi) hp)⟩
 |_=>cases e
end
end Q
namespace Q
open PySem L2 PySem.Spec PyProof.Rows
open PySem.W (KatLex KatTups kat_nil kat_cons kat_go kat_yes kat_no kat_one kat_lt kat_kind kas_kind kat_lt_int)
theorem lP(k:D):∀ l,(rV k l).Perm (k::l)
 |[]=>.refl _
 |y::r=>by
  unfold rV;split
  ·exact((lP k r).cons y).trans (.swap _ _ _)
  ·exact .refl _
theorem jJ:∀ l,(hY l).Perm l
 |[]=>.refl _|k::r=>(lP k _).trans ((jJ r).cons k)
theorem x5(k:D):∀ l,l.Pairwise (λx y=>MySort.aN (fk y) (fk x)=false)->(rV k l).Pairwise (λx y=>MySort.aN (fk y) (fk x)=false)
 |[],_=>OZ _ _
 |y::r,h=>by
  obtain⟨h1,h2⟩:=ÿ.mp h;unfold rV;split
  ·rename_i hy;refine ÿ.mpr ⟨λz hz=>?_,x5 k r h2⟩;rcases Û.mp ((lP k r).mem_iff.mp hz) with rfl | hz
   ·cases q:MySort.aN (fk z) (fk y) with
    |false=>rfl|true=>have:=MySort.eR _ _ _ hy q;rw[MySort.dS] at this;cases this
   ·exact h1 z hz
  ·rename_i hy;refine ÿ.mpr ⟨λz hz=>?_,h⟩;rcases Û.mp hz with rfl | hz
   ·simpa using hy
   ·cases q:MySort.aN (fk z) (fk k) with
    |false=>rfl
    |true =>
     rcases MySort.nW _ (fk y) _ q with q | q
     ·rw[h1 z hz] at q;cases q
     ·exact absurd q hy
theorem uF:∀ l,(hY l).Pairwise (λx y=>MySort.aN (fk y) (fk x)=false)
 |[]=>.nil|k::r=>x5 k _ (uF r)
mutual
theorem BY:∀ x y:D,eqT x y=true->x=y
 |.int i,y,h=>by
  cases y with
  |int j=>rw[eq_of_beq (show(i == j)=true from h)]|_=>cases h
 |.tup a,y,h=>by
  cases y with
  |tup b=>rw[r9 a b h]|_=>cases h
 |.bw,y,h=>by cases y <;> cases h
 |.bl _,y,h=>by cases y <;> cases h
 |.str _,y,h=>by cases y <;> cases h
 |.lst _,y,h=>by cases y <;> cases h
 |.dct,y,h=>by cases y <;> cases h
theorem r9:∀ x y:List D,lN x y=true->x=y
 |[],[],_=>rfl|[],_::_,h=>by cases h
 |_::_,[],h=>by cases h
 |x::r,y::q,h=>by
  have h:(eqT x y&&lN r q)=true:=h;rw[Á] at h;rw[BY x y h.1,r9 r q h.2]
end
variable [TB:Tb]
theorem EZ(ok:∀ x∈l,∀ y∈l,fk x=fk y->x=y)(h:MySort.sortedBy (l.map fk) p):(p.map λi=>l.getD i .bw)=hY l:=by
 have h1:=h.1.map λi=>l.getD i .bw;rw[Ç,MySort.range_getD] at h1;have e:((p.map λi=>l.getD i .bw).map fk)=p.map λi=>(l.map fk).getD i []:=by
  rw[à];refine O0 λi hi=>?_;have:i < l.length:=by have:=h.1.mem_iff.mp hi;simpa using this
  simp[this]
 have h2:(p.map λi=>l.getD i .bw).Pairwise λx y=>MySort.aN (fk y) (fk x)=false:=by
  have:=h.2;rw[← e,RI] at this;exact this
 refine RG (le:=λx y=>MySort.aN (fk y) (fk x)=false) (λa b ha hb p q=>?_) h2 (uF l) (h1.trans (jJ l).symm);exact ok a (h1.mem_iff.mp ha) b ((jJ l).mem_iff.mp hb) (MySort.gy _ _ q p)
mutual
theorem BZ(kp:MySort.tY h h'):∀ (d:D) {u:Ä}{as:List Ë},eqT d d=true->Reads h u (pP d) as->Reads h' u (pP d) as
 |.int i,_,_,_,r=>by cases r;exact .int _ _
 |.tup l,_,_,e,r=>by
  cases r with
  |tuple k1 k2 k3 k4=>exact .tuple (kp _ _ k1 k2) k2 k3 (fZ kp l e k4)
 |.bw,_,_,e,_=>by cases e
 |.bl _,_,_,e,_=>by cases e
 |.str _,_,_,e,_=>by cases e
 |.lst _,_,_,e,_=>by cases e
 |.dct,_,_,e,_=>by cases e
theorem fZ(kp:MySort.tY h h'):∀ (l:List D) {us:List Ä}{as:List Ë},lN l l=true->WY h us (iw l) as->WY h' us (iw l) as
 |[],_,_,_,r=>by cases r;exact .nil
 |x::q,_,_,e,r=>by
  have e:(eqT x x&&lN q q)=true:=e;rw[Á] at e;cases r with
  |cons r1 r2=>exact .cons (BZ kp x e.1 r1) (fZ kp q e.2 r2)
end
theorem bj.get:∀ {us:List Ä}{l:List D}{i:Nat}{d:D},bj h us l->l[i]?=some d->ou h (us.getD i ð) d
 |_,[],i,d,_,e=>by cases e
 |us,x::r,i,d,hd,e=>by
  obtain⟨u,q,rfl,h1,h2⟩:=hd.aH;cases i with
  |zero=>cases e;simpa using h1
  |succ i=>simpa using bj.get h2 (by simpa using e)
theorem bj.len:∀ {us:List Ä}{l:List D},bj h us l->us.length=l.length
 |_,[],hd=>by rw[hd.bz];rfl
 |us,x::r,hd=>by
  obtain⟨u,q,rfl,h1,h2⟩:=hd.aH;simp[bj.len h2]
def B3(l:List D):Prop:=∀ x r,l=x::r->∃ i,x=.int i
theorem Kz(hu:A.units + 40 < PM):∀ (a c:List D) {vs us:List Ä}{r:Bool} (i:Nat),bj s.heap vs a->bj s.heap us c->n8 a c=some r->cy a<=39 ->
  ((b&&i == 0)=true->B3 a/\B3 c)->fin=decide (vs.length < us.length)->Q r s->KatLex P w A b fin Q (vs.zip us) i s
 |[],[],_,_,r,i,ha,hc,e,_,_,hf,q=>by
  cases ha.bz;cases hc.bz;cases e;subst hf;exact kat_nil q
 |[],y::t,_,_,r,i,ha,hc,e,_,_,hf,q=>by
  cases ha.bz;obtain⟨u,us,rfl,_,_⟩:=hc.aH;cases e;subst hf;exact kat_nil q
 |x::l,[],_,_,r,i,ha,hc,e,_,_,hf,q=>by
  cases hc.bz;obtain⟨v,vs,rfl,_,_⟩:=ha.aH;cases e;subst hf;exact kat_nil q
 |x::l,y::t,_,_,r,i,ha,hc,e,hd,hi,hf,q=>by
  obtain⟨v,vs,rfl,a1,a2⟩:=ha.aH;obtain⟨u,us,rfl,c1,c2⟩:=hc.aH;have d1:deep x<=39:=ã (Xf _ _) hd;have d2:cy l<=39:=ã (W4 _ _) hd;have e:(if tG x y=true then n8 l t else wA x y)=some r:=e;refine kat_cons (Gk (A:=A) a1 c1 ∅ P w _ _ ?_)
  refine kat_go (λz=>?_) λz=>?_
  ·rw[if_pos z] at e;refine kat_yes (Kz hu l t (i + 1) a2 c2 e d2 (λk=>?_) (by rw[hf];simp) q)
   simp at k
  ·rw[if_neg (by rw[z];exact Õ)] at e
   refine kat_no ?_;cases hb:(b&&i == 0) with
   |true =>
    obtain⟨f1,f2⟩:=hi hb;obtain⟨m,rfl⟩:=f1 x l rfl;obtain⟨n,rfl⟩:=f2 y t rfl;cases e;obtain⟨_,_,r1⟩:=a1;obtain⟨_,_,r2⟩:=c1;cases r1;cases r2;exact oneLt_int q
   |false=>exact kat_one _ _ ((BP 39 (A:=A) (s:=s)).1 x y v u r d1 a1 c1 e ∅ P w _ _ q)
theorem se(h:ko x=0):∃ i,x=.int i:=by
 cases x with
 |int i=>exact⟨i,rfl⟩
 |tup l =>
  cases l with
  |nil=>cases h
  |cons y r=>cases y <;> cases h
 |_=>cases h
theorem sg(h:ko x=k)(h1:1<=k)(h3:k < 3):∃ y r,x=.tup (y::r)/\(k=1->∃ i,y=.int i)/\(k=2->∃ l,y=.tup l):=by
 cases x with
 |tup l =>
  cases l with
  |nil=>have:k=3:=h.symm;omega
  |cons y r =>
   refine⟨y,r,rfl,λe=>?_,λe=>?_⟩ <;> subst e <;> cases y <;> first | exact⟨_,rfl⟩ | cases h
 |int i=>have:k=0:=h.symm;omega|_=>have:k=3:=h.symm;omega
theorem B4(h1:1<=k)(h3:k < 3):∀ {us:List Ä}{l:List D},bj h us l->(∀ x∈l,ko x=k)->∃ fs,KatTups h us fs/\fs.length=us.length/\∀ v∈fs,(k=1->∃ i t,v=Rk i t)/\(k=2->∃ a o,v=Pf a/\h.get? a=some o/\o.cls=.type "tuple")
 |_,[],hd,_=>by rw[hd.bz];exact⟨[],.nil,rfl,λv hv=>absurd hv (by simp)⟩
 |_,x::r,hd,hk=>by
  obtain⟨u,q,rfl,⟨_,as,r1⟩,h2⟩:=hd.aH;obtain⟨fs,t1,t2,t3⟩:=B4 h1 h3 h2 λy hy=>hk y (Æ _ hy);obtain⟨y,l,rfl,y1,y2⟩:=sg (hk x Å) h1 h3;cases r1 with
  | @tuple a o vs n xs as k1 k2 k3 k4 =>
   cases hv:vs.toList with
   |nil=>rw[hv] at k4;cases k4
   |cons f fr =>
    rw[hv] at k4;cases k4 with
    |cons f1 f2 =>
     refine⟨f::fs,.cons k1 k2 k3 (by rw[← Rj,hv];rfl) t1,by simp[t2],λv hm=>?_⟩
     rcases Û.mp hm with rfl | hm
     ·refine⟨λe=>?_,λe=>?_⟩
      ·obtain⟨i,rfl⟩:=y1 e;cases f1;exact⟨_,_,rfl⟩
      ·obtain⟨m,rfl⟩:=y2 e;cases f1 with
       |tuple g1 g2 g3 g4=>exact⟨_,_,rfl,g1,g2⟩
     ·exact t3 v hm
def kdOf:Nat->Q6
 |0=>S7|1=>tuples' true|_=>tuples' false
theorem si(h:cR x y=true):ko y=ko x/\wA x y=some (MySort.aN (fk x) (fk y))/\(fk x=fk y->x=y):=by
 unfold cR at h;rw[Á,Á,Ph] at h;refine⟨eq_of_beq h.1,eq_of_beq h.2.1,λe=>?_⟩;rcases h.2.2 with k | k
 ·exact BY _ _ k
 ·rw[e] at k;simp at k
theorem Ic{P:í}{w:ü}{A:p8}{s:É}{us:List Ä}{l:List D}{k:Nat}(hd:bj s.heap us l)(k3:k < 3)(hk:∀ x∈l,ko x=k)(h2:2<=us.length)(E:Ä->É->Prop)(Q:Q6->É->Prop)(q:Q (kdOf k) s):Ú (Ù P w) A (keyKind' us.toArray) Q E s:=by
 match k,k3,hk,q with
 |0,_,hk,q =>
  refine kas_kind h2 (T:=.type "int") (λv hv=>?_) rfl rfl q;obtain⟨i,hi,rfl⟩:=O9.mp hv;have hi':i < l.length:=by rw[← hd.len];exact hi
  obtain⟨_,as,r⟩:=hd.get (i:=i) (d:=l[i]) (by simp[hi'])
  obtain⟨n,hn⟩:=se (hk l[i] (Pb hi'));rw[hn] at r;have e:us.getD i ð=us[i]:=by simp[hi]
  rw[e] at r;generalize us[i]=v at r;cases r;exact TQ rfl
 |1,_,hk,q =>
  obtain⟨fs,t1,t2,t3⟩:=B4 (-0) (-0) hd hk
  exact kat_kind (T:=.type "int") t1 ∅ (λv hv=>by obtain⟨i,t,rfl⟩:=(t3 v hv).1 rfl;exact TQ rfl) rfl q
 |2,_,hk,q =>
  obtain⟨fs,t1,t2,t3⟩:=B4 (-0) (-0) hd hk
  exact kat_kind (T:=.type "tuple") t1 ∅ (λv hv=>by
   obtain⟨a,o,rfl,g1,g2⟩:=(t3 v hv).2 rfl;rw[← g2];exact(Sy g1).andThen .now) rfl q
theorem KA{P:í}{w:ü}{A:p8}{s:É}{us:List Ä}{l:List D}{k:Nat}(hd:bj s.heap us l)(hu:A.units + 40 < PM)(k3:k < 3)(hk:∀ x∈l,ko x=k)(ho:∀ x∈l,kn x=true)(hp:∀ x∈l,∀ y∈l,cR x y=true)(i j:Nat)(hi:i < us.length)(hj:j < us.length)(E:Ä->É->Prop)(C:Bool->É->Prop)(hC:C (MySort.aN ((l.map fk).getD i []) ((l.map fk).getD j [])) s):Ú (Ù P w) A (We (kdOf k) (us.getD i ð) (us.getD j ð)) C E s:=by
 have hi':i < l.length:=by rw[← hd.len];exact hi
 have hj':j < l.length:=by rw[← hd.len];exact hj
 have mi:=Pb hi';have mj:=Pb hj';obtain⟨_,h2,_⟩:=si (hp _ mi _ mj);have a1:=hd.get (i:=i) (d:=l[i]) (by simp[hi'])
 have b1:=hd.get (i:=j) (d:=l[j]) (by simp[hj'])
 have e1:(l.map fk).getD i []=fk l[i]:=by simp[hi']
 have e2:(l.map fk).getD j []=fk l[j]:=by simp[hj']
 rw[e1,e2] at hC;generalize MySort.aN (fk l[i]) (fk l[j])=c at h2 hC;have kx:=hk _ mi;have ky:=hk _ mj;have ox:=oy (ho _ mi);generalize l[i]=x at *
 generalize l[j]=y at *
 have tup:∀ b:Bool,1<=k->(b=true->k=1)->Ú (Ù P w) A (We (tuples' b) (us.getD i ð) (us.getD j ð)) C E s:=λb h1 hb=>by
  obtain⟨x1,xr,rfl,x2,_⟩:=sg kx h1 k3;obtain⟨y1,yr,rfl,y2,_⟩:=sg ky h1 k3;obtain⟨f1,as,r1⟩:=a1;obtain⟨f2,bs,r2⟩:=b1;generalize us.getD i ð=v at r1;generalize us.getD j ð=u at r2;cases r1 with
  |tuple p1 p2 p3 p4 =>
   cases r2 with
   |tuple q1 q2 q3 q4 =>
    refine kat_lt p1 p3 q1 q3 (Kz hu (x1::xr) (y1::yr) 0 ⟨f1,_,p4⟩ ⟨f2,_,q4⟩ h2 (by have:deep (.tup (x1::xr))=cy (x1::xr) + 1:=rfl;omega) (λz=>?_) (by simp) hC)
    have hb1:=hb (by simpa using z)
    exact⟨λa q e=>by cases e;exact x2 hb1,λa q e=>by cases e;exact y2 hb1⟩
 match k,k3,kx,ky,tup with
 |0,_,kx,ky,_ =>
  obtain⟨m,rfl⟩:=se kx;obtain⟨n,rfl⟩:=se ky;cases h2;obtain⟨_,_,r1⟩:=a1;obtain⟨_,_,r2⟩:=b1;generalize us.getD i ð=v at r1;generalize us.getD j ð=u at r2;cases r1;cases r2;exact kat_lt_int hC
 |1,_,_,_,tup=>exact tup true (-0) λ_=>rfl|2,_,_,_,tup=>exact tup false (-0) λh=>by cases h
theorem Ie(h64:us.length < 64)(hd:bj s.heap us l)(hu:A.units + 40 < PM)(k3:k < 3)(hk:∀ x∈l,ko x=k)(ho:∀ x∈l,kn x=true)(hp:∀ x∈l,∀ y∈l,cR x y=true):MySort.zz P w A s us (MySort.sortedBy (l.map fk)) (kdOf k) where
 len:=by omega
 few h2:=MySort.Bn (by rw[Ç];exact hd.len) h2
 all p hp:=by rw[hp.1.length_eq,p6,Ç,hd.len]
 kind:=Ic hd k3 hk
 run:=MySort.xU (by rw[Ç];exact hd.len) ∅ (KA hd hu k3 hk ho hp)
theorem aJ.pick{K:Â}{H:Hp}{l:List D}{vs:List V}(h:aJ K H l vs):∀ {p:List Nat},(∀ i∈p,i < l.length)->aJ K H (p.map λi=>l.getD i .bw) (p.map λi=>vs.getD i .bw)
 |[],_=>.nil
 |i::p,hp=>by
  have hi:=hp i Å;refine .cons ?_ (aJ.pick h λj hj=>hp j (Æ _ hj));obtain⟨v,e1,e2⟩:=h.get (i:=i) (d:=l[i]) (by simp[hi])
  have g1:l.getD i .bw=l[i]:=by simp[hi]
  have g2:vs.getD i .bw=v:=by rw[Ê,e1];rfl
  show Hd K H (l.getD i .bw) (vs.getD i .bw);rw[g1,g2];exact e2
end Q
namespace Q
open PySem L2 PySem.Spec PyProof.Rows
open PySem.W (kas_mapM kas_first_eq kas_item kas_item_eq kas_cmp)
theorem kF:∀ (u p q:List Int),MySort.aN (u++p) (u++q)=MySort.aN p q
 |[],_,_=>rfl
 |x::u,p,q=>by
  show(if x=x then MySort.aN (u++p) (u++q) else _)=_;rw[if_pos rfl];exact kF u p q
def N7(x y:D):Prop:=∃ b,wA x y=some b/\(tG x y=true->x=y/\b=false)/\(tG x y=false->∀ p q,MySort.aN (enc x++p) (enc y++q)=b)
theorem B5{k:Nat}(ih:∀ x y,mm k x=true->mm k y=true->N7 x y):∀ a c:List D,a.all (mm k)=true->c.all (mm k)=true->∃ b,n8 a c=some b/\(rS a c=true->a=c/\b=false)/\(rS a c=false->∀ p q,MySort.aN (wC a++p) (wC c++q)=b)
 |[],[],_,_=>⟨false,rfl,λ_=>⟨rfl,rfl⟩,λh=>by cases h⟩
 |[],y::c,_,_=>⟨true,rfl,λh=>by(cases h),λ_ p q=>rfl⟩
 |x::a,[],_,_=>⟨false,rfl,λh=>by(cases h),λ_ p q=>rfl⟩
 |x::a,y::c,ha,hc=>by
  rw[O5,Á] at ha hc;obtain⟨b1,h1,h2,h3⟩:=ih x y ha.1 hc.1;obtain⟨b2,g1,g2,g3⟩:=B5 ih a c ha.2 hc.2;have en:∀ (z:D) (l:List D) (p:List Int),wC (z::l)++p=1::(enc z++(wC l++p)):=λz l p=>congrArg (1::·) (Ý (enc z) (wC l) p);have lx:∀ p q:List Int,MySort.aN (1::p) (1::q)=MySort.aN p q:=λp q=>kF [1] p q;show ∃ b,(if tG x y=true then n8 a c else wA x y)=some b/\((tG x y&&rS a c)=true->x::a=y::c/\b=false)/\((tG x y&&rS a c)=false->_);cases e:tG x y with
  |true =>
   rw[if_pos rfl,Pw];obtain⟨rfl,-⟩:=h2 e;refine⟨b2,g1,λh=>⟨by rw[(g2 h).1],(g2 h).2⟩,λh p q=>?_⟩
   rw[en,en,lx,kF];exact g3 h p q
  |false =>
   rw[if_neg Õ];refine⟨b1,h1,λh=>by simp at h,λ_ p q=>?_⟩
   rw[en,en,lx];exact h3 e _ _
theorem Gm:∀ (k:Nat) (x y:D),mm k x=true->mm k y=true->N7 x y
 |0,.int i,y,_,hy=>by
  cases y with
  |int j =>
   refine⟨_,rfl,λh=>?_,λh p q=>?_⟩
   ·have:i=j:=eq_of_beq (show(i == j)=true from h);subst this;exact⟨rfl,by simp⟩
   ·have:¬ i=j:=ne_of_beq_false (show(i == j)=false from h);show(if i=j then _ else _)=_;rw[if_neg this]
  |_=>cases hy
 |k + 1,.tup a,y,hx,hy=>by
  cases y with
  |tup c =>
   obtain⟨b,h1,h2,h3⟩:=B5 (Gm k) a c hx hy;exact⟨b,h1,λh=>⟨by rw[(h2 h).1],(h2 h).2⟩,h3⟩
  |_=>cases hy
 |0,.tup _,_,h,_=>by cases h
 |0,.bw,_,h,_=>by cases h
 |0,.bl _,_,h,_=>by cases h
 |0,.str _,_,h,_=>by cases h
 |0,.lst _,_,h,_=>by cases h
 |0,.dct,_,h,_=>by cases h
 |_ + 1,.int _,_,h,_=>by cases h
 |_ + 1,.bw,_,h,_=>by cases h
 |_ + 1,.bl _,_,h,_=>by cases h
 |_ + 1,.str _,_,h,_=>by cases h
 |_ + 1,.lst _,_,h,_=>by cases h
 |_ + 1,.dct,_,h,_=>by cases h
theorem wF{k:Nat}{x y:D}(hx:mm k x=true)(hy:mm k y=true):wA x y=some ((wA x y).getD false)/\(wA x y).getD false=MySort.aN (enc x) (enc y)/\(enc x=enc y->x=y):=by
 obtain⟨b,h1,h2,h3⟩:=Gm k x y hx hy;rw[h1];refine⟨rfl,?_,λh=>?_⟩
 ·cases e:tG x y with
  |true=>obtain⟨rfl,rfl⟩:=h2 e;exact(MySort.dS _).symm
  |false=>have:=h3 e [] [];rw[ö,ö] at this;exact this.symm
 ·cases e:tG x y with
  |true=>exact(h2 e).1
  |false =>
   have p1:=h3 e [0] [1];have p2:=h3 e [1] [0];rw[h,kF] at p1 p2;exact absurd (p1.trans p2.symm) (-0)
theorem sj:∀ (k:Nat) (x:D),mm k x=true->dg x=true/\deep x<=k/\eqT x x=true
 |0,.int i,_=>⟨rfl,Ô _,beq_self_eq_true i⟩
 |k + 1,.tup l,h=>by
  have:∀ l:List D,l.all (mm k)=true->b9 l=true/\cy l<=k/\lN l l=true:=λl=>by
   induction l with
   |nil=>exact λ_=>⟨rfl,PQ _,rfl⟩
   |cons x r ih =>
    intro h;rw[O5,Á] at h;obtain⟨a,b,c⟩:=sj k x h.1;obtain⟨a',b',c'⟩:=ih h.2;exact⟨by show(dg x&&b9 r)=true;rw[a,a'];rfl,Nat.max_le.mpr ⟨b,b'⟩,by show(eqT x x&&lN r r)=true;rw[c,c'];rfl⟩
  obtain⟨a,b,c⟩:=this l h;exact⟨a,T3 b,c⟩
 |0,.tup _,h=>by cases h
 |0,.bw,h=>by cases h
 |0,.bl _,h=>by cases h
 |0,.str _,h=>by cases h
 |0,.lst _,h=>by cases h
 |0,.dct,h=>by cases h
 |_ + 1,.int _,h=>by cases h
 |_ + 1,.bw,h=>by cases h
 |_ + 1,.bl _,h=>by cases h
 |_ + 1,.str _,h=>by cases h
 |_ + 1,.lst _,h=>by cases h
 |_ + 1,.dct,h=>by cases h
theorem B6{k:Nat}(l:List D)(h:l.all (mm (k + 1))=true):b9 l=true/\lN l l=true :=
 have:=sj (k + 2) (.tup l) h
 ⟨this.1,this.2.2⟩
theorem x6{l:List D}(h:zM l=true):∃ r k,l=.tup []::r/\r.length < 60000/\r.all (mm (k + 1))=true/\k < 2:=by
 match l,h with
 |.tup []::r,h =>
  have h:(decide (r.length < 60000)&&(r.all (mm 1) || r.all (mm 2)))=true:=h;rw[Á,Ph,decide_eq_true_eq] at h;rcases h.2 with k | k
  ·exact⟨r,0,rfl,h.1,k,by decide⟩
  ·exact⟨r,1,rfl,h.1,k,by decide⟩
theorem lQ(k:D):∀ l,(uh k l).Perm (k::l)
 |[]=>.refl _
 |y::r=>by
  unfold uh;split
  ·exact((lQ k r).cons y).trans (.swap _ _ _)
  ·exact .refl _
theorem eU:∀ l,(ic l).Perm l
 |[]=>.refl _|k::r=>(lQ k _).trans ((eU r).cons k)
def Mo(l:List D):Prop:=l.Pairwise λx y=>MySort.aN (enc y) (enc x)=false
theorem x8(k:D):∀ l,Mo l->Mo (uh k l)
 |[],_=>OZ _ _
 |y::r,h=>by
  obtain⟨h1,h2⟩:=ÿ.mp h;unfold uh;split
  ·rename_i hy;refine ÿ.mpr ⟨λz hz=>?_,x8 k r h2⟩;rcases Û.mp ((lQ k r).mem_iff.mp hz) with rfl | hz
   ·cases q:MySort.aN (enc z) (enc y) with
    |false=>rfl|true=>have:=MySort.eR _ _ _ hy q;rw[MySort.dS] at this;cases this
   ·exact h1 z hz
  ·rename_i hy;refine ÿ.mpr ⟨λz hz=>?_,h⟩;rcases Û.mp hz with rfl | hz
   ·simpa using hy
   ·cases q:MySort.aN (enc z) (enc k) with
    |false=>rfl
    |true =>
     rcases MySort.nW _ (enc y) _ q with q | q
     ·rw[h1 z hz] at q;cases q
     ·exact absurd q hy
theorem uG:∀ l,Mo (ic l)
 |[]=>.nil|k::r=>x8 k _ (uG r)
theorem B7{l l':List D}(hp:l'.Perm l)(hs:Mo l')(inj:∀ x∈l,∀ y∈l,enc x=enc y->x=y):l'=ic l :=
 RG (le:=λx y=>MySort.aN (enc y) (enc x)=false) (λa b ha hb p q=>inj a (hp.mem_iff.mp ha) b ((eU l).mem_iff.mp hb) (MySort.gy _ _ q p)) hs (uG l) (hp.trans (eU l).symm)
theorem B8{l:List D}{p:List Nat}(ok:∀ x∈l,∀ y∈l,enc x=enc y->x=y)(h:MySort.sortedBy (l.map enc) p):(p.map λi=>l.getD i .bw)=ic l:=by
 have h1:=h.1.map λi=>l.getD i .bw;rw[Ç,MySort.range_getD] at h1;have e:((p.map λi=>l.getD i .bw).map enc)=p.map λi=>(l.map enc).getD i []:=by
  rw[à];refine O0 λi hi=>?_;have:i < l.length:=by have:=h.1.mem_iff.mp hi;simpa using this
  simp[this]
 refine B7 h1 ?_ ok;have:=h.2;rw[← e,RI] at this;exact this
theorem x9:∀ a b:List Nat,n8 (a.map λ(i:Nat)=>.int i) (b.map λ(i:Nat)=>.int i)=some (TS.tZ a b)
 |[],[]=>rfl|[],_::_=>rfl|_::_,[]=>rfl
 |a::r,b::q=>by
  show(if ((a:Int) == (b:Int))=true then n8 (r.map λ(i:Nat)=>.int i) (q.map λ(i:Nat)=>.int i) else some (decide ((a:Int) < b)))=some (if beq a b=true then TS.tZ r q else WH a b);rw[x9 r q];by_cases h:a=b
  ·subst h;rw[if_pos (by simp),if_pos (Nat.beq_refl a)]
  ·rw[if_neg (by simp;omega),if_neg λe=>h (Nat.eq_of_beq_eq_true e)]
   congr 1
   rw[O7,decide_eq_true_eq,Nat.blt_eq];omega
variable [TB:Tb]
section
variable {P:í}{w:ü}{A:p8}{E:Ä->É->Prop}{s:É}
def TupAt(h:û)(v:Ä):Prop:=∃ a o xs n,v=.ref a/\h.get? a=some o/\o.cls=.type "tuple"/\o.data=.seq xs n
theorem uH(ho:s.heap.get? a=some o)(hc:o.cls=.type "tuple")(hd:o.data=.seq xs n)(q:Q xs[0]? s):Ú (Ù P w) A (firstOfTuple' (.ref a)) Q E s:=by
 rw[kas_first_eq];refine À (Um (show WD (Ù P w) s.heap (typeOf (.ref a)) o.cls from(Sy ho).andThen .now) ?_);rw[hc,if_neg (by first | decide | simp)]
 exact À (RY ho hd (È q))
theorem qB:∀ (vs:List Ä),(∀ v∈vs,TupAt s.heap v)->∃ fs:List (Option Ä),∀ Q,Q fs s->Ú (Ù P w) A (vs.mapM firstOfTuple') Q E s
 |[],_=>⟨[],λQ q=>by rw[List.mapM_nil];exact È q⟩
 |v::vs,h=>by
  obtain⟨fs,hf⟩:=qB vs λu hu=>h u (Æ _ hu);obtain⟨a,o,xs,n,rfl,ho,hc,hd⟩:=h v Å;refine⟨xs[0]?::fs,λQ q=>?_⟩;rw[RK];exact À (uH ho hc hd (À (hf _ (È q))))
theorem E0(ho:s.heap.get? a=some o)(hc:o.cls=.type "tuple")(hd:o.data=.seq #[] n)(h:∀ v∈vs,TupAt s.heap v)(q:Q S7 s):Ú (Ù P w) A (keyKind' (Pf a::vs).toArray) Q E s:=by
 obtain⟨fs,hf⟩:=qB (P:=P) (w:=w) (A:=A) (E:=E) vs h;rw[keyKind'_eq,Ws,map_eq_pure_bind,RK];refine À (À (À (uH ho hc hd (À (hf _ (È (È ?_)))))));rw[if_neg (by simp),if_neg (by simp)]
 rw[oneTypeOnly'_eq,Ws,map_eq_pure_bind];refine À (À (À (kas_mapM (r:=.type "tuple") _ (λv hv Q' hq=>?_) (È ?_))))
 ·have:TupAt s.heap v:=by
   rcases Û.mp hv with rfl | hv
   ·exact⟨_,_,_,_,rfl,ho,hc,hd⟩
   ·exact h v hv
  obtain⟨b,o',xs,m,rfl,ho',hc',_⟩:=this;rw[← hc'] at hq;exact Um (show WD (Ù P w) s.heap (typeOf (.ref b)) o'.cls from(Sy ho').andThen .now) hq
 ·have hall:((Xg (λ_=>Pq "tuple") (Pf a::vs)).toArray.all λx=>x == Pq "tuple")=true:=by
   simp only[List.all_toArray,all_map,PZ];intro _ _;rfl
  have h0:(Xg (λ_=>Pq "tuple") (Pf a::vs)).toArray[0]?=some (Pq "tuple"):=by simp
  rw[h0];simp only[hall,if_true];exact È (È q)
theorem Ig(hl:SA s.heap l i1)(hb:SA s.heap b i2)(hu:A.units < PM)(hx:Lx A.in1 s i1.toList i2.toList c)(q:Q c s):Ú (Ù P w) A (We S7 (.ref l) (.ref b)) Q E s:=by
 obtain⟨⟨cls,dd,data,sl⟩,ho,hc,n,hd⟩:=id hl;obtain⟨⟨cls2,dd2,XG,sl2⟩,ho2,hc2,n2,hd2⟩:=id hb;simp only at hc hd hc2 hd2;subst hc hd hc2 hd2;rw[keyLt'_oneType,oneLt'_eq];simp only[if_true];refine À (wpAny_cRoomFor hu (À (wpAny_callSpecialIfBound?_slot ⟨_,ho,rfl⟩ Sg (QU Sg ⟨_,ho,rfl⟩ UG (Uw _ _) (my l b i1 i2 n n2 dd dd2 sl sl2 c) ⟨ho,ho2,hx,?_⟩))));exact OX q
theorem Ih{us:List Ä}{r:List D}{k:Nat}(hd:bj s.heap us (.tup []::r))(ty:r.all (mm (k + 1))=true){Q:Q6->É->Prop}(q:Q S7 s):Ú (Ù P w) A (keyKind' us.toArray) Q E s:=by
 have tup:∀ {v:Ä}{l:List D},ou s.heap v (.tup l)->∃ xs n a o,v=.ref a/\s.heap.get? a=some o/\o.cls=.type "tuple"/\o.data=.seq xs n/\(l=[]->xs=#[]):=λ{v l} h=>by
  obtain⟨_,as,r⟩:=h;cases r with
  | @tuple a o vs n xs as k1 k2 k3 k4=>exact⟨vs,n,a,o,rfl,k1,k2,k3,λe=>by
    subst e;have:vs.toList=[]:=by cases hv:vs.toList with | nil=>rfl | cons _ _=>rw[hv] at k4;cases k4
    exact Array.toList_eq_nil_iff.mp this⟩
 obtain⟨v,vs,rfl,h1,h2⟩:=hd.aH;obtain⟨xs,n,a,o,rfl,a1,a2,a3,a4⟩:=tup h1;cases a4 rfl;refine E0 a1 a2 a3 (λu hu=>?_) q;obtain⟨i,hi,rfl⟩:=O9.mp hu;have hi':i < r.length:=by rw[← h2.len];exact hi
 have d:=h2.get (i:=i) (d:=r[i]) (by simp[hi'])
 have t:=á.mp ty _ (Pb hi');have e:vs.getD i ð=vs[i]:=by simp[hi]
 rw[e] at d;generalize r[i]=x at d t;cases x with
 |tup l =>
  obtain⟨xs,n,a,o,e,h1,h3,h4,_⟩:=tup d;exact⟨a,o,xs,n,e,h1,h3,h4⟩
 |_=>cases t
theorem KC{us:List Ä}{l:List D}{k:Nat}(hd:bj s.heap us l)(ty:l.all (mm (k + 1))=true)(hk:k<=30)(hu:A.units + 60 < PM)(i j:Nat)(hi:i < us.length)(hj:j < us.length)(C:Bool->É->Prop)(hC:C (MySort.aN ((l.map enc).getD i []) ((l.map enc).getD j [])) s):Ú (Ù P w) A (We S7 (us.getD i ð) (us.getD j ð)) C E s:=by
 have hi':i < l.length:=by rw[← hd.len];exact hi
 have hj':j < l.length:=by rw[← hd.len];exact hj
 have a1:=hd.get (i:=i) (d:=l[i]) (by simp[hi'])
 have b1:=hd.get (i:=j) (d:=l[j]) (by simp[hj'])
 have ti:=á.mp ty _ (Pb hi');have tj:=á.mp ty _ (Pb hj');have e1:(l.map enc).getD i []=enc l[i]:=by simp[hi']
 have e2:(l.map enc).getD j []=enc l[j]:=by simp[hj']
 rw[e1,e2,← (wF ti tj).2.1] at hC;have h2:=(wF ti tj).1;have dp:=(sj _ _ ti).2.1;generalize (wA l[i] l[j]).getD false=c at h2 hC;generalize l[i]=x at *
 generalize l[j]=y at *
 generalize us.getD i ð=v at a1;generalize us.getD j ð=u at b1;cases x with
 |tup xs =>
  cases y with
  |tup ys =>
   obtain⟨f1,as,r1⟩:=a1;obtain⟨f2,bs,r2⟩:=b1;cases r1 with
   |tuple p1 p2 p3 p4 =>
    cases r2 with
    |tuple q1 q2 q3 q4 =>
     exact Ig ⟨_,p1,p2,_,p3⟩ ⟨_,q1,q2,_,q3⟩ ∅ ((BP 40).2 _ _ _ _ _ (by have:cy xs + 1<=k + 1:=dp;omega) ⟨f1,_,p4⟩ ⟨f2,_,q4⟩ h2 ∅) hC
  |_=>cases tj
 |_=>cases ti
theorem Ii{us:List Ä}{r:List D}{k:Nat}(hd:bj s.heap us (.tup []::r))(hr:r.length < 60000)(ty:r.all (mm (k + 1))=true)(hk:k<=30)(hu:A.units + 60 < PM):MySort.zz P w A s us (MySort.sortedBy ((D.tup []::r).map enc)) S7 where
 len:=by rw[hd.len,æ];omega
 few h2:=MySort.Bn (by rw[Ç];exact hd.len) h2
 all p hp:=by rw[hp.1.length_eq,p6,Ç,hd.len]
 kind _ E Q q:=Ih hd ty q
 run:=MySort.xU (by rw[Ç];exact hd.len) (by rw[hd.len,æ];omega) λi j hi hj E C hC=>KC hd (k:=k) (by rw[O5,ty];rfl) hk hu i j hi hj C hC
end
section
variable {X:Cx}
theorem E1{zA:Option Ë}{H:Hp}{l:List D}{xs:List V}(hu:X.A.units + 64 < PM)(hd:aJ X.K H l xs)(ok:zM l=true):xV X H xs (MySort.sortedBy (l.map enc)):=by
 intro aa σ s us I rv;obtain⟨r,k,rfl,hr,ty,hk⟩:=x6 ok;have ty':(D.tup []::r).all (mm (k + 1))=true:=by rw[O5,ty];rfl
 have cl:=B6 _ ty';obtain⟨as,ra⟩:=kC I hd rv cl.1;exact⟨S7,λh' kp=>Ii ⟨cl.1,_,fZ kp _ cl.2 ra⟩ hr ty ∅ (by show X.A.units + 1 + 1 + 60 < PM;omega)⟩
theorem E2{zA:Option Ë}{H:Hp}{l:List D}{xs:List V}{Pr:List Nat->Prop}(hd:aJ X.K H l xs)(ok:dh l=true)(mk:∀ (s:É) (us:List Ä) (k:Nat),us.length=l.length->bj s.heap us l->k < 3->(∀ x∈l,ko x=k)->(∀ x∈l,kn x=true)->(∀ x∈l,∀ y∈l,cR x y=true)->MySort.zz X.prog X.w X.A.in1.in1 s us Pr (kdOf k)):xV X H xs Pr:=by
 intro aa σ s us I rv;have hlen:us.length=l.length:=by rw[← rv.length,hd.length]
 have all:∀ x∈l,ko x < 3/\kn x=true/\∀ y∈l,cR x y=true:=λx hx=>by
  have:=á.mp ok x hx;rw[Á,Á,decide_eq_true_eq,PZ] at this;exact⟨this.1,this.2.1,this.2.2⟩
 have hf:b9 l=true:=by
  clear hd mk hlen
  induction l with
  |nil=>rfl
  |cons x r ih =>
   have h1:=(eT (all x Å).2.1).1;show(dg x&&b9 r)=true;rw[h1];have ok':dh r=true:=á.mpr λy hy=>by
    obtain⟨a,b,c⟩:=all y (Æ _ hy);rw[Á,Á,decide_eq_true_eq,PZ];exact⟨a,b,λz hz=>c z (Æ _ hz)⟩
   exact ih ok' λy hy=>⟨(all y (Æ _ hy)).1,(all y (Æ _ hy)).2.1,λz hz=>(all y (Æ _ hy)).2.2 z (Æ _ hz)⟩
 obtain⟨as,ra⟩:=kC I hd rv hf;have pure:lN l l=true:=by
  clear hd ra hf ok;have:∀ q:List D,(∀ x∈q,eqT x x=true)->lN q q=true:=λq=>by
   induction q with
   |nil=>intro _;rfl|cons x r ih=>intro h;show(eqT x x&&lN r r)=true;rw[h x Å,ih λy hy=>h y (Æ _ hy)];rfl
  refine this l λx hx=>?_;have h:=(all x hx).2.2 x hx;unfold cR at h;rw[Á,Á,Ph] at h;rcases h.2.2 with k | k
  ·exact k
  ·simp at k
 cases l with
 |nil=>exact⟨kdOf 0,λh' kp=>mk _ _ _ hlen ⟨hf,_,fZ kp _ pure ra⟩ (-0) (λx hx=>absurd hx (by simp)) (λx hx=>absurd hx (by simp)) λx hx=>absurd hx (by simp)⟩
 |cons x r =>
  have hx:=all x Å;exact⟨kdOf (ko x),λh' kp=>mk _ _ _ hlen ⟨hf,_,fZ kp _ pure ra⟩ hx.1 (λy hy=>(si (hx.2.2 y hy)).1) (λy hy=>(all y hy).2.1) λy hy=>(all y hy).2.2⟩
theorem E3{zA:Option Ë}{H:Hp}{l:List D}{xs:List V}(hu:X.A.units + 64 < PM)(hd:aJ X.K H l xs)(h64:l.length < 64)(ok:dh l=true):xV X H xs (MySort.sortedBy (l.map fk)) :=
 E2 (zA:=zA) hd ok λ_ _ _ hl d k3 hk ho hp=>Ie ∅ d (by show X.A.units + 1 + 1 + 40 < PM;omega) k3 hk ho hp
theorem zU(hu:X.A.units + 64 < PM):bP X (.builtin "sorted") (zP X.K (mR .sorted)):=by
 intro aa s σ H xs us Q I r h;obtain⟨zA,z,ds,w,st,hx,e,q⟩:=h
 match ds,e with
 |[x],e =>
  have e:sortedS x=some w:=e;unfold sortedS at e;obtain⟨l,h1,e⟩:=Ñ.mp e;obtain⟨v,rfl,hv⟩:=hx.one;have go:∀ (a:Ë) (ys:List V),v=.ref a->(jj X.K H a ys∨cI X.K H a ys)->aJ X.K (hz zA H) l ys->Ú (Ù X.prog X.w) X.A (call (.builtin "sorted") us) (EP X aa σ Q) X.xe s:=λa ys hva hq hd=>by
   subst hva;by_cases c:l.length < 64/\dh l=true
   ·rw[if_pos c] at e;cases e;obtain⟨h64,ok⟩:=c;refine km aa s σ H _ us Q I r ⟨a,ys,MySort.sortedBy (l.map fk),rfl,hq,E3 (zA:=zA) hu (hd.same (ag zA H)) h64 ok,λp hp i hi=>by have:=hp.1.mem_iff.mp hi;rw[hd.length];simpa using this,λp lA hp hn=>?_⟩
    have hd2:=hd.pick (p:=p) λi hi=>by have:=hp.1.mem_iff.mp hi;simpa using this
    rw[EZ (λx hx y hy=>?_) hp] at hd2
    ·exact q _ _ (ae.new _ hn) (fE st hd2 hn)
    ·have:=á.mp ok x hx;rw[Á,Á,PZ] at this;exact(si (this.2.2 y hy)).2.2
   ·rw[if_neg c] at e;by_cases c2:zM l=true
    ·unfold ui at e;rw[if_pos c2] at e;cases e;refine km aa s σ H _ us Q I r ⟨a,ys,MySort.sortedBy (l.map enc),rfl,hq,E1 (zA:=zA) hu (hd.same (ag zA H)) c2,λp hp i hi=>by have:=hp.1.mem_iff.mp hi;rw[hd.length];simpa using this,λp lA hp hn=>?_⟩
     have hd2:=hd.pick (p:=p) λi hi=>by have:=hp.1.mem_iff.mp hi;simpa using this
     rw[B8 (λx hx y hy=>?_) hp] at hd2
     ·exact q _ _ (ae.new _ hn) (fE st hd2 hn)
     ·obtain⟨rr,k,rfl,_,ty,_⟩:=x6 c2;have ty':(D.tup []::rr).all (mm (k + 1))=true:=by rw[O5,ty];rfl
      exact(wF (á.mp ty' _ hx) (á.mp ty' _ hy)).2.2
    ·unfold ui at e;rw[if_neg c2] at e;cases e
  cases x with
  |tup m =>
   cases h1;obtain⟨a,ys,rfl,k1,k2⟩:=hv.dz;exact go a ys rfl (.inr ((ag zA H).il k1)) k2
  |lst m =>
   cases h1;obtain⟨a,ys,rfl,k1,k2⟩:=hv.iF;exact go a ys rfl (.inl (k1.same (ag zA H)).sq) k2
  |_=>cases h1
end
structure Gs where
 fns:List (Str × List Str)
 nums:List (Str × Int)
 F:FT
 cls:Nat->Addr
 lv:Nat
def EPost(G:Gs)(zA:Option Ë)(E:XK)(c:Nat)(z:Z)(H:Hp):Prop:=∀ e H',Ext zA H H'->aP zA z H'->H' e=none->E (.ref (G.cls c)) (some e) H'
theorem EPost.mono(h:EPost G zA E c z H)(e:Ext zA H H1):EPost G zA E c z H1:=λa H' x s n=>h a H' (e.trans x) s n
def KD(K:Â)(G:Gs)(zA:Option Ë)(E:XK)(H:Hp)(Q:VK):R S->Prop
 |.ok s z'=>∀ v H',Ext zA H H'->aP zA z' H'->jI K zA H H' s v->Q v H'|.er c z'=>EPost G zA E c z' H
def oz(K:Â)(G:Gs)(zA:Option Ë)(E:XK)(H:Hp)(Q:VK):R (List S)->Prop
 |.ok l z'=>∃ s,l=[s]/\∀ v H',Ext zA H H'->aP zA z' H'->jI K zA H H' s v->Q v H'|.er c z'=>EPost G zA E c z' H
def KG(K:Â)(G:Gs)(zA:Option Ë)(E:XK)(H:Hp)(Q:List V->Hp->Prop):R (List S)->Prop
 |.ok l z'=>∀ vs H',Ext zA H H'->aP zA z' H'->Pd (jI K zA H H') l vs->Q vs H'|.er c z'=>EPost G zA E c z' H
def ya(G:Gs)(zA:Option Ë)(E:XK)(H:Hp)(Q:Bool->Hp->Prop):R (List S)->Prop
 |.ok l z'=>∃ b,l=[.d (.bl b)]/\∀ H',Ext zA H H'->aP zA z' H'->Q b H'|.er c z'=>EPost G zA E c z' H
def eA(K:Â)(zA:Option Ë)(H:Hp)(ρ:Env)(σ:L2.St):Prop:=∀ (i:Nat) (s:S),ρ[i]?=some (some s)->∃ v,σ[i]?=some (some v)/\vO K zA H s v
theorem eA.mono{K:Â}{zA:Option Ë}{H H':Hp}{ρ:Env}{σ:L2.St}(h:eA K zA H ρ σ)(e:Ext zA H H'):eA K zA H' ρ σ:=λi s q=>let ⟨v,a,b⟩:=h i s q;⟨v,a,b.mono e⟩
def tI(K:Â)(G:Gs)(E:XK)(x:Ex):TE:=λσ H Q=>∃ zA ρ z r,eA K zA H ρ σ/\aP zA z H/\ev G.F x ρ z=some r/\oz K G zA E H Q r
def tA(K:Â)(G:Gs)(E:XK)(x:Ex):TA:=λσ H Q=>∃ zA ρ z r,eA K zA H ρ σ/\aP zA z H/\ev G.F x ρ z=some r/\KG K G zA E H Q r
def tT(K:Â)(G:Gs)(E:XK)(x:Ex):TT:=λσ H Q=>∃ zA ρ z r,eA K zA H ρ σ/\aP zA z H/\ev G.F x ρ z=some r/\ya G zA E H Q r
def Ij(K:Â)(G:Gs)(f n:Nat):Sp:=λvs H Q E=>vs.length=n/\∃ zA z ss r,uC K zA H ss vs/\aP zA z H/\G.F false f ss z=some r/\KD K G zA E H Q r
section
variable {K:Â}{G:Gs}{E:XK}{a x:Ex}{ρ:Env}{z:Z}{zA:Option Ë}{σ:L2.St}{H:Hp}
theorem cz{α:Type}{k:List S->M α}{r:R α}{Q':VK}(rel:eA K zA H ρ σ)(st:aP zA z H)(h:M.bind (ev G.F a ρ) k z=some r)(her:∀ c z1,r=.er c z1->EPost G zA E c z1 H)
  (bx:∀ l z1,k l z1=some r->∃ s,l=[s]/\∀ v H1,Ext zA H H1->aP zA z1 H1->jI K zA H H1 s v->Q' v H1):tI K G E a σ H Q':=by
 rcases M.bind_some h with ⟨l,z1,e1,e2⟩ | ⟨c,z1,e1,e2⟩
 ·exact⟨zA,ρ,z,_,rel,st,e1,bx l z1 e2⟩
 ·exact⟨zA,ρ,z,_,rel,st,e1,her c z1 e2⟩
theorem oA{α:Type}{k:List S->M α}{r:R α}{Q':List V->Hp->Prop}(rel:eA K zA H ρ σ)(st:aP zA z H)(h:M.bind (ev G.F a ρ) k z=some r)(her:∀ c z1,r=.er c z1->EPost G zA E c z1 H)
  (bx:∀ l z1,k l z1=some r->∀ vs H1,Ext zA H H1->aP zA z1 H1->Pd (jI K zA H H1) l vs->Q' vs H1):tA K G E a σ H Q':=by
 rcases M.bind_some h with ⟨l,z1,e1,e2⟩ | ⟨c,z1,e1,e2⟩
 ·exact⟨zA,ρ,z,_,rel,st,e1,bx l z1 e2⟩
 ·exact⟨zA,ρ,z,_,rel,st,e1,her c z1 e2⟩
theorem mz{α:Type}{k:Bool->M α}{r:R α}{Q':Bool->Hp->Prop}(rel:eA K zA H ρ σ)(st:aP zA z H)(h:M.bind (ev G.F a ρ) (λx=>M.bind (M.of ((pl x).bind ll)) k) z=some r)(her:∀ c z1,r=.er c z1->EPost G zA E c z1 H)
  (bx:∀ b z1,k b z1=some r->∀ H1,Ext zA H H1->aP zA z1 H1->Q' b H1):tT K G E a σ H Q':=by
 rcases M.bind_some h with ⟨l,z1,e1,e2⟩ | ⟨c,z1,e1,e2⟩
 ·obtain⟨b,e3,e4⟩:=M.ah e2;obtain⟨d,e5,e6⟩:=Ñ.mp e3;have el:l=[.d (.bl b)]:=by
   obtain⟨s,rfl,hs⟩:=cc e5;cases s with
   |d y=>cases hs;cases d <;> first | (cases e6;rfl) | cases e6
   |fr ys=>cases hs;cases e6
   |_=>cases hs
  exact⟨zA,ρ,z,_,rel,st,e1,b,el,bx b z1 e4⟩
 ·exact⟨zA,ρ,z,_,rel,st,e1,her c z1 e2⟩
theorem jK{l:List S}{s:S}(h:one l=some s):l=[s]:=by
 unfold one at h;split at h
 ·cases h;rfl
 ·cases h
end
theorem PE.imp(h:PE X e t)(i:∀ σ H Q,t' σ H Q->t σ H Q):PE X e t':=λaa s σ H Q I q=>h aa s σ H Q I (i _ _ _ q)
theorem PT.imp(h:PT X e t)(i:∀ σ H Q,t' σ H Q->t σ H Q):PT X e t':=λaa s σ H Q I q=>h aa s σ H Q I (i _ _ _ q)
theorem PW.imp(h:PW X e t)(i:∀ σ H Q,t' σ H Q->t σ H Q):PW X e t':=λw aa s σ H Q I q=>h w aa s σ H Q I (i _ _ _ q)
theorem PA.imp(h:PA X e t)(i:∀ σ H Q,t' σ H Q->t σ H Q):PA X e t':=λp aa s σ H Q I q=>h p aa s σ H Q I (i _ _ _ q)
def noStar:Ö->Bool
 |.Starred ..=>false|_=>true
theorem bg(h:noStar e=true)(es:List Ö)(env:Qs):Of (e::es) env=(false,eval e env)::Of es env:=by
 cases e <;> first | rfl | cases h
theorem f7:∀ {es:List Ö} (env:Qs) (pos:Pos),es.all noStar=true->(SJ pos (Of es env)).any (·.1)=false
 |[],_,_,_=>rfl
 |e::es,env,pos,h=>by
  rw[O5,Á] at h;rw[bg h.1];show(false || (SJ pos (Of es env)).any (·.1))=false;rw[f7 env pos h.2];rfl
def plainT:Ö->Bool
 |.UnaryOp .Not _ _=>false|.BoolOp ..=>false|.IfExp ..=>false|.Compare ..=>false|_=>true
theorem zV(h:plainT e=true)(env:Qs)(whole:Sem Ä):UD e env whole=(do let v ← whole;Tg e.pos;Ui [v] (truthy v)):=by
 cases e with
 |UnaryOp op _ _=>cases op <;> first | rfl | cases h
 |BoolOp _ _ _=>cases h
 |IfExp _ _ _ _=>cases h
 |Compare _ _ _ _=>cases h
 |_=>rfl
def sk:Ö->Bool
 |.Slice ..=>false|_=>true
theorem oB(h:sk e=true):xI e:=λo i=>by
 cases e with
 |Slice _ _ _ _=>cases h
 |_=>rfl
def d6:Ö->Bool
 |.Set ..=>false|_=>true
theorem wH(h:d6 e=true)(op:UO):VI op e=false:=by
 cases e with
 |Set _ _ _=>cases h
 |_=>rfl
structure aw(X:Cx)(G:Gs)(E:XK)(x:Ex)(e:Expr):Prop where
 pe:PE X e (tI X.K G E x)
 pt:(∀ t a b p,e≠.IfExp t a b p)->PT X e (tT X.K G E x)
 pw:∀ op vs p,e=.BoolOp op vs p->PW X e (tT X.K G E x)
theorem aC(h:PE X e (tI X.K G E x))(hp:plainT e=true):aw X G E x e:=by
 refine⟨h,λ_=>PT.imp (GU h (zV hp X.env)) λσ H Q q=>?_,λop vs p he=>?_⟩
 ·obtain⟨zA,ρ,z,r,rel,st,e,po⟩:=q;refine⟨zA,ρ,z,r,rel,st,e,?_⟩;cases r with
  |er c z1=>exact po
  |ok l z1 =>
   obtain⟨b,rfl,po⟩:=po;exact⟨_,rfl,λv H' ex st' rv=>⟨b,Hd.vN (show Hd X.K (hz zA H') (.bl b) v from rv),po H' ex st'⟩⟩
 ·subst he;cases hp
def bR:Ex->Bool
 |.nil=>true|.cons _ _=>true|_=>false
def Good(X:Cx)(G:Gs)(E:XK):Ex->List Ö->Prop
 |.nil,es=>es=[]|.cons a r,es=>∃ e es',es=e::es'/\noStar e=true/\aw X G E a e/\bR r=true/\Good X G E r es'|x,es=>∃ e,es=[e]/\aw X G E x e
theorem Good.args:∀ {x:Ex}{es:List Ö},bR x=true->Good X G E x es->PA X es (tA X.K G E x)/\es.all noStar=true:=by
 intro x
 induction x with
 |nil =>
  intro es _ h;have h:es=[]:=h;subst h;refine⟨PA.imp lz λσ H Q q=>?_,rfl⟩;obtain⟨zA,ρ,z,r,rel,st,e,po⟩:=q;cases e;exact po [] H Ext.refl st .nil
 |cons a r _ ih =>
  intro es _ h;obtain⟨e,es',rfl,ns,g,lr,gr⟩:=h;obtain⟨h1,h2⟩:=ih lr gr;refine⟨PA.imp (eh g.pe h1 (bg ns es' X.env)) λσ H Q q=>?_,by rw[O5,ns,h2];rfl⟩
  obtain⟨zA,ρ,z,rr,rel,st,e,po⟩:=q;have her:∀ c z1,rr=.er c z1->EPost G zA E c z1 H:=λc z1 e=>by subst e;exact po
  refine cz rel st e her λl z1 e1=>?_;obtain⟨s,hs,e2⟩:=M.ah e1;refine⟨s,jK hs,λv H1 x1 aQ rv=>?_⟩;refine oA (rel.mono x1) aQ e2 (λc z2 q=>(her c z2 q).mono x1) λl2 z2 e3 vs H2 x2 st2 rvs=>?_;cases e3;exact po (v::vs) H2 (x1.trans x2) st2 (.cons (rv.mono x2) (Pd.ze rvs λ_ _ q=>q.from x1))
 |_=>intro es h;cases h
def wI:List Str:=["len","sorted","tuple","list","sum","min","max","abs","all","any","int","bool","str","isinstance","range","zip","enumerate","set"]
structure XI(lm:Bool)(X:Cx)(G:Gs)(E:XK)(N:List Str)(sc:Scope):Prop where
 gok:∀ f nm ps,G.fns[f]?=some (nm,ps)->∃ fa fd,X.mg nm=some (.ref fa)/\PySem.W.keepIn X.K (.ref fa)=true/\Binds X.K fd ps []/\lB X.prog X.w X.K X.mg X.base (pO X.prog X.w) G.lv fa fd ps (Ij X.K G f ps.length)
 num:∀ p∈G.nums,∃ t,X.mg p.1=some (.int p.2 t)
 blt:∀ n∈wI,X.mg n=none
 hN:X.N=N
 nd:N.Nodup
 vis:∀ x∈N,JO X.env.scope x
 glb:∀ x,sc.names.lookup x=some .globalImplicit->Gl X x
 cel:∀ x,(sc.names.lookup x=some .cell∨sc.names.lookup x=some .free)->(X.env.kindOf x=some .cell∨X.env.kindOf x=some .free)
 calm:X.calm=true
 room:iy G.lv X.A
 pas:Passes (pO X.prog X.w) X E
def glob(sc:ON)(x:Str):Bool:=sc.names.lookup x == some .globalImplicit&&!(x == ("__debug__":Str))&&!(x == ("__name__":Str))
def aT(x:Str):Bool:=!(x == ("__debug__":Str))&&!(x == ("__classdict__":Str))
def B9:Const->D->Bool
 |.int i,.int j=>i == j|.bool a,.bl b=>a == b|.str x,.str y=>x == y|.none,.bw=>true|_,_=>false
def N8:Bf->Str × Bool
 |.len=>("len",false) | .sorted=>("sorted",false) | .tuple=>("tuple",true) | .list=>("list",true) | .sum=>("sum",false) | .min=>("min",false) | .max=>("max",false)|.all=>("all",false) | .any=>("any",false) | .int=>("int",true) | .sset=>("sorted",false) | .nP=>("len",false)
def served:Bf->Bool
 |.len | .tuple | .list | .min | .max | .all | .any | .int | .sorted | .sum=>true|_=>false
mutual
noncomputable def cG(N:List Str)(loc:Str->Bool):fW->Ö->Bool
 |.v i=>λe=>match e with
  |.Name x _=>N[i]? == some x&&loc x|_=>false
 |.tup ps=>λe=>match e with
  |.Tuple es _ _=>lR N loc ps es|_=>false
 |.nil=>λ_=>false|.cons _ _=>λ_=>false
noncomputable def lR(N:List Str)(loc:Str->Bool):fW->List Ö->Bool
 |.nil=>λes=>es.isEmpty
 |.cons p r=>λes=>match es with
  |e::es=>noStar e&&cG N loc p e&&lR N loc r es|[]=>false
 |.v _=>λ_=>false|.tup _=>λ_=>false
end
def dD:Ö->Bool
 |.Tuple ..=>true|_=>false
def bA:Ö->List Str
 |.Name x _=>[x]|.Tuple es _ _=>names es|_=>[]
where names:List Ö->List Str
 |[]=>[]|.Name x _::r=>x::names r|.Tuple [.Name a _,.Name b _] _ _::r=>a::b::names r|_::r=>names r
def lT(cC sc:ON)(N own:List Str)(aB:List (Str × Nat)):Bool :=
 cC.kind == .function&&cC.names.all (λy=>y.2 != .cell)&&cC.names.all (λy=>y.2 != .local || cC.names.lookup y.1 == some .local) &&
  cC.names.all (λy=>y.2 != .free || (sc.names.lookup y.1 == some .cell || sc.names.lookup y.1 == some .free))&&aB.all (λp=>N[p.2]? == some p.1&&cC.names.lookup p.1 == some .free) &&
  own.all (λx=>cC.names.lookup x == some .local)&&decide (own++aB.map (·.1)).Nodup
def bW(N:List Str):List Nat->List (Str × Nat)
 |[]=>[]
 |i::r=>match N[i]? with
  |some x=>(x,i)::bW N r|none=>bW N r
def opt{α:Type}(o:Option α)(f:α->Bool):Bool:=match o with
 |some a=>f a|none=>false
theorem au{α:Type}{o:Option α}{f:α->Bool}(h:opt o f=true):∃ a,o=some a/\f a=true:=by
 cases o with
 |none=>cases h
 |some a=>exact⟨a,rfl,h⟩
def KH:(e:List Ö)->Option {q:Str × Pos // e=[.Name q.1 q.2]}
 |[.Name n p]=>some ⟨(n,p),rfl⟩|_=>none
def KI:(e:List Ö)->Option {q:Const × Nat × Pos // e=[.Constant q.1 q.2.1 q.2.2]}
 |[.Constant c k p]=>some ⟨(c,k,p),rfl⟩|_=>none
def KJ:(e:List Ö)->Option {q:Pos // e=[.Dict [] [] q]}
 |[.Dict [] [] p]=>some ⟨p,rfl⟩|_=>none
def KL:(e:List Ö)->Option {q:List Ö × Nat × Pos // e=[.Tuple q.1 q.2.1 q.2.2]}
 |[.Tuple l k p]=>some ⟨(l,k,p),rfl⟩|_=>none
def KN:(e:List Ö)->Option {q:List Ö × Pos // e=[.List q.1 q.2]}
 |[.List l p]=>some ⟨(l,p),rfl⟩|_=>none
def KO:(e:List Ö)->Option {q:Ö × R7 × Ö × Pos // e=[.BinOp q.1 q.2.1 q.2.2.1 q.2.2.2]}
 |[.BinOp l o r p]=>some ⟨(l,o,r,p),rfl⟩|_=>none
def KP:(e:List Ö)->Option {q:Ö × UO × Ö × Pos // e=[.Compare q.1 [q.2.1] [q.2.2.1] q.2.2.2]}
 |[.Compare l [o] [r] p]=>some ⟨(l,o,r,p),rfl⟩|_=>none
def KQ:(e:List Ö)->Option {q:Str × Str × Pos × Pos × Ö × Pos × Pos × ON × Pos // e=[cx q.1 q.2.1 q.2.2.1 q.2.2.2.1 q.2.2.2.2.2.1 q.2.2.2.2.2.2.1 q.2.2.2.2.1 q.2.2.2.2.2.2.2.1 q.2.2.2.2.2.2.2.2]}
 |[.ListComp (.Name y pe) [⟨.Name x px,iter,[],0⟩,⟨.Name y' py,.Name x' px2,[],0⟩] sc ps]=>if h:y'=y/\x'=x then some ⟨(x,y,pe,px,iter,py,px2,sc,ps),by rw[h.1,h.2]⟩ else none|_=>none
def Nj:(e:List Ö)->Option {q:Str × Pos × Str × Pos × Ö × Pos × Pos // e=[.Call (.Name q.1 q.2.1) [.Call (.Name q.2.2.1 q.2.2.2.1) [q.2.2.2.2.1] [] q.2.2.2.2.2.1] [] q.2.2.2.2.2.2]}
 |[.Call (.Name n p1) [.Call (.Name m p2) [x] [] p3] [] p4]=>some ⟨(n,p1,m,p2,x,p3,p4),rfl⟩|_=>none
def Nk:(e:List Ö)->Option {q:Str × Pos × Nat × Pos × Pos × Ö × ON × Pos // e=[.DictComp (.Name q.1 q.2.1) (.Constant (.bool true) q.2.2.1 q.2.2.2.1) [⟨.Name q.1 q.2.2.2.2.1,q.2.2.2.2.2.1,[],0⟩] q.2.2.2.2.2.2.1 q.2.2.2.2.2.2.2]}
 |[.DictComp (.Name n p1) (.Constant (.bool true) k p2) [⟨.Name m px,iter,[],0⟩] sc ps]=>if h:m=n then some ⟨(n,p1,k,p2,px,iter,sc,ps),by rw[h]⟩ else none|_=>none
def Nl(o:Bool):(e:List Ö)->Option {q:Ö × Str × Pos × Pos // e=[.Compare q.1 [Ew o] [.Name q.2.1 q.2.2.1] q.2.2.2]}
 |[.Compare l [c] [.Name n p] pos]=>if h:c=Ew o then some ⟨(l,n,p,pos),by rw[h]⟩ else none|_=>none
def KR:(e:List Ö)->Option {q:Ö × Pos // e=[.UnaryOp .USub q.1 q.2]}
 |[.UnaryOp .USub x p]=>some ⟨(x,p),rfl⟩|_=>none
def KS:(e:List Ö)->Option {q:Ö × Pos // e=[.UnaryOp .Not q.1 q.2]}
 |[.UnaryOp .Not x p]=>some ⟨(x,p),rfl⟩|_=>none
def KU:(e:List Ö)->Option {q:Ö × Ö × List Ö × Pos // e=[.BoolOp .And (q.1::q.2.1::q.2.2.1) q.2.2.2]}
 |[.BoolOp .And (l::r::v) p]=>some ⟨(l,r,v,p),rfl⟩|_=>none
def KW:(e:List Ö)->Option {q:Ö × Ö × List Ö × Pos // e=[.BoolOp .Or (q.1::q.2.1::q.2.2.1) q.2.2.2]}
 |[.BoolOp .Or (l::r::v) p]=>some ⟨(l,r,v,p),rfl⟩|_=>none
def KY:(e:List Ö)->Option {q:Ö × Ö × Ö × Pos // e=[.IfExp q.1 q.2.1 q.2.2.1 q.2.2.2]}
 |[.IfExp t x y p]=>some ⟨(t,x,y,p),rfl⟩|_=>none
def Nm:(e:List Ö)->Option {q:Ö × UO × UO × Ö × Ö × Pos // e=[.Compare q.1 [q.2.1,q.2.2.1] [q.2.2.2.1,q.2.2.2.2.1] q.2.2.2.2.2]}
 |[.Compare l [o,o2] [r,s] p]=>some ⟨(l,o,o2,r,s,p),rfl⟩|_=>none
def KZ:(e:List Ö)->Option {q:Str × Pos × Ö × List Ö × Pos // e=[.Call (.Name q.1 q.2.1) (q.2.2.1::q.2.2.2.1) [] q.2.2.2.2]}
 |[.Call (.Name n q1) (x::l) [] p]=>some ⟨(n,q1,x,l,p),rfl⟩|_=>none
def K0:(e:List Ö)->Option {q:Str × Pos × Ö × Ö × Pos // e=[.Call (.Name q.1 q.2.1) [q.2.2.1,q.2.2.2.1] [] q.2.2.2.2]}
 |[.Call (.Name n q1) [x,ty] [] p]=>some ⟨(n,q1,x,ty,p),rfl⟩|_=>none
def Np:(e:List Ö)->Option {q:Ö × Ö × Pos // e=[.Subscript q.1 q.2.1 q.2.2]}
 |[.Subscript v x p]=>some ⟨(v,x,p),rfl⟩|_=>none
def Nq:(e:List Ö)->Option {q:Ö × Option Ö × Option Ö × Pos × Pos // e=[.Subscript q.1 (.Slice q.2.1 q.2.2.1 none q.2.2.2.1) q.2.2.2.2]}
 |[.Subscript v (.Slice l h none q1) p]=>some ⟨(v,l,h,q1,p),rfl⟩|_=>none
def Ik:(e:List Ö)->Option {q:Ö × Ö × Ö × List Ö × ON × Pos // e=[.ListComp q.1 [⟨q.2.1,q.2.2.1,q.2.2.2.1,0⟩] q.2.2.2.2.1 q.2.2.2.2.2]}
 |[.ListComp elt [⟨tg,iter,ifs,0⟩] cC p]=>some ⟨(elt,tg,iter,ifs,cC,p),rfl⟩|_=>none
def zW:(e:Ö)->Option {q:Str × Pos × Ö × Pos // e=.Call (.Name q.1 q.2.1) [q.2.2.1] [] q.2.2.2}
 |.Call (.Name n q1) [a] [] p=>some ⟨(n,q1,a,p),rfl⟩|_=>none
def zX:(e:Ö)->Option {q:Str × Pos × Ö × Ö × Pos // e=.Call (.Name q.1 q.2.1) [q.2.2.1,q.2.2.2.1] [] q.2.2.2.2}
 |.Call (.Name n q1) [a,b] [] p=>some ⟨(n,q1,a,b,p),rfl⟩|_=>none
def N9:(e:Ö)->Option {q:Str × Pos // e=.Name q.1 q.2}
 |.Name n p=>some ⟨(n,p),rfl⟩|_=>none
def K1:(e:Ö)->Option {q:Str × Pos × Str × Pos × Nat × Pos // e=.Tuple [.Name q.1 q.2.1,.Name q.2.2.1 q.2.2.2.1] q.2.2.2.2.1 q.2.2.2.2.2}
 |.Tuple [.Name a q1,.Name b q2] k p=>some ⟨(a,q1,b,q2,k,p),rfl⟩|_=>none
def Nr:(e:List Ö)->Option {q:Str × Pos × Int × Nat × Pos × Pos // e=[.Subscript (.Name q.1 q.2.1) (.Constant (.int q.2.2.1) q.2.2.2.1 q.2.2.2.2.1) q.2.2.2.2.2]}
 |[.Subscript (.Name n p) (.Constant (.int j) c q1) r]=>some ⟨(n,p,j,c,q1,r),rfl⟩|_=>none
def Nt:(e:List Ö)->Option {q:Str × Pos × Str × Pos × List Ö × Pos × Pos // e=[.Call (.Name q.1 q.2.1) [.Call (.Name q.2.2.1 q.2.2.2.1) q.2.2.2.2.1 [] q.2.2.2.2.2.1] [] q.2.2.2.2.2.2]}
 |[.Call (.Name n p) [.Call (.Name m q1) l [] r] [] t]=>some ⟨(n,p,m,q1,l,r,t),rfl⟩|_=>none
def Ox(sc:ON):Ty->Ö->Bool
 |.seq=>λe=>opt (K1 e) λq=>q.1.1 == ("tuple":Str)&&q.1.2.2.1 == ("list":Str)&&glob sc "tuple"&&glob sc "list"|t=>λe=>opt (N9 e) λq=>q.1.1 == O8 (zT t)&&glob sc (O8 (zT t))
def Il:D->Bool
 |.dct=>true|_=>false
def E4:Ö->Bool
 |.IfExp ..=>true|_=>false
def mt:Bool->List (Str × List Str)->List (Str × Int)->Ex->ON->List Str->List Ö->Bool
 |lm,fns,nums,.nil=>λ_ _ es=>es.isEmpty
 |lm,fns,nums,.cons a r=>λsc N es=>match es with
  |e::es=>noStar e&&!bR a&&bR r&&mt lm fns nums a sc N [e]&&mt lm fns nums r sc N es|[]=>false
 |lm,fns,nums,.var i=>λ_ N es=>opt (KH es) λq=>N[i]? == some q.1.1&&aT q.1.1|lm,fns,nums,.con d=>λ_ _ es=>(opt (KI es) λq=>B9 q.1.1 d) || opt (KJ es) λ_=>Il d|lm,fns,nums,.gint g i=>λsc _ es=>opt (KH es) λq=>q.1.1 == g&&glob sc q.1.1&&nums.contains (g,i)|lm,fns,nums,.tup as=>λsc N es=>opt (KL es) λq=>bR as&&mt lm fns nums as sc N q.1.1|lm,fns,nums,.lst as=>λsc N es=>opt (KN es) λq=>bR as&&mt lm fns nums as sc N q.1.1|lm,fns,nums,.bin o a b=>λsc N es=>opt (KO es) λq=>q.1.2.1 == Ng o&&!bR a&&!bR b&&mt lm fns nums a sc N [q.1.1]&&mt lm fns nums b sc N [q.1.2.2.1]|lm,fns,nums,.cmp o a b=>λsc N es=>opt (KP es) λq=>q.1.2.1 == EW o&&d6 q.1.2.2.1&&!bR a&&!bR b&&mt lm fns nums a sc N [q.1.1]&&mt lm fns nums b sc N [q.1.2.2.1]|lm,fns,nums,.neg a=>λsc N es=>opt (KR es) λq=>!bR a&&mt lm fns nums a sc N [q.1.1]|lm,fns,nums,.not a=>λsc N es=>opt (KS es) λq=>!bR a&&!E4 q.1.1&&mt lm fns nums a sc N [q.1.1]|lm,fns,nums,.and a b=>λsc N es=>opt (KU es) λq=>!bR a&&!bR b&&!E4 q.1.1&&mt lm fns nums a sc N [q.1.1]&&(if q.1.2.2.1.isEmpty then !E4 q.1.2.1&&mt lm fns nums b sc N [q.1.2.1] else mt lm fns nums b sc N [.BoolOp .And (q.1.2.1::q.1.2.2.1) q.1.2.2.2])|lm,fns,nums,.or a b=>λsc N es=>opt (KW es) λq=>!bR a&&!bR b&&!E4 q.1.1&&mt lm fns nums a sc N [q.1.1]&&(if q.1.2.2.1.isEmpty then !E4 q.1.2.1&&mt lm fns nums b sc N [q.1.2.1] else mt lm fns nums b sc N [.BoolOp .Or (q.1.2.1::q.1.2.2.1) q.1.2.2.2])|lm,fns,nums,.orT a b=>λsc N es=>opt (KW es) λq=>!bR a&&!bR b&&q.1.2.2.1.isEmpty&&mt lm fns nums a sc N [q.1.1]&&mt lm fns nums b sc N [q.1.2.1]|lm,fns,nums,.ite c a b=>λsc N es=>opt (KY es) λq=>!bR c&&!bR a&&!bR b&&!E4 q.1.1&&mt lm fns nums c sc N [q.1.1]&&mt lm fns nums a sc N [q.1.2.1]&&mt lm fns nums b sc N [q.1.2.2.1]|lm,fns,nums,.ch o o' a b c=>λsc N es=>opt (Nm es) λq=>q.1.2.1 == EW o&&q.1.2.2.1 == EW o'&&d6 q.1.2.2.2.2.1&&!bR a&&!bR b&&!bR c&&mt lm fns nums a sc N [q.1.1]&&mt lm fns nums b sc N [q.1.2.2.2.1]&&mt lm fns nums c sc N [q.1.2.2.2.2.1]|lm,fns,nums,.bf f as=>λsc N es=>opt (KZ es) λq=>served f&&q.1.1 == (N8 f).1&&glob sc q.1.1&&bR as&&mt lm fns nums as sc N (q.1.2.2.1::q.1.2.2.2.1)|lm,fns,nums,.isi t a=>λsc N es=>opt (K0 es) λq=>q.1.1 == ("isinstance":Str)&&glob sc q.1.1&&noStar q.1.2.2.1&&!bR a&&mt lm fns nums a sc N [q.1.2.2.1]&&Ox sc t q.1.2.2.2.1|lm,fns,nums,.idx a i=>λsc N es=>opt (Np es) λq=>sk q.1.2.1&&!bR a&&!bR i&&mt lm fns nums a sc N [q.1.1]&&mt lm fns nums i sc N [q.1.2.1]|lm,fns,nums,.sl a lo hi=>λsc N es=>opt (Nq es) λq=>!bR a&&bR lo&&bR hi&&mt lm fns nums a sc N [q.1.1]&&mt lm fns nums lo sc N q.1.2.1.toList&&mt lm fns nums hi sc N q.1.2.2.1.toList|lm,fns,nums,.call f as=>λsc N es=>opt (KZ es) λq=>(opt fns[f]? λp=>p.1 == q.1.1&&p.2.length == q.1.2.2.2.1.length + 1)&&glob sc q.1.1&&bR as&&mt lm fns nums as sc N (q.1.2.2.1::q.1.2.2.2.1)
 |lm,fns,nums,.comp own aB p it src cond el=>λsc N es=>opt (Ik es) λq =>
   (bA q.1.2.1).length == own&&(bW N aB).length == aB.length&&lT q.1.2.2.2.2.1 sc N (bA q.1.2.1) (bW N aB)&&cG (bA q.1.2.1++(bW N aB).map (·.1)) (λx=>(bA q.1.2.1).contains x) p q.1.2.1&&bR src&&!bR el&&bR cond&&q.1.2.2.2.1.length<=1&&noStar q.1.1&&d6 q.1.2.2.1 &&
    q.1.2.2.2.1.all (λc=>!E4 c) &&
    (match it with
    |.seq=>mt lm fns nums src sc N [q.1.2.2.1]|.rng1=>opt (zW q.1.2.2.1) λr=>r.1.1 == ("range":Str)&&glob sc r.1.1&&mt lm fns nums src sc N [r.1.2.2.1]|.rng2=>opt (zX q.1.2.2.1) λr=>r.1.1 == ("range":Str)&&glob sc r.1.1&&mt lm fns nums src sc N [r.1.2.2.1,r.1.2.2.2.1]|.zip=>opt (zX q.1.2.2.1) λr=>r.1.1 == ("zip":Str)&&glob sc r.1.1&&dD q.1.2.1&&mt lm fns nums src sc N [r.1.2.2.1,r.1.2.2.2.1]|.enum=>opt (zW q.1.2.2.1) λr=>r.1.1 == ("enumerate":Str)&&glob sc r.1.1&&dD q.1.2.1&&mt lm fns nums src sc N [r.1.2.2.1]
    )&&mt false fns nums cond q.1.2.2.2.2.1 (bA q.1.2.1++(bW N aB).map (·.1)) q.1.2.2.2.1&&mt false fns nums el q.1.2.2.2.2.1 (bA q.1.2.1++(bW N aB).map (·.1)) [q.1.1]
 |lm,fns,nums,.lrng b as=>λsc N es=>opt (Nt es) λq=>q.1.1 == Gj b&&q.1.2.2.1 == ("range":Str)&&glob sc (Gj b)&&glob sc "range"&&bR as&&decide (1<=q.1.2.2.2.2.1.length/\q.1.2.2.2.2.1.length<=2)&&mt lm fns nums as sc N q.1.2.2.2.2.1|lm,fns,nums,.zget i k=>λ_ N es=>opt (Nr es) λq=>N[i]? == some q.1.1&&aT q.1.1&&q.1.2.2.1 == (k:Int)|lm,fns,nums,.flat a=>λsc N es=>opt (KQ es) λq=>lT q.1.2.2.2.2.2.2.2.1 sc N [q.1.1,q.1.2.1] []&&aT q.1.1&&aT q.1.2.1&&d6 q.1.2.2.2.2.1&&!bR a&&mt lm fns nums a sc N [q.1.2.2.2.2.1]|lm,fns,nums,.nP as=>λsc N es=>opt (Nj es) λq=>q.1.1 == ("len":Str)&&q.1.2.2.1 == ("set":Str)&&glob sc "len"&&glob sc "set"&&bR as&&mt lm fns nums as sc N [q.1.2.2.2.2.1]|lm,fns,nums,.dkeys a=>λsc N es=>opt (Nk es) λq=>lT q.1.2.2.2.2.2.2.1 sc N [q.1.1] []&&aT q.1.1&&d6 q.1.2.2.2.2.2.1&&!bR a&&mt lm fns nums a sc N [q.1.2.2.2.2.2.1]|lm,fns,nums,.memk o a i=>λsc N es=>opt (Nl o es) λq=>N[i]? == some q.1.2.1&&aT q.1.2.1&&!bR a&&mt lm fns nums a sc N [q.1.1]
theorem bF{sc:ON}{x:Str}(h:glob sc x=true):sc.names.lookup x=some .globalImplicit/\(x == ("__debug__":Str))=false/\x≠"__name__":=by
 unfold glob at h;simp only[Á,ô,beq_iff_eq] at h;refine⟨h.1.1,h.1.2,λe=>?_⟩;subst e;simp at h
section
variable {lm:Bool}{X:Cx}{G:Gs}{E:XK}{N:List Str}{sc:ON}
theorem Im{K:Â}{zA:Option Ë}{H0 H:Hp}{s:S}{v:V}(h:vO K zA H s v):jI K zA H0 H (gA s) v:=by cases s <;> exact h
theorem wJ(h:(!E4 e)=true):∀ t a b p,e≠.IfExp t a b p:=by
 intro t a b p he;subst he;cases h
theorem ay(hL:bR x=false)(h:Good X G E x [e]):aw X G E x e:=by
 cases x with
 |nil=>cases hL
 |cons _ _=>cases hL
 |_ =>
  obtain⟨e',h1,h2⟩:=(show ∃ e',[e]=[e']/\aw X G E _ e' from h);cases h1;exact h2
theorem aK(hL:bR x=false)(h:aw X G E x e):Good X G E x [e]:=by
 cases x with
 |nil=>cases hL
 |cons _ _=>cases hL
 |_=>exact⟨e,rfl,h⟩
theorem bG(po:oz X.K G zA E H Q r):∀ c z1,r=.er c z1->EPost G zA E c z1 H:=λc z1 e=>by subst e;exact po
theorem oC(po:ya G zA E H Q r):∀ c z1,r=.er c z1->EPost G zA E c z1 H:=λc z1 e=>by subst e;exact po
theorem K2(x:XI lm X G E N sc){i:Nat}{n:Str}{pos:Pos}(h1:N[i]?=some n)(h2:aT n=true):aw X G E (.var i) (.Name n pos):=by
 unfold aT at h2;simp only[Á,ô] at h2;refine aC (PE.imp (jD (i:=i) (by rw[x.hN];exact h1) (x.vis n (p5 h1)) h2.1 h2.2) λσ H Q q=>?_) rfl
 obtain⟨zA,ρ,z,r,rel,st,e,po⟩:=q;have e':(match ρ[i]? with | some (some s)=>M.ret [gA s] | _=>M.no) z=some r:=e
 cases hs:ρ[i]? with
 |none=>rw[hs] at e';cases e'
 |some o =>
  cases o with
  |none=>rw[hs] at e';cases e'
  |some s =>
   rw[hs] at e';cases e';obtain⟨v,hv,rv⟩:=rel i s hs;obtain⟨s',e',po⟩:=po;cases e';exact⟨v,hv,po v H Ext.refl st (Im rv)⟩
theorem K4{c:Const}{d:D}{j:Nat}{pos:Pos}(h:B9 c d=true):aw X G E (.con d) (.Constant c j pos):=by
 refine aC ?_ rfl;have fin:∀ {v:V},(∀ H,Hd X.K H d v)->∀ σ H Q,tI X.K G E (.con d) σ H Q->tC v σ H Q:=λ{v} hd σ H Q q=>by
  obtain⟨zA,ρ,z,r,rel,st,e,po⟩:=q;cases e;obtain⟨s',e',po⟩:=po;cases e';exact po v H Ext.refl st (oj (hd _))
 cases c with
 |int i=>cases d <;> first | (simp only[B9,beq_iff_eq] at h;subst h;exact PE.imp vQ (fin λH=>Hd.int)) | (cases h)
 |bool b=>cases d <;> first | (simp only[B9,beq_iff_eq] at h;subst h;exact PE.imp JQ (fin λH=>Hd.bl)) | (cases h)
 |str y=>cases d <;> first | (simp only[B9,beq_iff_eq] at h;subst h;exact PE.imp AN (fin λH=>Hd.str)) | (cases h)
 |none=>cases d <;> first | exact PE.imp GR (fin λH=>Hd.bw) | (cases h)
 |_=>cases h
theorem K5{pos:Pos}:aw X G E (.con .dct) (.Dict [] [] pos):=by
 refine aC (PE.imp Er λσ H Q q=>?_) rfl;obtain⟨zA,ρ,z,r,rel,st,e,po⟩:=q;cases e;obtain⟨s',e',po⟩:=po;cases e';intro p hp;refine po _ _ (Ext.of (ae.new _ hp)) (st.same (ae.new _ hp)) (oj ?_);unfold Hd;exact⟨p,[],rfl,bu a7 (st.rY hp)⟩
theorem Io(x:XI lm X G E N sc){g:Str}{i:Int}{pos:Pos}(h1:glob sc g=true)(h2:(g,i)∈G.nums):aw X G E (.gint g i) (.Name g pos):=by
 obtain⟨k1,k2,_⟩:=bF h1;obtain⟨t,ht⟩:=x.num _ h2;refine aC (PE.imp (DR (v:=.int i) (x.glb g k1) ht ⟨t,rfl⟩ k2) λσ H Q q=>?_) rfl;obtain⟨zA,ρ,z,r,rel,st,e,po⟩:=q;cases e;obtain⟨s',e',po⟩:=po;cases e';exact po _ H Ext.refl st cU
theorem js{K:Â}{zA:Option Ë}{H0 H:Hp}{l:List S}{vs:List V}{ds:List D}(h:Pd (jI K zA H0 H) l vs)(e:gB l=some ds):aJ K (hz zA H) ds vs:=uC.ds (Pd.ze h λ_ _ q=>q.pl) e
theorem K6{as:Ex}{l:List Ö}{k:Nat}{pos:Pos}(hL:bR as=true)(g:Good X G E as l):aw X G E (.tup as) (.Tuple l k pos):=by
 refine aC (PE.imp (A1 (g.args hL).1) λσ H Q q=>?_) rfl;obtain⟨zA,ρ,z,r,rel,st,e,po⟩:=q;refine oA rel st e (bG po) λl z1 e1 vs H1 x1 aQ rvs=>?_;obtain⟨ds,hd,e2⟩:=M.ah e1;split at e2
 ·rename_i hm;cases e2;obtain⟨s',e',po⟩:=po;cases e';have h:=js rvs hd;exact⟨cY (by rw[h.length];exact hm),λp hp=>po _ _ (x1.trans (Ext.of (ae.new _ hp))) (aQ.same (ae.new _ hp)) (oj (Hd.tup ((aQ.same (ae.new _ hp)).uz (cI.of a7)) (h.same (dQ (ae.new _ hp)))))⟩
 ·cases e2
theorem K7{as:Ex}{l:List Ö}{pos:Pos}(hL:bR as=true)(g:Good X G E as l):aw X G E (.lst as) (.List l pos):=by
 refine aC (PE.imp (Hi (g.args hL).1) λσ H Q q=>?_) rfl;obtain⟨zA,ρ,z,r,rel,st,e,po⟩:=q;refine oA rel st e (bG po) λl z1 e1 vs H1 x1 aQ rvs=>?_;obtain⟨ds,hd,e2⟩:=M.ah e1;split at e2
 ·rename_i hm;cases e2;obtain⟨s',e',po⟩:=po;cases e';have h:=js rvs hd;exact⟨cY (by rw[h.length];exact hm),λp hp=>po _ _ (x1.trans (Ext.of (ae.new _ hp))) (aQ.same (ae.new _ hp)) ((fE aQ h hp).from x1)⟩
 ·cases e2
theorem sr{α:Type}{a b:Ex}{k:D->D->M α}{zA:Option Ë}{ρ:Env}{z:Z}{r:R α}{σ:L2.St}{H:Hp}{Q:V->V->Hp->Prop}(rel:eA X.K zA H ρ σ)(st:aP zA z H)
  (h:M.bind (ev G.F a ρ) (λx=>M.bind (M.of (pl x)) λx=>M.bind (ev G.F b ρ) λy=>M.bind (M.of (pl y)) λy=>k x y) z=some r) (her:∀ c z1,r=.er c z1->EPost G zA E c z1 H)
  (hk:∀ dx dy z2 v w H2,k dx dy z2=some r->Ext zA H H2->aP zA z2 H2->Hd X.K (hz zA H2) dx v->Hd X.K (hz zA H2) dy w->Q v w H2) :
  tI X.K G E a σ H λv H1=>tI X.K G E b σ H1 λw H2=>Q v w H2:=by
 refine cz rel st h her λl z1 e1=>?_;obtain⟨dx,p1,e2⟩:=M.ah e1;obtain⟨s1,rfl,q1⟩:=cc p1;refine⟨s1,rfl,λv H1 x1 aQ rv=>?_⟩;refine cz (rel.mono x1) aQ e2 (λc z2 q=>(her c z2 q).mono x1) λm z2 e3=>?_;obtain⟨dy,p2,e4⟩:=M.ah e3;obtain⟨s2,rfl,q2⟩:=cc p2;exact⟨s2,rfl,λw H2 x2 st2 rw'=>hk dx dy z2 v w H2 e4 (x1.trans x2) st2 ((rv.pl.mono x2).d_ q1) (rw'.pl.d_ q2)⟩
theorem bJ{zA:Option Ë}{H H2:Hp}{z2:Z}{s:S}{Q:VK}(po:oz X.K G zA E H Q (.ok [s] z2))(x:Ext zA H H2)(st:aP zA z2 H2):∀ v H',ae H2 H'->jI X.K zA H2 H' s v->Q v H':=λv H' sm rv=>by
 obtain⟨s',e',po⟩:=po;cases e';exact po v H' (x.trans (Ext.of sm)) (st.same sm) (rv.from x)
theorem K8{o:Bi}{a b:Ex}{l r:Ö}{pos:Pos}(ga:aw X G E a l)(gb:aw X G E b r):aw X G E (.bin o a b) (.BinOp l (Ng o) r pos):=by
 refine aC (PE.imp (J9 (Ov o) ga.pe gb.pe) λσ H Q q=>?_) rfl;obtain⟨zA,ρ,z,rr,rel,st,e,po⟩:=q;refine sr rel st e (bG po) λdx dy z2 v w H2 e2 x2 st2 h1 h2=>?_;obtain⟨s,hs,e3⟩:=M.ah e2;cases e3;exact⟨zA,z2,dx,dy,s,st2,h1,h2,hs,bJ po x2 st2⟩
theorem wK(po:ya G zA E H Q r):oz X.K G zA E H (λx H'=>∃ k,x=.bl k/\Q k H') r:=by
 cases r with
 |er c z1=>exact po
 |ok l z1 =>
  obtain⟨b,rfl,po⟩:=po;exact⟨_,rfl,λv H' ex st' rv=>⟨b,Hd.vN (show Hd X.K (hz zA H') (.bl b) v from rv),po H' ex st'⟩⟩
theorem K9(x:XI lm X G E N sc){o:Cm}{a b:Ex}{l r:Ö}{pos:Pos}(hs:d6 r=true)(ga:aw X G E a l)(gb:aw X G E b r):aw X G E (.cmp o a b) (.Compare l [EW o] [r] pos):=by
 have key:∀ σ H Q,tI X.K G E (.cmp o a b) σ H Q->JH (om X.K λa b=>(ez o a b).map λc=>.d (.bl c)) (tI X.K G E a) (tI X.K G E b) σ H Q:=λσ H Q q=>by
  obtain⟨zA,ρ,z,rr,rel,st,e,po⟩:=q;refine sr rel st e (bG po) λdx dy z2 v w H2 e2 x2 st2 h1 h2=>?_;obtain⟨c,hc,e3⟩:=M.ah e2;cases e3;exact⟨zA,z2,dx,dy,_,st2,h1,h2,by show Rh _ (ez o dx dy)=_;rw[hc];rfl,bJ po x2 st2⟩
 refine⟨PE.imp (xD (zS x.room.units o) ga.pe gb.pe (wH hs _)) key,λ_=>PT.imp (xE (zS x.room.units o) ga.pe gb.pe (wH hs _)) λσ H Q q=>?_,λop vs p h=>by cases h⟩
 obtain⟨zA,ρ,z,rr,rel,st,e,po⟩:=q;exact key σ H _ ⟨zA,ρ,z,rr,rel,st,e,wK po⟩
theorem La{a:Ex}{l:Ö}{pos:Pos}(ga:aw X G E a l):aw X G E (.neg a) (.UnaryOp .USub l pos):=by
 refine aC (PE.imp (Ka Hg ga.pe) λσ H Q q=>?_) rfl;obtain⟨zA,ρ,z,rr,rel,st,e,po⟩:=q;refine cz rel st e (bG po) λm z1 e1=>?_;obtain⟨i,p1,e2⟩:=M.ah e1;obtain⟨d,p2,p3⟩:=Ñ.mp p1;obtain⟨s1,rfl,q1⟩:=cc p2;cases e2;refine⟨s1,rfl,λv H1 x1 aQ rv=>?_⟩;have hd:=rv.pl.d_ q1;cases d with
 |int j =>
  cases p3;exact⟨i,hd.bH,bJ po x1 aQ _ _ (ae.refl H1) cU⟩
 |_=>cases p3
theorem Lb{a:Ex}{l:Ö}{pos:Pos}(ga:aw X G E a l)(hn:∀ t x y p,l≠.IfExp t x y p):aw X G E (.not a) (.UnaryOp .Not l pos):=by
 refine⟨PE.imp (G1 ga.pe) λσ H Q q=>?_,λ_=>PT.imp (GY (ga.pt hn)) λσ H Q q=>?_,λop vs p h=>by cases h⟩
 ·obtain⟨zA,ρ,z,rr,rel,st,e,po⟩:=q;refine cz rel st e (bG po) λm z1 e1=>?_;obtain⟨b,p1,e2⟩:=M.ah e1;obtain⟨d,p2,p3⟩:=Ñ.mp p1;obtain⟨s1,rfl,q1⟩:=cc p2;cases e2;refine⟨s1,rfl,λv H1 x1 aQ rv=>?_⟩;have hd:=rv.pl.d_ q1;cases d with
  |bl c =>
   cases p3;exact⟨b,hd.vN,bJ po x1 aQ _ _ (ae.refl H1) bQ⟩
  |_=>cases p3
 ·obtain⟨zA,ρ,z,rr,rel,st,e,po⟩:=q;refine mz rel st e (oC po) λb z1 e1 H1 x1 aQ=>?_;cases e1;obtain⟨b',e',po⟩:=po;cases e';exact po H1 x1 aQ
end
end Q
namespace Q
open PySem L2 PySem.Spec PyProof.Rows
variable [TB:Tb]
section
variable {lm:Bool}{X:Cx}{G:Gs}{E:XK}{N:List Str}{sc:ON}
theorem nj(rel:eA X.K zA H ρ σ)(st:aP zA z H)
  (h:M.bind (ev G.F a ρ) (λx=>M.bind (M.of ((pl x).bind ll)) k) z=some r) (her:∀ c z1,r=.er c z1->EPost G zA E c z1 H)
  (bx:∀ b z1,k b z1=some r->∀ H1,Ext zA H H1->aP zA z1 H1->Q' (.bl b) H1):tI X.K G E a σ H Q':=by
 refine cz rel st h her λm z1 e1=>?_;obtain⟨b,p1,e2⟩:=M.ah e1;obtain⟨d,p2,p3⟩:=Ñ.mp p1;obtain⟨s1,rfl,q1⟩:=cc p2;refine⟨s1,rfl,λv H1 x1 aQ rv=>?_⟩;have hd:=rv.pl.d_ q1;cases d with
 |bl c =>
  cases p3;rw[hd.vN];exact bx b z1 e2 H1 x1 aQ
 |_=>cases p3
theorem Lc(ga:aw X G E a l)(hl:∀ t x y p,l≠.IfExp t x y p)
  (gb:aw X G E b (.BoolOp .And (r::vs) p)):aw X G E (.and a b) (.BoolOp .And (l::r::vs) p):=by
 have pw:PW X (.BoolOp .And (l::r::vs) p) (tT X.K G E (.and a b)):=by
  refine PW.imp (GW (ga.pt hl) (gb.pw _ _ _ rfl)) λσ H Q q=>?_;obtain⟨zA,ρ,z,rr,rel,st,e,po⟩:=q;refine mz rel st e (oC po) λc z1 e1 H1 x1 aQ=>?_;cases c with
  |true =>
   rw[if_pos rfl];rw[if_pos rfl] at e1;refine mz (rel.mono x1) aQ e1 (λc z2 q=>((oC po) c z2 q).mono x1) λc z2 e2 H2 x2 st2=>?_;cases e2;obtain⟨b',e',po⟩:=po;cases e';exact po H2 (x1.trans x2) st2
  |false =>
   rw[if_neg Õ];rw[if_neg Õ] at e1;cases e1;obtain⟨b',e',po⟩:=po;cases e';exact po H1 x1 aQ
 refine⟨PE.imp (G0 ga.pe gb.pe) λσ H Q q=>?_,λ_=>pw.pt,λop vs p h=>pw⟩;obtain⟨zA,ρ,z,rr,rel,st,e,po⟩:=q;refine nj rel st e (bG po) λc z1 e1 H1 x1 aQ=>⟨c,rfl,?_⟩;cases c with
 |true =>
  rw[if_pos rfl];rw[if_pos rfl] at e1;refine nj (rel.mono x1) aQ e1 (λc z2 q=>((bG po) c z2 q).mono x1) λc z2 e2 H2 x2 st2=>?_;cases e2;exact bJ po (x1.trans x2) st2 _ _ (ae.refl H2) bQ
 |false =>
  rw[if_neg Õ];rw[if_neg Õ] at e1;cases e1;exact bJ po x1 aQ _ _ (ae.refl H1) bQ
theorem Nu(ga:aw X G E a l)(hl:∀ t x y p,l≠.IfExp t x y p)
  (gb:aw X G E b (.BoolOp .Or (r::vs) p)):aw X G E (.or a b) (.BoolOp .Or (l::r::vs) p):=by
 have pw:PW X (.BoolOp .Or (l::r::vs) p) (tT X.K G E (.or a b)):=by
  refine PW.imp (JR (ga.pt hl) (gb.pw _ _ _ rfl)) λσ H Q q=>?_;obtain⟨zA,ρ,z,rr,rel,st,e,po⟩:=q;refine mz rel st e (oC po) λc z1 e1 H1 x1 aQ=>?_;cases c with
  |false =>
   rw[if_neg Õ];rw[if_neg Õ] at e1;refine mz (rel.mono x1) aQ e1 (λc z2 q=>((oC po) c z2 q).mono x1) λc z2 e2 H2 x2 st2=>?_;cases e2;obtain⟨b',e',po⟩:=po;cases e';exact po H2 (x1.trans x2) st2
  |true =>
   rw[if_pos rfl];rw[if_pos rfl] at e1;cases e1;obtain⟨b',e',po⟩:=po;cases e';exact po H1 x1 aQ
 refine⟨PE.imp (JU ga.pe gb.pe) λσ H Q q=>?_,λ_=>pw.pt,λop vs p h=>pw⟩;obtain⟨zA,ρ,z,rr,rel,st,e,po⟩:=q;refine nj rel st e (bG po) λc z1 e1 H1 x1 aQ=>⟨c,rfl,?_⟩;cases c with
 |false =>
  rw[if_neg Õ];rw[if_neg Õ] at e1;refine nj (rel.mono x1) aQ e1 (λc z2 q=>((bG po) c z2 q).mono x1) λc z2 e2 H2 x2 st2=>?_;cases e2;exact bJ po (x1.trans x2) st2 _ _ (ae.refl H2) bQ
 |true =>
  rw[if_pos rfl];rw[if_pos rfl] at e1;cases e1;exact bJ po x1 aQ _ _ (ae.refl H1) bQ
theorem Gp(gb:aw X G E b r)(hr:∀ t x y p,r≠.IfExp t x y p):aw X G E b (.BoolOp op [r] p):=by
 have pw:PW X (.BoolOp op [r] p) (tT X.K G E b):=by
  cases op with
  |And=>exact DS (gb.pt hr)|Or=>exact GV (gb.pt hr)
 exact⟨GZ gb.pe,λ_=>pw.pt,λ_ _ _ _=>pw⟩
theorem oz.Gq(po:oz X.K G zA E H Q rr)(x1:Ext zA H H1):oz X.K G zA E H1 Q rr:=by
 cases rr with
 |er c z1=>exact EPost.mono po x1
 |ok l z2 =>
  obtain⟨s,e',po⟩:=po;exact⟨s,e',λv H' x' st' rv=>po v H' (x1.trans x') st' (rv.from x1)⟩
theorem qC{α:Type}{m:M α}{z:Z}{r:R α}(h:M.calm m z=some r):m z=some r/\∃ a z1,r=.ok a z1:=by
 unfold M.calm at h;split at h
 ·rename_i a z1 e;cases h;exact⟨e,a,z1,rfl⟩
 ·cases h
theorem Ip{a b:Ö}{ta tb:TE}{pos:Pos}(ha:PE X a ta)(hb:PE X b tb):PE X (.BoolOp .Or [a,b] pos) (λσ H Q=>ta σ H λx H1=>∃ t xs,x=.ref t/\cI X.K H1 t xs/\if xs.isEmpty=true then tb σ H1 Q else Q x H1):=by
 intro aa s σ H Q I h;refine BoolOp_or (b8 (ha aa s σ H _ I h) λv s1 ⟨x,H1,I1,r1,q1⟩=>?_);obtain⟨t,xs,rfl,hq,q1⟩:=q1;obtain⟨ai,hv,ht,hl⟩:=I1.tuple hq;have hlen:xs.length=ai.length:=hv.length;cases r1;refine truthy_tuple ht (by rw[ß,← hlen];have:=O2;omega) ?_
 cases xs with
 |nil =>
  cases ai with
  |nil=>exact BoolOp_one (hb aa _ σ H1 Q (I1.tok _) q1)|cons _ _=>cases hlen
 |cons y r =>
  cases ai with
  |nil=>cases hlen
  |cons _ _=>exact⟨.ref t,H1,I1.tok _,rfl,q1⟩
theorem Ca(h:(pl y).bind qa=some l):∃ s,y=[s]/\BE s=some (.tup l):=by
 obtain⟨d,p2,p3⟩:=Ñ.mp h;obtain⟨s1,rfl,q1⟩:=cc p2;cases d with
 |tup l=>cases p3;exact⟨s1,rfl,q1⟩
 |_=>cases p3
theorem Ld(ga:aw X G E a l)(gb:aw X G E b r):aw X G E (.orT a b) (.BoolOp .Or [l,r] p):=by
 have no:∀ {zA:Option Ë}{ρ:Env}{z:Z}{rr:R (List S)}{H:Hp}{Q:Bool->Hp->Prop},ev G.F (.orT a b) ρ z=some rr->ya G zA E H Q rr->False:=λe po=>by
  obtain⟨e,u,z1,rfl⟩:=qC e;obtain⟨c,rfl,_⟩:=po;rcases M.bind_some e with ⟨m,z2,_,e2⟩ | ⟨c,z2,_,e2⟩
  ·obtain⟨ds,_,e3⟩:=M.ah e2;split at e3
   ·rcases M.bind_some e3 with ⟨m,z2,_,e2⟩ | ⟨c,z2,_,e2⟩
    ·obtain⟨ds,_,e3⟩:=M.ah e2;cases e3
    ·cases e2
   ·cases e3
  ·cases e2
 refine⟨PE.imp (Ip ga.pe gb.pe) λσ H Q q=>?_,λ_ aa s σ H Q I ⟨_,_,_,_,_,_,e,po⟩=>(no e po).elim,λ_ _ _ _ wh aa s σ H Q I ⟨_,_,_,_,_,_,e,po⟩=>(no e po).elim⟩;obtain⟨zA,ρ,z,rr,rel,st,e,po⟩:=q;obtain⟨e,u,z1,rfl⟩:=qC e;refine cz rel st e (bG po) λm z1 e1=>?_;obtain⟨ds,p1,e2⟩:=M.ah e1;obtain⟨s1,rfl,q1⟩:=Ca p1;refine⟨s1,rfl,λv H1 x1 aQ rv=>?_⟩;have hd:=rv.pl.d_ q1;obtain⟨t,xs,rfl,h1,h2⟩:=hd.dz;refine⟨t,xs,rfl,(ag zA H1).il h1,?_⟩;cases ds with
 |nil =>
  cases h2.bz;have po:=po.Gq x1;refine cz (rel.mono x1) aQ e2 (bG po) λm z1 e1=>?_;obtain⟨ds,p1,e2⟩:=M.ah e1;obtain⟨s1,rfl,q1⟩:=Ca p1;cases e2;exact⟨s1,rfl,λv H2 x2 st2 rv=>bJ po x2 st2 _ _ (ae.refl H2) (rv.pl.d_ q1)⟩
 |cons y r =>
  obtain⟨u,w,rfl,_⟩:=h2.aH;cases e2;exact bJ po x1 aQ _ _ (ae.refl H1) hd
theorem Lf(gc:aw X G E c t)(ht:∀ a b d p,t≠.IfExp a b d p)(ga:aw X G E a x)(gb:aw X G E b y):aw X G E (.ite c a b) (.IfExp t x y p):=by
 refine⟨PE.imp (AO (gc.pt ht) ga.pe gb.pe) λσ H Q q=>?_,λh=>absurd rfl (h t x y p),λop vs p h=>by cases h⟩
 obtain⟨zA,ρ,z,rr,rel,st,e,po⟩:=q;refine mz rel st e (bG po) λk z1 e1 H1 x1 aQ=>?_;have po1:=po.Gq x1;cases k with
 |true =>
  rw[if_pos rfl];rw[if_pos rfl] at e1;exact⟨zA,ρ,z1,rr,rel.mono x1,aQ,e1,po1⟩
 |false =>
  rw[if_neg Õ];rw[if_neg Õ] at e1;exact⟨zA,ρ,z1,rr,rel.mono x1,aQ,e1,po1⟩
theorem Nv(x:XI lm X G E N sc){o o':Cm}{a b c:Ex}{l r s:Ö}{pos:Pos}(hs:d6 s=true)(ga:aw X G E a l)(gb:aw X G E b r)(gc:aw X G E c s):aw X G E (.ch o o' a b c) (.Compare l [EW o,EW o'] [r,s] pos):=by
 have hm:X6 [EW o,EW o'] [r,s]=false:=wH hs _;have key:∀ σ H Q,tI X.K G E (.ch o o' a b c) σ H Q->vU (om X.K λa b=>(ez o a b).map λc=>.d (.bl c)) (om X.K λa b=>(ez o' a b).map λc=>.d (.bl c)) (tI X.K G E a) (tI X.K G E b) (tI X.K G E c) σ H Q:=λσ H Q q=>by
  obtain⟨zA,ρ,z,rr,rel,st,e,po⟩:=q;refine sr rel st e (bG po) λdx dy z2 v w H2 e2 x2 st2 h1 h2=>?_;obtain⟨k,hk,e3⟩:=M.ah e2;refine⟨zA,z2,dx,dy,.d (.bl k),st2,h1,h2,by show Rh _ (ez o dx dy)=_;rw[hk];rfl,λv3 H3 sm rv=>⟨k,Hd.vN (show Hd X.K (hz zA H3) (.bl k) v3 from rv),?_⟩⟩
  have x3:=x2.trans (Ext.of sm);have st3:=st2.same sm;cases k with
  |true =>
   rw[if_pos rfl];rw[if_pos rfl] at e3;refine cz (rel.mono x3) st3 e3 (λc z2 q=>((bG po) c z2 q).mono x3) λm z4 e4=>?_;obtain⟨dw,p1,e5⟩:=M.ah e4;obtain⟨k',hk',e6⟩:=M.ah e5;obtain⟨s1,rfl,q1⟩:=cc p1;cases e6;refine⟨s1,rfl,λv4 H4 x4 st4 rv4=>?_⟩;exact⟨zA,z4,dy,dw,_,st4,(h2.same (ae.trans (dQ sm) x4)),rv4.pl.d_ q1,by show Rh _ (ez o' dy dw)=_;rw[hk'];rfl,bJ po (x3.trans x4) st4⟩
  |false =>
   rw[if_neg Õ];rw[if_neg Õ] at e3;cases e3;exact bJ po x3 st3 _ _ (ae.refl H3) bQ
 refine⟨PE.imp (AZ (zS x.room.units o) (zS x.room.units o') ga.pe gb.pe gc.pe hm) key,λ_=>PT.imp (A0 (zS x.room.units o) (zS x.room.units o') ga.pe gb.pe gc.pe hm) λσ H Q q=>?_,λop vs p h=>by cases h⟩
 obtain⟨zA,ρ,z,rr,rel,st,e,po⟩:=q;exact key σ H _ ⟨zA,ρ,z,rr,rel,st,e,wK po⟩
theorem Cb:∀ σ H Q,tI X.K G E (.bf f as) σ H Q->MW (zP X.K (mR f)) (tA X.K G E as) σ H Q:=λσ H Q q=>by
 obtain⟨zA,ρ,z,rr,rel,st,e,po⟩:=q;refine oA rel st e (bG po) λl z1 e1 vs H1 x1 aQ rvs=>?_;obtain⟨ds,hd,e2⟩:=M.ah e1;obtain⟨s,hs,e3⟩:=M.ah e2;cases e3;exact⟨zA,z1,ds,s,aQ,js rvs hd,hs,bJ po x1 aQ⟩
theorem oD(x:XI lm X G E N sc){f:Bf}{as:Ex}{n:Str}{id:String}{e:Ö}{l:List Ö}{p pos:Pos}(hc:bP X (.builtin id) (zP X.K (mR f)))(hb:n∈wI)(hv:ù n=some (.builtin id))(hg:glob sc n=true)(hL:bR as=true)(g:Good X G E as (e::l)):aw X G E (.bf f as) (.Call (.Name n p) (e::l) [] pos):=by
 obtain⟨k1,k2,k3⟩:=bF hg;obtain⟨ha,hs⟩:=g.args hL;rw[O5,Á] at hs;exact aC (PE.imp (kc hc (x.glb n k1) (x.blt n hb) hv ha k3 k2 (bg hs.1 l X.env) (f7 X.env pos hs.2)) Cb) rfl
theorem Cc(x:XI lm X G E N sc){f:Bf}{as:Ex}{n:Str}{T:String}{e:Ö}{l:List Ö}{p pos:Pos}(hc:bP X (.type T) (zP X.K (mR f)))(hb:n∈wI)(hv:ù n=some (.type T))(hg:glob sc n=true)(hL:bR as=true)(g:Good X G E as (e::l)):aw X G E (.bf f as) (.Call (.Name n p) (e::l) [] pos):=by
 obtain⟨k1,k2,k3⟩:=bF hg;obtain⟨ha,hs⟩:=g.args hL;rw[O5,Á] at hs;exact aC (PE.imp (qr hc (x.glb n k1) (x.blt n hb) hv ha k3 k2 (bg hs.1 l X.env) (f7 X.env pos hs.2)) Cb) rfl
theorem Cd:ù "len"=some (.builtin "len"):=by decide +kernel
theorem zY:ù "sorted"=some (.builtin "sorted"):=by decide +kernel
theorem Iq:ù "all"=some (.builtin "all"):=by decide +kernel
theorem Ir:ù "any"=some (.builtin "any"):=by decide +kernel
theorem Iu:ù "sum"=some (.builtin "sum"):=by decide +kernel
theorem Iv:ù "min"=some (.builtin "min"):=by decide +kernel
theorem Iw:ù "max"=some (.builtin "max"):=by decide +kernel
theorem jt:ù "isinstance"=some (.builtin "isinstance"):=by decide +kernel
theorem Iy:ù "int"=some (.type "int"):=by decide +kernel
theorem oE:ù "tuple"=some (.type "tuple"):=by decide +kernel
theorem su:ù "list"=some (.type "list"):=by decide +kernel
theorem Nw(x:XI lm X G E N sc){f:Bf}{as:Ex}{n:Str}{e:Ö}{l:List Ö}{p pos:Pos}(hf:served f=true)(hn:n=(N8 f).1)(hg:glob sc n=true)(hL:bR as=true)(g:Good X G E as (e::l)):aw X G E (.bf f as) (.Call (.Name n p) (e::l) [] pos):=by
 subst hn;cases f with
 |len=>exact oD x HW (-0) Cd hg hL g|tuple=>exact Cc x BR (-0) oE hg hL g|list=>exact Cc x EX (-0) su hg hL g|min=>exact oD x (H9 x.calm) (-0) Iv hg hL g|max=>exact oD x (Ia x.calm) (-0) Iw hg hL g|all=>exact oD x (HX x.calm) (-0) Iq hg hL g|any=>exact oD x (HZ x.calm) (-0) Ir hg hL g|int=>exact Cc x Ib (-0) Iy hg hL g|sorted=>exact oD x (zU x.room.units) (-0) zY hg hL g|sum=>exact oD x (HY x.calm) (-0) Iu hg hL g|_=>cases hf
theorem Lg(t:Ty)(h:t≠.seq):O8 (zT t)∈wI/\ù (O8 (zT t))=some (.type (zT t))/\zT t∈["int","bool","tuple","list","str"]:=by
 cases t with
 |seq=>exact absurd rfl h|_=>decide +kernel
theorem Iz(x:XI lm X G E N sc){t:Ty}{a:Ex}{n:Str}{e:Ö}{p pos p2:Pos}(hs:t≠.seq)
  (hg2:glob sc (O8 (zT t))=true) (hn:n="isinstance") (hg:glob sc n=true) (ns:noStar e=true) (ga:aw X G E a e):aw X G E (.isi t a) (.Call (.Name n p) [e,.Name (O8 (zT t)) p2] [] pos):=by
 obtain⟨hb,hv,ht⟩:=Lg t hs;subst hn;obtain⟨k1,k2,k3⟩:=bF hg;obtain⟨m1,m2,m3⟩:=bF hg2;refine aC (PE.imp (kc Bv (x.glb _ k1) (x.blt _ (-0)) jt (eh ga.pe (eh (rm (v:=.ty (zT t)) (x.glb _ m1) (x.blt _ hb) hv rfl m3 m2) lz) (bg ns _ _)) k3 k2 (bg ns _ _) rfl) λσ H Q q=>?_) rfl
 obtain⟨zA,ρ,z,rr,rel,st,e,po⟩:=q;refine cz rel st e (bG po) λm z1 e1=>?_;obtain⟨d,p1,e2⟩:=M.ah e1;obtain⟨s1,rfl,q1⟩:=cc p1;cases e2;refine⟨s1,rfl,λv H1 x1 aQ rv=>⟨d,v,zT t,rfl,((rv.pl.d_ q1).same (ag zA H1)).has,ht,?_⟩⟩;rw[EY t d hs];exact bJ po x1 aQ _ _ (ae.refl H1) bQ
theorem IA(x:XI lm X G E N sc){a:Ex}{n:Str}{e:Ö}{p pos p1 p2 p3:Pos}{k:Nat}(hg2:glob sc "tuple"=true)(hg3:glob sc "list"=true)(hn:n="isinstance")(hg:glob sc n=true)(ns:noStar e=true)(ga:aw X G E a e) :
  aw X G E (.isi .seq a) (.Call (.Name n p) [e,.Tuple [.Name "tuple" p1,.Name "list" p2] k p3] [] pos):=by
 subst hn;obtain⟨k1,k2,k3⟩:=bF hg;obtain⟨m1,m2,m3⟩:=bF hg2;obtain⟨l1,l2,l3⟩:=bF hg3;refine aC (PE.imp (kc zD (x.glb _ k1) (x.blt _ (-0)) jt (eh ga.pe (eh (A1 (eh (rm (v:=.ty "tuple") (x.glb _ m1) (x.blt _ (-0)) oE rfl m3 m2)
  (eh (rm (v:=.ty "list") (x.glb _ l1) (x.blt _ (-0)) su rfl l3 l2) lz))) lz) (bg ns _ _)) k3 k2 (bg ns _ _) rfl) λσ H Q q=>?_) rfl
 obtain⟨zA,ρ,z,rr,rel,st,e,po⟩:=q;refine cz rel st e (bG po) λm z1 e1=>?_;obtain⟨d,p1,e2⟩:=M.ah e1;obtain⟨s1,rfl,q1⟩:=cc p1;cases e2;refine⟨s1,rfl,λv H1 x1 aQ rv=>⟨by show 2<=sizeLine;rw[O2];decide,λt ht=>?_⟩⟩
 have sm:ae H1 (upd H1 t (.tup [.ty "tuple",.ty "list"])):=ae.new _ ht;refine⟨d,v,t,rfl,((rv.pl.d_ q1).same (ae.trans (ag zA H1) sm)).has,cI.of a7,?_⟩;rw[BW d];exact bJ po x1 aQ _ _ sm bQ
theorem Lh{a i:Ex}{v x:Ö}{pos:Pos}(hs:sk x=true)(ga:aw X G E a v)(gi:aw X G E i x):aw X G E (.idx a i) (.Subscript v x pos):=by
 refine aC (PE.imp (Gf Ow ga.pe gi.pe (oB hs)) λσ H Q q=>?_) rfl;obtain⟨zA,ρ,z,rr,rel,st,e,po⟩:=q;refine sr rel st e (bG po) λdx dy z2 v w H2 e2 x2 st2 h1 h2=>?_;obtain⟨c,hc,e3⟩:=M.ah e2;cases e3;exact⟨zA,z2,dx,dy,_,st2,h1,h2,by show Rh _ (iB dx dy)=_;rw[hc];rfl,bJ po x2 st2⟩
theorem IB(x:XI lm X G E N sc){i k:Nat}{n:Str}{c:Nat}{p q pos:Pos}(h1:N[i]?=some n)(h2:aT n=true):aw X G E (.zget i k) (.Subscript (.Name n p) (.Constant (.int k) c q) pos):=by
 unfold aT at h2;simp only[Á,ô] at h2;refine aC (PE.imp (Gf xJ (jD (i:=i) (by rw[x.hN];exact h1) (x.vis n (p5 h1)) h2.1 h2.2) vQ (oB rfl)) λσ H Q qq=>?_) rfl
 obtain⟨zA,ρ,z,rr,rel,st,e,po⟩:=qq;have e0:uk k ρ[i]? z=some rr:=e;unfold uk at e0;split at e0
 ·rename_i p hs;obtain⟨v,hv,a,hz',rfl⟩:=rel i .z hs;subst hz';have st':H a=some (.lst [.int p.1,.bl p.2]):=st.zat;refine⟨_,hv,a,[.int p.1,.bl p.2],(k:Int),?_⟩;split at e0
  ·rename_i hk;subst hk;cases e0;obtain⟨s',e',po⟩:=po;cases e';exact⟨_,rfl,rfl,jj.of st',rfl,po _ H Ext.refl st cU⟩
  ·split at e0
   ·rename_i hk;subst hk;cases e0;obtain⟨s',e',po⟩:=po;cases e';exact⟨_,rfl,rfl,jj.of st',rfl,po _ H Ext.refl st (oj Hd.bl)⟩
   ·cases e0
 ·cases e0
theorem uI(a:Int):∀ (n:Nat) {ai:List Ä},ai.length=n->(∀ i,i < n->∃ v t,ai[i]?=some v/\v=.int (a + (i:Nat)) t)->Vals ((é n).map λ(k:Nat)=>V.int (a + k)) ai:=by
 intro n ai hl h;have:∀ (m:Nat) (l:List Ä) (o:Nat),l.length=m->(∀ i,i < m->∃ v t,l[i]?=some v/\v=.int (a + (o + i:Nat)) t)->Vals ((range' o m 1).map λ(k:Nat)=>V.int (a + k)) l:=by
  intro m
  induction m with
  |zero =>
   intro l o hl _;rw[List.length_eq_zero_iff.mp hl];exact .nil
  |succ m ih =>
   intro l o hl h;cases l with
   |nil=>cases hl
   |cons x r =>
    obtain⟨v,t,e1,e2⟩:=h 0 (Nat.succ_pos m);simp only[UT,Sz] at e1;subst e1;rw[TR,Qw];refine .cons ⟨t,by rw[e2];simp⟩ (ih r (o + 1) (by simpa using hl) λi hi=>?_)
    obtain⟨v,t,e1,e2⟩:=h (i + 1) (Nat.succ_lt_succ hi);exact⟨v,t,by simpa using e1,by rw[e2];congr 1;omega⟩
 rw[Q3];exact this n ai 0 hl λi hi=>by
  obtain⟨v,t,e1,e2⟩:=h i hi;exact⟨v,t,e1,by rw[e2];simp⟩
theorem zZ:ù "range"=some (.type "range"):=by decide +kernel
def Oy:List V->Option (Int × Int)
 |[.int j]=>some (0,j)|[.int i,.int j]=>some (i,j)|_=>none
def Nx:Bool->List V->HO
 |true=>HO.tup|false=>HO.lst
def Oa:Bool->String
 |true=>"tuple"|false=>"list"
def Li(b:Bool)(ta:TA):TE:=λσ H Q=>ta σ H λvs H1=>∃ i j:Int,Oy vs=some (i,j)/\-100000 < i/\i < 100000/\-100000 < j/\j < 100000/\∀ l,H1 l=none->Q (.ref l) (upd H1 l (Nx b ((é (j - i).toNat).map λ(k:Nat)=>V.int (i + k))))
theorem IC{aa:List (Ë × Obj)}{σ:L2.St}{H1:Hp}{s1:É}{r:Ë}{i j:Int}{t u v:Tok}{Q:VK}(hc:X.calm=true)(I2:Inv X aa σ H1 s1)(hr:U0 s1.heap r i j 1 t u v)(i1:-100000 < i)(i2:i < 100000)(j1:-100000 < j)(j2:j < 100000)
  (q:∀ l,H1 l=none->Q (.ref l) (upd H1 l (.lst ((é (j - i).toNat).map λ(k:Nat)=>V.int (i + k))))):Ú (Ù X.prog X.w) X.A (call (.type "list") [.ref r]) (EP X aa σ Q) X.xe s1:=by
 have hz:Po i j 1=(((j - i).toNat:Nat):Int):=by rw[VH];split <;> omega
 refine call_list_range (n:=(j - i).toNat) (I2.ok.hd hc) hr (X4 ∅ ∅ ∅ ∅) hz ∅ λh' tk acc' c' kp hS hacc=>?_
 have rv:Vals ((é (j - i).toNat).map λ(k:Nat)=>V.int (i + k)) acc'.toList:=by
  refine uI i (j - i).toNat ?_ λi hi=>?_
  ·rw[Q0];exact hacc.1
  ·have hlt:i < acc'.size:=by rw[hacc.1];exact hi
   obtain⟨t,e⟩:=hacc.2 i acc'[i] (QM hlt);exact⟨acc'[i],t,by rw[Rj];exact QM hlt,by rw[e];simp⟩
 have hlen:((é (j - i).toNat).map λ(k:Nat)=>V.int (i + k)).length<=sizeLine:=by rw[Ç,p6,O2];omega
 have hn:=I2.bx.fresh (Ô _);exact⟨.ref _,_,I2.laid (t':=tk) kp (Ô _) (show cD X.prog X.w _ h' _ (.lst _) from⟨hlen,acc'.toList,c',rv,by rw[RT];exact hS⟩),rfl,q _ hn⟩
theorem E5{aa:List (Ë × Obj)}{σ:L2.St}{H1:Hp}{s1:É}{r:Ë}{i j:Int}{t u v:Tok}{Q:VK}(hc:X.calm=true)(I2:Inv X aa σ H1 s1)(hr:U0 s1.heap r i j 1 t u v)(i1:-100000 < i)(i2:i < 100000)(j1:-100000 < j)(j2:j < 100000)
  (q:∀ l,H1 l=none->Q (.ref l) (upd H1 l (.tup ((é (j - i).toNat).map λ(k:Nat)=>V.int (i + k))))):Ú (Ù X.prog X.w) X.A (call (.type "tuple") [.ref r]) (EP X aa σ Q) X.xe s1:=by
 have hz:Po i j 1=(((j - i).toNat:Nat):Int):=by rw[VH];split <;> omega
 refine HT.tuple_range (n:=(j - i).toNat) (I2.ok.hd hc) hr (X4 ∅ ∅ ∅ ∅) hz ∅ λh' tk acc' kp hsz hacc=>?_
 have rv:Vals ((é (j - i).toNat).map λ(k:Nat)=>V.int (i + k)) acc'.toList:=by
  refine uI i (j - i).toNat ?_ λi hi=>?_
  ·rw[Q0];exact hacc.1
  ·have hlt:i < acc'.size:=by rw[hacc.1];exact hi
   obtain⟨t,e⟩:=hacc.2 i acc'[i] (QM hlt);exact⟨acc'[i],t,by rw[Rj];exact QM hlt,by rw[e];simp⟩
 have hlen:((é (j - i).toNat).map λ(k:Nat)=>V.int (i + k)).length<=sizeLine:=by rw[Ç,p6,O2];omega
 exact⟨.ref _,_,I2.laid (t':=tk) (λb o e=>Ã _ (kp b o e)) hsz (show cD X.prog X.w _ _ _ (.tup _) from⟨hlen,acc'.toList,rv,⟨_,Í _ rfl,rfl,0,by rw[RT]⟩⟩),rfl,q _ (I2.bx.fresh hsz)⟩
theorem yb(b:Bool){aa:List (Ë × Obj)}{σ:L2.St}{H1:Hp}{s1:É}{r:Ë}{i j:Int}{t u v:Tok}{Q:VK}(hc:X.calm=true)(I2:Inv X aa σ H1 s1)(hr:U0 s1.heap r i j 1 t u v)(i1:-100000 < i)(i2:i < 100000)(j1:-100000 < j)(j2:j < 100000)
  (q:∀ l,H1 l=none->Q (.ref l) (upd H1 l (Nx b ((é (j - i).toNat).map λ(k:Nat)=>V.int (i + k))))):Ú (Ù X.prog X.w) X.A (call (.type (Oa b)) [.ref r]) (EP X aa σ Q) X.xe s1:=by
 cases b with
 |true=>exact E5 hc I2 hr i1 i2 j1 j2 q|false=>exact IC hc I2 hr i1 i2 j1 j2 q
theorem Lj(b:Bool):ù (Gj b)=some (.type (Oa b)):=by
 cases b with
 |true=>exact oE|false=>exact su
theorem z9(b:Bool){e:Ö}{l:List Ö}{ta:TA}{p p2 pos pos2:Pos}(hc:X.calm=true)(hg:Gl X (Gj b))(hm:X.mg (Gj b)=none)(hg2:Gl X "range")(hm2:X.mg "range"=none)(ha:PA X (e::l) ta)(hs:noStar e=true)(hs2:l.all noStar=true) :
  PE X (.Call (.Name (Gj b) p) [.Call (.Name "range" p2) (e::l) [] pos2] [] pos) (Li b ta):=by
 intro aa s σ H Q I h;refine XY (gu I hg hm (Lj b) (OS (VT ?_) rfl rfl) (by cases b <;> decide) (by cases b <;> decide))
 refine XY (gu I hg2 hm2 zZ (OS (b8 (ha pos2 aa s σ H _ I h) λus s1 ⟨vs,H1,I1,r1,q1⟩=>?_) (bg hs l X.env) (f7 X.env pos2 hs2)));obtain⟨i,j,hv,i1,i2,j1,j2,q⟩:=q1
 match vs,hv with
 |[.int _],hv =>
  cases hv;obtain⟨u,rfl,r⟩:=vals1 r1;obtain⟨t,rfl⟩:=r;exact call_range_1 (Tf (yb b hc (I1.kept λb o e=>Ã _ e) (UU ..) i1 i2 j1 j2 q))
 |[.int _,.int _],hv =>
  cases hv;obtain⟨u,u',rfl,r,r'⟩:=vals2 r1;obtain⟨t,rfl⟩:=r;obtain⟨t',rfl⟩:=r';exact call_range_2 (Tf (yb b hc (I1.kept λb o e=>Ã _ e) (UU ..) i1 i2 j1 j2 q))
theorem Ce:∀ {ds xs:List D},Mm ds=some xs->∃ i j:Int,((ds=[.int j]/\i=0)∨ds=[.int i,.int j])/\-100000 < i/\i < 100000/\-100000 < j/\j < 100000/\xs=(é (j - i).toNat).map λ(k:Nat)=>D.int (i + k)
 |[],_,h=>by cases h
 |[x],xs,h=>by
  cases x with
  |int j =>
   obtain⟨hj,h⟩:=bV h;have hj:=kz.mp hj;exact⟨0,j,.inl ⟨rfl,rfl⟩,by omega,by omega,hj.1,hj.2,by cases h;simp⟩
  |_=>cases h
 |[x,y],xs,h=>by
  cases x with
  |int i =>
   cases y with
   |int j =>
    obtain⟨hj,h⟩:=bV h;have h1:=kz.mp hj.1;have h2:=kz.mp hj.2;exact⟨i,j,.inr rfl,h1.1,h1.2,h2.1,h2.2,by cases h;rfl⟩
   |_=>cases h
  |_=>cases h
 |x::y::_::_,_,h=>by
  cases x with
  |int i=>cases y <;> cases h
  |_=>cases h
theorem ID(x:XI lm X G E N sc){b:Bool}{as:Ex}{a:Ö}{l:List Ö}{p p2 pos pos2:Pos}(h1:glob sc (Gj b)=true)(h2:glob sc "range"=true)(hL:bR as=true)(g:Good X G E as (a::l)):aw X G E (.lrng b as) (.Call (.Name (Gj b) p) [.Call (.Name "range" p2) (a::l) [] pos2] [] pos):=by
 obtain⟨k1,_,_⟩:=bF h1;obtain⟨m1,_,_⟩:=bF h2;obtain⟨ha,hs⟩:=g.args hL;rw[O5,Á] at hs;refine aC (PE.imp (z9 b x.calm (x.glb _ k1) (x.blt _ (by cases b <;> decide)) (x.glb _ m1) (x.blt _ (-0)) ha hs.1 hs.2) λσ H Q q=>?_) rfl
 obtain⟨zA,ρ,z,rr,rel,st,e,po⟩:=q;refine oA rel st e (bG po) λl z1 e1 vs H1 x1 aQ rvs=>?_;obtain⟨xs,hx,e2⟩:=M.ah e1;cases e2;obtain⟨s',e',po⟩:=po;cases e';obtain⟨ds,h3,h4⟩:=Ñ.mp hx;have hd:=js rvs h3;have fin:∀ i j:Int,xs=(é (j - i).toNat).map (λ(k:Nat)=>D.int (i + k))->∀ lA,H1 lA=none->Q (.ref lA) (upd H1 lA (Nx b ((é (j - i).toNat).map λ(k:Nat)=>V.int (i + k)))):=λi j ex lA hn=>by
  subst ex;have hI:=aJ.ints (K:=X.K) (H:=hz zA H1) ((é (j - i).toNat).map λ(k:Nat)=>i + (k:Int));rw[à,à] at hI;cases b with
  |false=>exact po _ _ (x1.trans (Ext.of (ae.new _ hn))) (aQ.same (ae.new _ hn)) ((fE aQ hI hn).from x1)|true=>exact po _ _ (x1.trans (Ext.of (ae.new _ hn))) (aQ.same (ae.new _ hn)) (oj (Hd.tup ((aQ.same (ae.new _ hn)).uz (cI.of a7)) (hI.same (dQ (ae.new _ hn)))))
 obtain⟨i,j,hds,j1,j2,j3,j4,ex⟩:=Ce h4;refine⟨i,j,?_,j1,j2,j3,j4,fin i j ex⟩;rcases hds with ⟨rfl,rfl⟩ | rfl
 ·obtain⟨v,rfl,h5⟩:=hd.one;cases h5.bH;rfl
 ·obtain⟨v,w,rfl,h5,h6⟩:=hd.two;cases h5.bH;cases h6.bH;rfl
end
theorem yc(val:Nat->Nat)(i:Nat):∀ n,(SS.met val n).testBit i=(é n).any λj=>val j == i
 |0=>Nat.zero_testBit i
 |n + 1=>by
  show(SS.met val n ||| 2 ^ val n).testBit i=_;rw[Nat.testBit_or,yc val i n,Nat.testBit_two_pow,Th,List.any_append];simp;rfl
theorem ye:∀ {l:List D}{ns:List Nat},qA l=some ns->l=ns.map (λ(n:Nat)=>D.int n)/\∀ n∈ns,n < 8
 |[],ns,h=>by cases h;exact⟨rfl,λn hn=>by cases hn⟩
 |x::r,ns,h=>by
  cases x with
  |int i =>
   obtain⟨hi,h⟩:=bV h;obtain⟨ms,h1,rfl⟩:=Ï.mp h;obtain⟨e,k⟩:=ye h1;refine⟨?_,λn hn=>?_⟩
   ·rw[Qw,← e,show((i.toNat:Nat):Int)=i from V6 hi.1]
   ·rcases Û.mp hn with rfl | hn
    ·omega
    ·exact k n hn
  |_=>cases h
theorem E6{ns:List Nat}:SS.iq (SS.met (λi=>ns.getD i 0) ns.length)=(é 8).filter λi=>ns.contains i:=by
 unfold SS.iq;refine QR λi _=>?_;rw[yc];rw[O7,SX,p9];constructor
 ·rintro ⟨j,hj,e⟩;rw[RJ] at hj;rw[← eq_of_beq e,Ê,Ø hj];exact Pb hj
 ·intro h;obtain⟨j,hj,e⟩:=O9.mp h;exact⟨j,ì.mpr hj,by rw[Ê,Ø hj,← e];exact beq_self_eq_true _⟩
theorem yf{K:Â}{H:Hp}:∀ {ns:List Nat}{us:List V},aJ K H (ns.map λ(n:Nat)=>D.int n) us->us=ns.map λ(n:Nat)=>V.int n
 |[],_,h=>h.bz
 |n::r,_,h=>by
  obtain⟨y,q,rfl,h1,h2⟩:=aJ.aH h;rw[h1.bH,yf h2];rfl
theorem yg{ns:List Nat}(h:∀ n∈ns,n < 8)(i:Nat):ns.getD i 0 < 8:=by
 rw[Ê];cases e:ns[i]? with
 |none=>decide|some n=>exact h n (p5 e)
section
variable {lm:Bool}{X:Cx}{G:Gs}{E:XK}{N:List Str}{sc:ON}
def yh(w:ü)(p m:Nat):û->Prop:=λh=>SS.hX w h p m
theorem Aa(hc:X.calm=true):bP X (.type "set") (λxs H Q=>∃ (a:Ë) (ns:List Nat) (us:List V),xs=[.ref a]/\(jj X.K H a us∨cI X.K H a us)/\us=ns.map (λ(n:Nat)=>V.int n)/\(∀ n∈ns,n < 8)/\∀ p,H p=none->Q (.ref p) (upd H p (.ext (yh X.w p (SS.met (λi=>ns.getD i 0) ns.length))))):=by
 intro aa s σ H xs us Q I r h;obtain⟨a,ns,vs,rfl,hq,rfl,h8,q⟩:=h;obtain⟨u,rfl,rx⟩:=vals1 r;cases rx;have hv:∀ i,(λi=>ns.getD i 0) i < 8:=yg h8;have hp:∀ {ai:List Ä},Vals (ns.map λ(n:Nat)=>V.int n) ai->ai.toArray.size=ns.length/\∀ (i:Nat) (v:Ä),ai.toArray[i]?=some v->∃ t,v=.int ((λi=>ns.getD i 0) i:Nat) t:=λ{ai} rv=>by
  refine⟨by rw[ß,← rv.length,Ç],λi v e=>?_⟩
  have e:ai[i]?=some v:=by simpa using e
  have hi:i < ns.length:=by have:=(ï.mp e).1;rw[← rv.length,Ç] at this;exact this
  obtain⟨w',e1,e2⟩:=rv.get (i:=i) (x:=V.int (ns[i]:Nat)) (by simp[hi])
  rw[e] at e1;cases e1;obtain⟨t,rfl⟩:=e2;exact⟨t,by simp[hi]⟩
 have fin:∀ (h':û) (tk:Nat),SS.hX X.w h' s.heap.objs.size (SS.met (λi=>ns.getD i 0) ns.length)->(∀ b u,s.heap.get? b=some u->h'.get? b=some u)->EP X aa σ Q (.ref s.heap.objs.size) { s with heap:=h',toks:=tk }:=λh' tk hS kp=>by
  refine⟨.ref s.heap.objs.size,_,I.laid (t':=tk) (o:=.ext (yh X.w s.heap.objs.size (SS.met (λi=>ns.getD i 0) ns.length))) kp (Ô _) ⟨hS,?_,λh1 h2 p k=>p.keep k⟩,rfl,q _ (I.bx.fresh (Ô _))⟩;obtain⟨o,_,_,ho,_⟩:=hS;exact⟨o,ho⟩
 rcases hq with hq | hq
 ·obtain⟨ai,rv,pl,_⟩:=I.list hq;obtain⟨o,ho,hcl,n,hd⟩:=pl.isList;obtain⟨sz,pv⟩:=hp rv;refine SS.ug (o:=o) (it:={ cls:=.type "list_iterator",data:=.fields #[.ref a,.int 0 0] }) (n:=ai.toArray.size) (St:=λI i h=>h.IsListIter I a i/\h.IsList a ai.toArray) (Pv:=λi v=>ai.toArray[i]?=some v) (val:=λi=>ns.getD i 0)
   ⟨hcl,F.sub_list_set,F.sub_list_frozenset,by decide,λA E s Q e q=>Rp ⟨o,e,hcl,n,hd⟩ q,λA I hh hn=>Ul hh I a hn _,λh e=>⟨⟨_,Í _ rfl,rfl,rfl⟩,⟨o,Ã _ e,hcl,n,hd⟩⟩⟩ (by exact I.ok.hd hc) ho hv pv λh' tk x kp=>?_
  rw[sz] at x;exact fin h' tk x kp
 ·obtain⟨ai,rv,pl,_⟩:=I.tuple hq;obtain⟨o,ho,hcl,n,hd⟩:=pl;obtain⟨sz,pv⟩:=hp rv;refine SS.ug (o:=o) (it:={ cls:=.type "tuple_iterator",data:=.fields #[.ref a,.int 0 0] }) (n:=ai.toArray.size) (St:=λI i h=>h.IsTupleIter I a i/\h.IsTuple a ai.toArray) (Pv:=λi v=>ai.toArray[i]?=some v) (val:=λi=>ns.getD i 0)
   ⟨hcl,by rw[isSubtype_type];kernel_rfl,by rw[isSubtype_type];kernel_rfl,by decide,λA E s Q e q=>Py ⟨o,e,hcl,n,hd⟩ q,λA I hh hn=>Ve hh I a hn _,λh e=>⟨⟨_,Í _ rfl,rfl,rfl⟩,⟨o,Ã _ e,hcl,n,hd⟩⟩⟩ (by exact I.ok.hd hc) ho hv pv λh' tk x kp=>?_
  rw[sz] at x;exact fin h' tk x kp
theorem IE:ù "set"=some (.type "set"):=by decide +kernel
theorem Ab:bP X (.builtin "len") (λxs H Q=>∃ (p:Ë) (m:Nat),xs=[.ref p]/\m < 256/\H p=some (.ext (yh X.w p m))/\Q (.int (SS.iq m).length) H):=by
 intro aa s σ H xs us Q I r h;obtain⟨p,m,rfl,hm,hp,q⟩:=h;obtain⟨u,rfl,rx⟩:=vals1 r;cases rx;obtain⟨⟨o,ep,g,ho,hx,hd⟩,_⟩:=I.bx p _ hp;have h8:(SS.iq m).length<=8:=ã (Qk _ _) (by simp)
 refine call_len_set ho hx hd (by rw[SS.cM];exact(SS.jF _ hm).1) (by rw[SS.cM];omega) ⟨.int (SS.iq m).length,H,I.tok _,?_,q⟩
 rw[SS.cM];exact⟨_,rfl⟩
theorem IF(x:XI lm X G E N sc){as:Ex}{e:Ö}{p1 p2 p3 p4:Pos}(h1:glob sc "len"=true)(h2:glob sc "set"=true)(hL:bR as=true)(g:Good X G E as [e]):aw X G E (.nP as) (.Call (.Name "len" p1) [.Call (.Name "set" p2) [e] [] p3] [] p4):=by
 obtain⟨k1,k2,k3⟩:=bF h1;obtain⟨j1,j2,j3⟩:=bF h2;obtain⟨ha,hs⟩:=g.args hL;rw[O5,Á] at hs;refine aC (PE.imp (kc Ab (x.glb _ k1) (x.blt _ (-0)) Cd (eh (qr (Aa x.calm) (x.glb _ j1) (x.blt _ (-0)) IE ha j3 j2 (bg hs.1 [] X.env) (f7 X.env p3 hs.2)) lz) k3 k2) λσ H Q q=>?_) rfl
 obtain⟨zA,ρ,z,rr,rel,st,ee,po⟩:=q;refine oA rel st ee (bG po) λl z1 e1 vs H1 x1 aQ rvs=>?_;obtain⟨ds,hd,e2⟩:=M.ah e1;obtain⟨s,hs',e3⟩:=M.ah e2;cases e3;have hds:=js rvs hd
 match ds,hs' with
 |[d],hs' =>
  obtain⟨l,hl,hs'⟩:=Ñ.mp hs';obtain⟨ns,hn,rfl⟩:=Ï.mp hs';obtain⟨rfl,h8⟩:=ye hn;obtain⟨v,rfl,hv⟩:=hds.one;obtain⟨a,us,rfl,hq,hd'⟩:∃ a us,v=.ref a/\(jj X.K H1 a us∨cI X.K H1 a us)/\aJ X.K (hz zA H1) (ns.map λ(n:Nat)=>D.int n) us:=by
   cases d with
   |tup m =>
    cases hl;obtain⟨a,xs,rfl,m1,m2⟩:=hv.dz;exact⟨a,xs,rfl,.inr ((ag zA H1).il m1),m2⟩
   |lst m =>
    cases hl;obtain⟨a,xs,rfl,m1,m2⟩:=hv.iF;exact⟨a,xs,rfl,.inl (m1.same (ag zA H1)).sq,m2⟩
   |_=>cases hl
  refine⟨a,ns,us,rfl,hq,yf hd',h8,λp hp=>⟨p,_,rfl,SS.wz (yg h8) _,a7,?_⟩⟩;have sm:ae H1 (upd H1 p (.ext (yh X.w p (SS.met (λi=>ns.getD i 0) ns.length)))):=ae.new _ hp;rw[E6];exact bJ po x1 aQ _ _ sm (oj Hd.int)
def Oz(K:Â)(G:Gs)(E:XK)(x:Ex):TO:=λσ H Q=>∃ zA ρ z r,eA K zA H ρ σ/\aP zA z H/\ev G.F x ρ z=some r/\(match r with
 |.ok l z'=>∃ o,uj l=some o/\∀ H',Ext zA H H'->aP zA z' H'->Q o H'
 |.er c z'=>EPost G zA E c z' H)
theorem Gr(hL:bR x=true)(g:Good X G E x e.toList):PO X e (Oz X.K G E x):=by
 cases e with
 |none =>
  cases x with
  |nil =>
   refine λaa s σ H Q I q=>D4 aa s σ H Q I ?_;obtain⟨zA,ρ,z,r,rel,st,e,po⟩:=q;cases e;obtain⟨o,e',po⟩:=po;cases e';exact po H Ext.refl st
  |cons a r=>obtain⟨e,es,h,_⟩:=g;cases h
  |_=>cases hL
 |some e =>
  cases x with
  |nil=>cases (show [e]=[] from g)
  |cons a r =>
   obtain⟨e',es,h,ns,ga,lr,gr⟩:=g;cases h;refine λaa s σ H Q I q=>D5 ga.pe aa s σ H Q I ?_;obtain⟨zA,ρ,z,rr,rel,st,e,po⟩:=q;have her:∀ c z1,rr=.er c z1->EPost G zA E c z1 H:=λc z1 e=>by subst e;exact po
   have rn:r=.nil:=by
    cases r with
    |nil=>rfl|cons b q=>obtain⟨e,es,h,_⟩:=gr;cases h
    |_=>cases lr
   subst rn;refine cz rel st e her λl z1 e1=>?_;obtain⟨s,hs,e2⟩:=M.ah e1;cases e2;obtain⟨o,e',po⟩:=po;refine⟨s,jK hs,λv H1 x1 aQ rv=>?_⟩;cases s with
   |d y =>
    cases y with
    |int i =>
     cases e';exact⟨i,Hd.bH (show Hd X.K (hz zA H1) (.int i) v from rv),po H1 x1 aQ⟩
    |_=>cases e'
   |_=>cases e'
  |_=>cases hL
theorem Ny{a lo hi:Ex}{v:Ö}{l h:Option Ö}{p pos:Pos}(ga:aw X G E a v)(hl:bR lo=true)(hh:bR hi=true)(gl:Good X G E lo l.toList)(gh:Good X G E hi h.toList):aw X G E (.sl a lo hi) (.Subscript v (.Slice l h none p) pos):=by
 refine aC (PE.imp (A4 Ni ga.pe (Gr hl gl) (Gr hh gh)) λσ H Q q=>?_) rfl;obtain⟨zA,ρ,z,rr,rel,st,e,po⟩:=q;refine cz rel st e (bG po) λm z1 e1=>?_;obtain⟨dx,p1,e2⟩:=M.ah e1;obtain⟨s1,rfl,q1⟩:=cc p1;refine⟨s1,rfl,λw H1 x1 aQ rv=>?_⟩;rcases M.bind_some e2 with ⟨u,z2,e3,e4⟩ | ⟨c,z2,e3,e4⟩
 ·obtain⟨o,ho,e5⟩:=M.ah e4;refine⟨zA,ρ,z1,_,rel.mono x1,aQ,e3,o,ho,λH2 x2 st2=>?_⟩;rcases M.bind_some e5 with ⟨u',z3,e6,e7⟩ | ⟨c,z3,e6,e7⟩
  ·obtain⟨o',ho',e8⟩:=M.ah e7;refine⟨zA,ρ,z2,_,(rel.mono x1).mono x2,st2,e6,o',ho',λH3 x3 st3=>?_⟩;obtain⟨s,hs,e9⟩:=M.ah e8;cases e9;exact⟨zA,z3,dx,s,st3,((rv.pl.mono (x2.trans x3)).d_ q1),hs,bJ po ((x1.trans x2).trans x3) st3⟩
  ·exact⟨zA,ρ,z2,_,(rel.mono x1).mono x2,st2,e6,((bG po) c z3 e7).mono (x1.trans x2)⟩
 ·exact⟨zA,ρ,z1,_,rel.mono x1,aQ,e3,((bG po) c z2 e4).mono x1⟩
theorem IG:∀ {x:Ex}{es:List Ö}{z z1:Z}{l:List S},bR x=true->Good X G E x es->ev G.F x ρ z=some (.ok l z1)->l.length=es.length:=by
 intro x
 induction x with
 |nil =>
  intro es z z1 l _ h e;have h:es=[]:=h;subst h;cases e;rfl
 |cons a r _ ih =>
  intro es z z1 l _ h e;obtain⟨e',es',rfl,ns,g,lr,gr⟩:=h;rcases M.bind_some e with ⟨m,z2,e1,e2⟩ | ⟨c,z2,e1,e2⟩
  ·obtain⟨s,hs,e3⟩:=M.ah e2;rcases M.bind_some e3 with ⟨m',z3,e4,e5⟩ | ⟨c,z3,e4,e5⟩
   ·cases e5;rw[æ,æ,ih lr gr e4]
   ·cases e5
  ·cases e2
 |_=>intro es z z1 l h;cases h
theorem s_call(x:XI lm X G E N sc){f:Nat}{as:Ex}{n:Str}{ps:List Str}{e:Ö}{l:List Ö}{p pos:Pos}(hf:G.fns[f]?=some (n,ps))(hl:ps.length=l.length + 1)(hg:glob sc n=true)(hL:bR as=true)(g:Good X G E as (e::l)) :
  aw X G E (.call f as) (.Call (.Name n p) (e::l) [] pos):=by
 obtain⟨k1,k2,k3⟩:=bF hg;obtain⟨fa,fd,m1,m2,m3,F⟩:=x.gok f n ps hf;obtain⟨ha,hs⟩:=g.args hL;rw[O5,Á] at hs;refine aC (PE.imp (D0 F x.room (x.glb n k1) m1 m2 m3 .nil x.pas ha k2 (bg hs.1 l X.env) (f7 X.env pos hs.2)) λσ H Q q=>?_) rfl;obtain⟨zA,ρ,z,rr,rel,st,e,po⟩:=q;have e0:M.bind (ev G.F as ρ) (λl=>M.bind (G.F false f (l.map gA)) λs=>M.ret [s]) z=some rr:=e;rcases M.bind_some e0 with ⟨m,z1,e1,e2⟩ | ⟨c,z1,e1,e2⟩
 ·refine⟨zA,ρ,z,_,rel,st,e1,λvs H1 x1 aQ rvs=>?_⟩;have hv:vs.length=ps.length:=by rw[← rvs.length,IG hL g e1,hl];rfl
  show Ij X.K G f ps.length (vs++[]) H1 Q E;rw[ö];refine⟨hv,zA,z1,m.map gA,?_⟩;have ra:uC X.K zA H1 (m.map gA) vs:=uC.gA (Pd.ze rvs λ_ _ q=>q.pl);rcases M.bind_some e2 with ⟨s,z2,e3,e4⟩ | ⟨c,z2,e3,e4⟩
  ·cases e4;refine⟨_,ra,aQ,e3,λv H2 x2 st2 rv=>?_⟩;obtain⟨s',e',po⟩:=po;cases e';exact po v H2 (x1.trans x2) st2 (rv.from x1)
  ·exact⟨_,ra,aQ,e3,((bG po) c z2 e4).mono x1⟩
 ·exact⟨zA,ρ,z,_,rel,st,e1,(bG po) c z1 e2⟩
def E7:fW->Nat
 |.nil=>0|.cons _ r=>E7 r + 1|_=>0
mutual
noncomputable def gP(K:Â):fW->TG
 |.v i=>j8 i|.tup ps=>J3 K (E7 ps) (gL K ps)|.nil=>λ_ _ _ _=>False|.cons _ _=>λ_ _ _ _=>False
noncomputable def gL(K:Â):fW->F9
 |.nil=>J2|.cons p r=>Ga (gP K p) (gL K r)|.v _=>λ_ _ _ _=>False|.tup _=>λ_ _ _ _=>False
end
end
end Q
namespace Q
open PySem L2 PySem.Spec PyProof.Rows
variable [TB:Tb]
theorem Cf(h:noStar e=true)(es:List Ö)(env:Qs):QV (e::es) env=(false,Rr e env)::QV es env:=by
 cases e <;> first | rfl | cases h
structure yj(X:Cx)(N:List Str)(loc:Str->Bool):Prop where
 hN:X.N=N
 nd:N.Nodup
 lc:∀ x,loc x=true->Loc X.env.scope x
 fn:∀ x,loc x=true->(X.fn x=true∨X.env.scope.names.lookup x=some .local)
 calm:X.calm=true
theorem oF:∀ {es:List Ö} (env:Qs),es.all noStar=true->(QV es env).length=es.length/\(QV es env).findIdx? (·.1)=none
 |[],_,_=>⟨rfl,rfl⟩
 |e::es,env,h=>by
  rw[O5,Á] at h;obtain⟨h1,h2⟩:=oF env h.2;rw[Cf h.1];refine⟨by rw[æ,æ,h1],?_⟩
  rw[List.findIdx?_cons,h2];rfl
theorem uJ:∀ {r:fW}{es:List Ö},lR N loc r es=true->es.length=E7 r/\es.all noStar=true
 |.nil,es,h=>by
  unfold lR at h;have:es=[]:=Se.mp h;subst this;exact⟨rfl,rfl⟩
 |.cons p r,es,h=>by
  unfold lR at h;cases es with
  |nil=>cases h
  |cons e es =>
   rw[Á,Á] at h;obtain⟨h1,h2⟩:=uJ (r:=r) h.2;exact⟨by rw[æ,h1];rfl,by rw[O5,h.1.1,h2];rfl⟩
 |.v _,_,h=>by unfold lR at h;cases h
 |.tup _,_,h=>by unfold lR at h;cases h
mutual
theorem uK(L:yj X N loc):∀ {p:fW}{e:Ö},cG N loc p e=true->PG X e (gP X.K p)
 |.v i,e,h=>by
  unfold cG at h;cases e with
  |Name x pos =>
   rw[Á,beq_iff_eq] at h;unfold gP;exact DW (by rw[L.hN];exact L.nd) (by rw[L.hN];exact h.1) (L.lc x h.2) (L.fn x h.2)
  |_=>cases h
 |.tup ps,e,h=>by
  unfold cG at h;cases e with
  |Tuple es k pos =>
   obtain⟨h1,h2⟩:=uJ h;obtain⟨h3,h4⟩:=oF X.env h2;unfold gP;exact G2 L.calm (Cg L h) (by rw[h3,h1]) h4
  |_=>cases h
 |.nil,e,h=>by unfold cG at h;cases h
 |.cons _ _,e,h=>by unfold cG at h;cases h
theorem Cg(L:yj X N loc):∀ {r:fW}{es:List Ö},lR N loc r es=true->JZ X es (gL X.K r)
 |.nil,es,h=>by
  unfold lR at h;have:es=[]:=Se.mp h;subst this;unfold gL;exact DX
 |.cons p r,es,h=>by
  unfold lR at h;cases es with
  |nil=>cases h
  |cons e es =>
   rw[Á,Á] at h;unfold gL;exact AS (uK L h.1.2) (Cg L h.2) (by rw[Cf h.1.1];rfl)
 |.v _,_,h=>by unfold lR at h;cases h
 |.tup _,_,h=>by unfold lR at h;cases h
end
section
variable {K:Â}{zA:Option Ë}{H:Hp}
theorem eA.set{ρ:Env}{σ:L2.St}{i:Nat}{s:S}{v:V}(h:eA K zA H ρ σ)(hl:ρ.length=σ.length)(r:vO K zA H s v):eA K zA H (ρ.set i (some s)) (σ.set i (some v)):=by
 intro j t e;by_cases hj:j=i
 ·subst hj;have hlt:j < ρ.length:=by
   have:=(ï.mp e).1;simpa using this
  rw[ú hlt] at e;cases e;exact⟨v,ú (by rw[← hl];exact hlt),r⟩
 ·rw[ñ (OT hj)] at e;obtain⟨w,h1,h2⟩:=h j t e;exact⟨w,by rw[ñ (OT hj)];exact h1,h2⟩
theorem lU:∀ {r:fW}{l:List D}{ρ ρ':Env},bindL r l ρ=some ρ'->l.length=E7 r
 |.nil,l,ρ,ρ',e=>by
  unfold bindL at e;cases l with
  |nil=>rfl|cons x l=>cases e
 |.cons p r,l,ρ,ρ',e=>by
  unfold bindL at e;cases l with
  |nil=>cases e
  |cons x l =>
   obtain⟨ρ1,e1,e2⟩:=Ñ.mp e;rw[æ,lU e2];rfl
 |.v _,_,_,_,e=>by unfold bindL at e;cases e
 |.tup _,_,_,_,e=>by unfold bindL at e;cases e
mutual
theorem yk:∀ {p:fW}{d:D}{ρ ρ':Env},bO p d ρ=some ρ'->∀ {σ:L2.St}{v:V}{R:L2.St->Hp->Prop},eA K zA H ρ σ->ρ.length=σ.length->Hd K (hz zA H) d v ->
  (∀ σ',eA K zA H ρ' σ'->ρ'.length=σ'.length->R σ' H)->gP K p v σ H R
 |.v i,d,ρ,ρ',e,σ,v,R,rel,hl,hd,k=>by
  unfold bO at e;cases e;unfold gP;exact k _ (rel.set hl (show vO K zA H (.d d) v from hd)) (by rw[PJ,PJ,hl])
 |.tup ps,d,ρ,ρ',e,σ,v,R,rel,hl,hd,k=>by
  unfold bO at e;cases d with
  |tup l =>
   obtain⟨a,xs,rfl,h1,h2⟩:=hd.dz;unfold gP;exact⟨a,xs,rfl,(ag zA H).il h1,by rw[h2.length];exact lU e,uL e rel hl h2 k⟩
  |_=>cases e
 |.nil,_,_,_,e,_,_,_,_,_,_,_=>by unfold bO at e;cases e
 |.cons _ _,_,_,_,e,_,_,_,_,_,_,_=>by unfold bO at e;cases e
theorem uL:∀ {r:fW}{l:List D}{ρ ρ':Env},bindL r l ρ=some ρ'->∀ {σ:L2.St}{vs:List V}{R:L2.St->Hp->Prop},eA K zA H ρ σ->ρ.length=σ.length->aJ K (hz zA H) l vs ->
  (∀ σ',eA K zA H ρ' σ'->ρ'.length=σ'.length->R σ' H)->gL K r vs σ H R
 |.nil,l,ρ,ρ',e,σ,vs,R,rel,hl,hd,k=>by
  unfold bindL at e;cases l with
  |nil =>
   cases e;unfold gL;exact⟨hd.bz,k σ rel hl⟩
  |cons x l=>cases e
 |.cons p r,l,ρ,ρ',e,σ,vs,R,rel,hl,hd,k=>by
  unfold bindL at e;cases l with
  |nil=>cases e
  |cons x l =>
   obtain⟨ρ1,e1,e2⟩:=Ñ.mp e;obtain⟨v,ws,rfl,h1,h2⟩:=hd.aH;unfold gL;exact⟨v,ws,rfl,yk e1 rel hl h1 λσ' r' l'=>uL e2 r' l' h2 k⟩
 |.v _,_,_,_,e,_,_,_,_,_,_,_=>by unfold bindL at e;cases e
 |.tup _,_,_,_,e,_,_,_,_,_,_,_=>by unfold bindL at e;cases e
end
end
end Q
namespace Q
open PySem L2 PySem.Spec PyProof.Rows
variable [TB:Tb]
structure IH(K:PySem.W.Frag)(zA:Option Addr)(J:L2.It)(xs:List D)(H1:Hp):Prop where
 go:∀ i H,Ext zA H1 H->i < xs.length->J.go i H
 yld:∀ i H x H' z d,Ext zA H1 H->aP zA z H->J.yld i H x H'->xs[i]?=some d->ae H H'/\Hd K (hz zA H') d x
 stop:∀ H,Ext zA H1 H->J.stop xs.length H
structure E8(K:PySem.W.Frag)(J:L2.It)(xs:List D)(B:Hp):Prop where
 go:∀ i H,ae B H->i < xs.length->J.go i H
 yld:∀ i H x H' zA z d,ae B (hz zA H)->aP zA z H->J.yld i H x H'->xs[i]?=some d->ae H H'/\∀ C,ae B C->(∀ a ys,cI K (hz zA H') a ys->cI K C a ys)->Hd K C d x
 stop:∀ H,ae B H->J.stop xs.length H
section
variable {K:Â}{B:Hp}
theorem E8.ok(h:E8 K J xs (hz zA H1)):IH K zA J xs H1 :=
 ⟨λi H x=>h.go i H (ae.trans x (ag zA H)),λi H x H' z d e st y k=>let ⟨s,f⟩:=h.yld i H x H' zA z d e st y k;⟨s,f _ (ae.trans e (dQ s)) λ_ _ q=>q⟩,λH x=>h.stop H (ae.trans x (ag zA H))⟩
theorem uM(h:cJ K B a ys)(r:aJ K B xs ys):E8 K (J4 K a) xs B where
 go:=λi H x hi=>⟨ys,ys[i]'(by rw[r.length];exact hi),(h.same x).sq,by simp⟩
 yld:=λi H v H' zA z d x st y e=>by
  obtain⟨rfl,y⟩:=y;have y1:=y ys ((h.same x).same (ag zA _)).sq;obtain⟨w,e1,e2⟩:=r.get e;rw[y1] at e1;cases e1;exact⟨ae.refl _,λC c _=>e2.same c⟩
 stop:=λH x=>⟨ys,(h.same x).sq,by rw[r.length];exact Ô _⟩
theorem yl(h:cI K B a ys)(r:aJ K B xs ys):E8 K (Mb K a) xs B where
 go:=λi H x hi=>⟨ys,ys[i]'(by rw[r.length];exact hi),ae.il x h,by simp⟩
 yld:=λi H v H' zA z d x st y e=>by
  obtain⟨rfl,y⟩:=y;have y1:=y ys ((ag zA _).il (ae.il x h));obtain⟨w,e1,e2⟩:=r.get e;rw[y1] at e1;cases e1;exact⟨ae.refl _,λC c _=>e2.same c⟩
 stop:=λH x=>⟨ys,ae.il x h,by rw[r.length];exact Ô _⟩
theorem ym(lo:Int)(n:Nat):E8 K (J5 lo n) ((é n).map λ(k:Nat)=>D.int (lo + k)) B where
 go:=λi H x hi=>by show i < n;simpa using hi
 yld:=λi H v H' zA z d x st y e=>by
  obtain⟨rfl,rfl⟩:=y;rw[è] at e;obtain⟨k,e1,rfl⟩:=Ï.mp e;obtain⟨h1,h2⟩:=ï.mp e1;rw[List.getElem_range] at h2;subst h2;exact⟨ae.refl _,λ_ _ _=>Hd.int⟩
 stop:=λH x=>by show n<=_;simp
end
section
variable {K:Â}{zA:Option Ë}{H1:Hp}
theorem zip_get:∀ {a b:List D}{i:Nat}{d:D},(dB a b)[i]?=some d->∃ x y,a[i]?=some x/\b[i]?=some y/\d=.tup [x,y]
 |[],_,_,_,e=>by simp[dB] at e|_::_,[],_,_,e=>by simp[dB] at e|x::r,y::q,0,d,e=>by simp[dB] at e;exact⟨x,y,rfl,rfl,e.symm⟩
 |x::r,y::q,i + 1,d,e=>by
  obtain⟨u,v,h1,h2,h3⟩:=zip_get (a:=r) (b:=q) (i:=i) (by simpa [dB] using e)
  exact⟨u,v,by simpa using h1,by simpa using h2,h3⟩
theorem sv:∀ (a b:List D),(dB a b).length=min a.length b.length
 |[],_=>by simp[dB]|_::_,[]=>by simp[dB]|x::r,y::q=>by simp only[dB,æ,sv r q];omega
theorem yn(h:∀ H,ae B H->tF bb K H a us)(r:aJ K B xs us)(h':∀ H,ae B H->tF bb K H b ws)(r':aJ K B ys ws):E8 K (M3 bb K a b) (dB xs ys) B where
 go:=λi H x hi=>by
  rw[sv] at hi;exact⟨us,ws,us[i]'(by rw[r.length];omega),ws[i]'(by rw[r'.length];omega),h H x,h' H x,by simp,by simp⟩
 yld:=λi H v H' zA z d x st y e=>by
  obtain⟨T,rfl,hT,y⟩:=y;obtain⟨d1,d2,e1,e2,rfl⟩:=zip_get e;obtain⟨w1,f1,g1⟩:=r.get e1;obtain⟨w2,f2,g2⟩:=r'.get e2;have y1:=y us ws w1 w2 (h H (ae.trans x (ag zA H))) (h' H (ae.trans x (ag zA H))) f1 f2;subst y1;have sm:ae H (upd H T (.tup [w1,w2])):=ae.new _ hT;exact⟨sm,λC c t=>Hd.tup (t _ _ ((st.same sm).uz (cI.of a7))) (.cons (g1.same c) (.cons (g2.same c) .nil))⟩
 stop:=λH x=>⟨us,ws,h H x,h' H x,by rw[sv,r.length,r'.length];omega⟩
end
def PX(P:D->Prop):D->Prop
 |.tup l=>∀ y∈l,P y|.lst l=>∀ y∈l,P y|_=>True
def Mp(K:Â)(zA:Option Ë)(H H':Hp)(l:List S)(J:L2.It)(xs:List D):Prop :=
 ∀ (P:D->Prop) (B:Hp),ae B (hz zA H')->(∀ a ys,cI K (hz zA H') a ys->cI K B a ys)->(∀ d v,P d->Hd K (hz zA H') d v->Hd K B d v)->(∀ ds,gB l=some ds->∀ d∈ds,PX P d) ->
  (∀ a ys,cJ K (hz zA H') a ys->((H a=none/\H' a=some (.lst ys))∨lO l=true)->cJ K B a ys)->E8 K J xs B
theorem aJ.move{K:Â}{H B:Hp}{P:D->Prop}(mv:∀ d v,P d->Hd K H d v->Hd K B d v):∀ {ds:List D}{vs:List V},(∀ y∈ds,P y)->aJ K H ds vs->aJ K B ds vs
 |[],_,_,h=>by rw[h.bz];exact .nil
 |d::ds,_,p,h=>by
  obtain⟨x,r,rfl,h1,h2⟩:=h.aH;exact .cons (mv d x (p d Å) h1) (aJ.move mv (λy hy=>p y (Æ _ hy)) h2)
theorem Mp.ok{K:Â}{zA:Option Ë}{H H':Hp}{l:List S}{J:L2.It}{xs:List D}(h:Mp K zA H H' l J xs):IH K zA J xs H':=by
 refine(h (λ_=>True) (hz zA H') (ae.refl _) (λ_ _ q=>q) (λ_ _ _ q=>q) (λds _ d _=>?_) λ_ _ q _=>q).ok;cases d <;> first | trivial | exact λ_ _=>trivial
def DM(K:Â)(G:Gs)(E:XK)(it:It)(src:Ex):TI:=λσ H R=>∃ zA ρ z r,eA K zA H ρ σ/\aP zA z H/\ev G.F src ρ z=some r/\(match r with
 |.ok l z'=>∃ xs,(gB l).bind (qz it)=some xs/\∀ J H',Ext zA H H'->aP zA z' H'->Mp K zA H H' l J xs->R J H'
 |.er c z'=>EPost G zA E c z' H)
section
variable {lm:Bool}{X:Cx}{G:Gs}{E:XK}{N:List Str}{sc:ON}
theorem II{zA:Option Ë}{H:Hp}{it:It}{P:L2.It->Hp->Prop}{r:R (List S)}(po:(match r with | .ok l z'=>∃ xs,(gB l).bind (qz it)=some xs/\∀ J H',Ext zA H H'->aP zA z' H'->Mp X.K zA H H' l J xs->P J H' | .er c z'=>EPost G zA E c z' H)):∀ c z1,r=.er c z1->EPost G zA E c z1 H:=λc z1 e=>by subst e;exact po
theorem yo{s:S}{ds:List D}(h:gB [s]=some ds):∃ d,ds=[d]/\BE s=some d:=by
 cases s with
 |d x=>cases h;exact⟨x,rfl,rfl⟩
 |fr xs=>cases h;exact⟨_,rfl,rfl⟩
 |_=>cases h
theorem Ci{tg e:Ö}{a:Ex}(g:aw X G E a e):PI X tg e (DM X.K G E .seq (.cons a .nil)):=by
 intro aa s σ H R I q;obtain⟨zA,ρ,z,rr,rel,st,ee,po⟩:=q;have e0:M.bind (ev G.F a ρ) (λx=>M.bind (M.of (one x)) λs=>M.bind (ev G.F .nil ρ) λy=>M.ret (s::y)) z=some rr:=ee;rcases M.bind_some e0 with ⟨m,z1,e1,e2⟩ | ⟨c,z1,e1,e2⟩
 ·obtain⟨t,ht,e3⟩:=M.ah e2;cases e3;have hm:=jK ht;subst hm;obtain⟨xs,hx,po⟩:=po;obtain⟨ds,h1,h2⟩:=Ñ.mp hx;obtain⟨d,rfl,h3⟩:=yo h1;cases d with
  |tup l =>
   cases h2;refine AX g.pe aa s σ H R I ⟨zA,ρ,z,_,rel,st,e1,t,rfl,λv H1 x1 aQ rv=>?_⟩;obtain⟨b,ys,rfl,k1,k2⟩:=(rv.pl.d_ h3).dz;exact⟨b,rfl,⟨ys,(ag zA H1).il k1⟩,po _ H1 x1 aQ λP B sub tup mv pa sf=>yl (tup _ _ k1) (aJ.move mv (show ∀ y∈xs,P y from pa _ h1 _ Å) k2)⟩
  |lst l =>
   cases h2;refine rq g.pe aa s σ H R I ⟨zA,ρ,z,_,rel,st,e1,t,rfl,λv H1 x1 aQ rv=>?_⟩;have fin:∀ {b:Ë}{ys:List V},cJ X.K (hz zA H1) b ys->aJ X.K (hz zA H1) xs ys->((H b=none/\H1 b=some (.lst ys))∨lO [t]=true)->∃ a,V.ref b=.ref a/\(∃ xs,jj X.K H1 a xs)/\R (J4 X.K a) H1:=λ{b ys} k1 k2 k5=>by
    exact⟨b,rfl,⟨ys,(k1.same (ag zA H1)).sq⟩,po _ H1 x1 aQ λP B sub tup mv pa sf=>uM (sf _ _ k1 k5) (aJ.move mv (show ∀ y∈xs,P y from pa _ h1 _ Å) k2)⟩
   cases t with
   |d x =>
    cases h3;obtain⟨b,ys,rfl,k1,k2⟩:=Hd.iF (show Hd X.K (hz zA H1) (.lst xs) v from rv);exact fin k1 k2 (.inr rfl)
   |fr x =>
    cases h3;obtain⟨b,ys,rfl,k0,k1,k2,k3⟩:=rv;exact fin (cJ.of (bu k2 k1)) (k3.same (cA b _)) (.inl ⟨k0,k2⟩)
   |_=>cases h3
  |_=>cases h2
 ·exact rq g.pe aa s σ H R I ⟨zA,ρ,z,_,rel,st,e1,(II po) c z1 e2⟩
theorem nk{l:List S}{it:It}{xs:List D}(h:(gB l).bind (qz it)=some xs):∃ ds,gB l=some ds/\qz it ds=some xs:=Ñ.mp h
theorem yp(x:XI lm X G E N sc){tg a:Ö}{as:Ex}{n:Str}{p pos:Pos}(hn:n="range")(hg:glob sc n=true)(hL:bR as=true)(g:Good X G E as [a]):PI X tg (.Call (.Name n p) [a] [] pos) (DM X.K G E .rng1 as):=by
 subst hn;obtain⟨k1,k2,k3⟩:=bF hg;obtain⟨ha,hs⟩:=g.args hL;rw[O5,Á] at hs;intro aa s σ H R I q;refine zh (x.glb _ k1) (x.blt _ (-0)) ha (bg hs.1 [] X.env) aa s σ H R I ?_
 obtain⟨zA,ρ,z,rr,rel,st,ee,po⟩:=q;refine⟨zA,ρ,z,rr,rel,st,ee,?_⟩;cases rr with
 |er c z1=>exact po
 |ok l z1 =>
  obtain⟨xs,hx,po⟩:=po;intro vs H1 x1 aQ rvs;obtain⟨ds,h1,h2⟩:=nk hx;have hd:=js rvs h1
  match ds,h2 with
  |[.int j],h2 =>
   obtain⟨hj,h2⟩:=bV h2;have hj:=kz.mp hj;cases h2;obtain⟨v,rfl,h3⟩:=hd.one;cases h3.bH;refine⟨j,rfl,by omega,by omega,po _ H1 x1 aQ λP B sub tup mv pa sf=>?_⟩
   have:=ym (K:=X.K) (B:=B) 0 j.toNat;simpa using this
theorem yq(x:XI lm X G E N sc){tg a b:Ö}{as:Ex}{n:Str}{p pos:Pos}(hn:n="range")(hg:glob sc n=true)(hL:bR as=true)(g:Good X G E as [a,b]):PI X tg (.Call (.Name n p) [a,b] [] pos) (DM X.K G E .rng2 as):=by
 subst hn;obtain⟨k1,k2,k3⟩:=bF hg;obtain⟨ha,hs⟩:=g.args hL;rw[O5,O5,Á,Á] at hs;intro aa s σ H R I q;refine zi (x.glb _ k1) (x.blt _ (-0)) ha (by rw[bg hs.1,bg hs.2.1];rfl) (bg hs.2.1 [] X.env) aa s σ H R I ?_
 obtain⟨zA,ρ,z,rr,rel,st,ee,po⟩:=q;refine⟨zA,ρ,z,rr,rel,st,ee,?_⟩;cases rr with
 |er c z1=>exact po
 |ok l z1 =>
  obtain⟨xs,hx,po⟩:=po;intro vs H1 x1 aQ rvs;obtain⟨ds,h1,h2⟩:=nk hx;have hd:=js rvs h1
  match ds,h2 with
  |[.int i,.int j],h2 =>
   obtain⟨hj,h2⟩:=bV h2;have hi:=kz.mp hj.1;have hj:=kz.mp hj.2;cases h2;obtain⟨v,w,rfl,h3,h4⟩:=hd.two;cases h3.bH;cases h4.bH;exact⟨i,j,rfl,by omega,po _ H1 x1 aQ λP B sub tup mv pa sf=>ym i (j - i).toNat⟩
theorem wL{s:S}{r:List S}{ds:List D}(h:gB (s::r)=some ds):∃ x q,ds=x::q/\BE s=some x/\gB r=some q:=by
 cases s with
 |d y =>
  obtain⟨q,e,rfl⟩:=Ï.mp h;exact⟨y,q,rfl,rfl,e⟩
 |fr y =>
  obtain⟨q,e,rfl⟩:=Ï.mp h;exact⟨_,q,rfl,rfl,e⟩
 |_=>cases h
theorem E9(h:gB l=some [x,y]):∃ s t,l=[s,t]/\BE s=some x/\BE t=some y:=by
 cases l with
 |nil=>cases h
 |cons s r =>
  obtain⟨_,_,e,h1,h2⟩:=wL h;cases e;cases r with
  |nil=>cases h2
  |cons t r =>
   obtain⟨_,_,e,h3,h4⟩:=wL h2;cases e;cases r with
   |nil=>exact⟨s,t,rfl,h1,h3⟩
   |cons u r =>
    obtain⟨_,_,e,_⟩:=wL h4;cases e
theorem Cj{s t:S}(h:lO [s]=true):lO [s,t]=true:=by
 match s,h with
 |.d (.lst _),_=>rfl
theorem Ck{s t:S}(h:lO [t]=true):lO [s,t]=true:=by
 match s with
 |.d (.lst _)=>rfl|.d .bw | .d (.bl _) | .d (.int _) | .d (.str _) | .d (.tup _) | .d .dct | .fr _ | .z=>exact h|.ks _=>exact h
theorem yt{K:Â}{zA:Option Ë}{H H1:Hp}{t:S}{v:V}{a:List D}(rv:jI K zA H H1 t v)(h:BE t=some (.lst a)):∃ b ys,v=.ref b/\cJ K (hz zA H1) b ys/\aJ K (hz zA H1) a ys/\((H b=none/\H1 b=some (.lst ys))∨lO [t]=true):=by
 cases t with
 |d x =>
  cases h;obtain⟨b,ys,rfl,k1,k2⟩:=Hd.iF (show Hd K (hz zA H1) (.lst a) _ from rv);exact⟨b,ys,rfl,k1,k2,.inr rfl⟩
 |fr x =>
  cases h;obtain⟨b,ys,rfl,k0,k1,k2,k3⟩:=rv;exact⟨b,ys,rfl,cJ.of (bu k2 k1),k3.same (cA b _),.inl ⟨k0,k2⟩⟩
 |_=>cases h
theorem yu(x:XI lm X G E N sc){tg a b:Ö}{as:Ex}{n:Str}{p pos:Pos}(ht:dD tg=true)(hn:n="zip")(hg:glob sc n=true)(hL:bR as=true)(g:Good X G E as [a,b]):PI X tg (.Call (.Name n p) [a,b] [] pos) (DM X.K G E .zip as):=by
 subst hn;obtain⟨k1,k2,k3⟩:=bF hg;obtain⟨ha,hs⟩:=g.args hL;rw[O5,O5,Á,Á] at hs;cases tg with
 |Tuple es ek ep =>
  intro aa s σ H R I q;refine Hq (x.glb _ k1) (x.blt _ (-0)) ha (by rw[bg hs.1,bg hs.2.1];rfl) (bg hs.2.1 [] X.env) aa s σ H R I ?_
  obtain⟨zA,ρ,z,rr,rel,st,ee,po⟩:=q;refine⟨zA,ρ,z,rr,rel,st,ee,?_⟩;cases rr with
  |er c z1=>exact po
  |ok l z1 =>
   obtain⟨xs,hx,po⟩:=po;intro vs H1 x1 aQ rvs;obtain⟨ds,h1,h2⟩:=nk hx;have hd:=js rvs h1
   match ds,h2 with
   |[.tup a,.tup b],h2 =>
    cases h2;obtain⟨v,w,rfl,h3,h4⟩:=hd.two;obtain⟨p1,us,rfl,m1,m2⟩:=h3.dz;obtain⟨p2,ws,rfl,m3,m4⟩:=h4.dz;exact⟨false,p1,p2,rfl,⟨us,(ag zA H1).il m1⟩,⟨ws,(ag zA H1).il m3⟩,po _ H1 x1 aQ λP B sub tup mv pa sf=>yn (λ_ x=>ae.il x (tup _ _ m1)) (aJ.move mv (show ∀ y∈a,P y from pa _ h1 _ Å) m2) (λ_ x=>ae.il x (tup _ _ m3)) (aJ.move mv (show ∀ y∈b,P y from pa _ h1 _ (Æ _ Å)) m4)⟩
   |[.lst a,.lst b],h2 =>
    cases h2;obtain⟨t1,t2,rfl,e1,e2⟩:=E9 h1;cases rvs with
    |cons rv1 rn =>
     cases rn with
     |cons rv2 rn =>
      cases rn;obtain⟨p1,us,rfl,m1,m2,m3⟩:=yt rv1 e1;obtain⟨p2,ws,rfl,m4,m5,m6⟩:=yt rv2 e2;refine⟨true,p1,p2,rfl,⟨us,(m1.same (ag zA H1)).sq⟩,⟨ws,(m4.same (ag zA H1)).sq⟩,po _ H1 x1 aQ λP B sub tup mv pa sf=>yn (λ_ x=>((sf _ _ m1 (m3.imp id λq=>?_)).same x).sq) (aJ.move mv (show ∀ y∈a,P y from pa _ h1 _ Å) m2) (λ_ x=>((sf _ _ m4 (m6.imp id λq=>?_)).same x).sq) (aJ.move mv (show ∀ y∈b,P y from pa _ h1 _ (Æ _ Å)) m5)⟩
      ·exact Cj q
      ·exact Ck q
 |_=>cases ht
theorem uN:∀ {a:List D}{i n:Nat}{d:D},(ig a n)[i]?=some d->∃ x,a[i]?=some x/\d=.tup [.int ((n + i:Nat):Int),x]
 |[],_,_,_,e=>by simp[ig] at e|x::r,0,n,d,e=>by simp[ig] at e;exact⟨x,rfl,e.symm⟩
 |x::r,i + 1,n,d,e=>by
  obtain⟨u,h1,h2⟩:=uN (a:=r) (i:=i) (n:=n + 1) (by simpa [ig] using e)
  exact⟨u,by simpa using h1,by rw[h2,show n + 1 + i=n + (i + 1) by omega]⟩
theorem oG:∀ (a:List D) (n:Nat),(ig a n).length=a.length
 |[],_=>rfl|x::r,n=>by simp only[ig,æ,oG r]
theorem uO(h:∀ H,ae B H->tF b X.K H a us)(r:aJ X.K B xs us):E8 X.K (Mk b X.K a) (ig xs 0) B where
 go:=λi H x hi=>by
  rw[oG] at hi;exact⟨us,us[i]'(by rw[r.length];omega),h H x,by simp⟩
 yld:=λi H v H' zA z d x st y e=>by
  obtain⟨T,rfl,hT,y⟩:=y;obtain⟨d1,e1,rfl⟩:=uN e;obtain⟨w1,f1,g1⟩:=r.get e1;have y1:=y us w1 (h H (ae.trans x (ag zA H))) f1;subst y1;have sm:ae H (upd H T (.tup [.int i,w1])):=ae.new _ hT;exact⟨sm,λC c t=>Hd.tup (t _ _ ((st.same sm).uz (cI.of a7))) (.cons (by rw[RS];exact Hd.int) (.cons (g1.same c) .nil))⟩
 stop:=λH x=>⟨us,h H x,by rw[oG,r.length]⟩
theorem Fb(h:gB l=some [d]):∃ s,l=[s]:=by
 cases l with
 |nil=>cases h
 |cons s r =>
  cases r with
  |nil=>exact⟨s,rfl⟩|cons t q=>exfalso;cases s <;> cases t <;> first | (cases h;done) | (simp only[gB,WG,Sw] at h;obtain⟨_,_,h⟩:=h;cases h)
theorem uP(x:XI lm X G E N sc){tg a:Ö}{as:Ex}{n:Str}{p pos:Pos}(ht:dD tg=true)(hn:n="enumerate")(hg:glob sc n=true)(hL:bR as=true)(g:Good X G E as [a]):PI X tg (.Call (.Name n p) [a] [] pos) (DM X.K G E .enum as):=by
 subst hn;obtain⟨k1,k2,k3⟩:=bF hg;obtain⟨ha,hs⟩:=g.args hL;rw[O5,Á] at hs;cases tg with
 |Tuple es ek ep =>
  intro aa s σ H R I q;refine Et (x.glb _ k1) (x.blt _ (-0)) ha (bg hs.1 [] X.env) aa s σ H R I ?_
  obtain⟨zA,ρ,z,rr,rel,st,ee,po⟩:=q;refine⟨zA,ρ,z,rr,rel,st,ee,?_⟩;cases rr with
  |er c z1=>exact po
  |ok l z1 =>
   obtain⟨xs,hx,po⟩:=po;intro vs H1 x1 aQ rvs;obtain⟨ds,h1,h2⟩:=nk hx;have hd:=js rvs h1
   match ds,h2 with
   |[.tup a],h2 =>
    cases h2;obtain⟨v,rfl,h3⟩:=hd.one;obtain⟨p1,us,rfl,m1,m2⟩:=h3.dz;exact⟨false,p1,rfl,⟨us,(ag zA H1).il m1⟩,po _ H1 x1 aQ λP B sub tup mv pa sf=>uO (λ_ x=>ae.il x (tup _ _ m1)) (aJ.move mv (show ∀ y∈a,P y from pa _ h1 _ Å) m2)⟩
   |[.lst a],h2 =>
    cases h2;have fin:∀ (b:Ë) (ys:List V),cJ X.K (hz zA H1) b ys->aJ X.K (hz zA H1) a ys->((H b=none/\H1 b=some (.lst ys))∨lO l=true)->∃ bb p,[V.ref b]=[.ref p]/\(∃ xs,tF bb X.K H1 p xs)/\R (Mk bb X.K p) H1:=λb ys k1 k2 k5 =>
     ⟨true,b,rfl,⟨ys,(k1.same (ag zA H1)).sq⟩,po _ H1 x1 aQ λP B sub tup mv pa sf=>uO (λ_ x=>((sf _ _ k1 k5).same x).sq) (aJ.move mv (show ∀ y∈a,P y from pa _ h1 _ Å) k2)⟩
    obtain⟨t,rfl⟩:=Fb h1;cases rvs with
    |cons rv rn =>
     cases rn;cases t with
     |d x =>
      cases h1;obtain⟨b,ys,rfl,k1,k2⟩:=Hd.iF (show Hd X.K (hz zA H1) (.lst a) _ from rv);exact fin _ _ k1 k2 (.inr rfl)
     |fr x =>
      cases h1;obtain⟨b,ys,rfl,k0,k1,k2,k3⟩:=rv;exact fin _ _ (cJ.of (bu k2 k1)) (k3.same (cA b _)) (.inl ⟨k0,k2⟩)
     |_=>cases h1
 |_=>cases ht
abbrev EF:XK:=λ_ _ _=>False
def Mq(K:Â)(G:Gs):Ex->TT
 |.nil=>xM|.cons c _=>tT K G EF c|_=>λ_ _ _=>False
theorem wO(h:turns f (x::r) z=some (.ok ys z2)):∃ o z1 l,f x z=some (.ok o z1)/\turns f r z1=some (.ok l z2)/\ys=(match o with | some y=>y::l | none=>l):=by
 rcases M.bind_some (show M.bind (f x) _ z=_ from h) with ⟨o,z1,e1,e2⟩ | ⟨c,z1,e1,e2⟩
 ·rcases M.bind_some e2 with ⟨l,z3,e3,e4⟩ | ⟨c,z3,e3,e4⟩
  ·cases e4;exact⟨o,z1,l,e1,e3,rfl⟩
  ·cases e4
 ·cases e2
theorem Fc{zA:Option Ë}{J:L2.It}{xs ys:List D}{H1:Hp}{z1 z2:Z}{p:fW}{cond el:Ex}{ρ0:Env}{σ0:L2.St}{Q:VK}(IT:IH X.K zA J xs H1)(hm:xs.length<=most)(rel0:eA X.K zA H1 ρ0 σ0)(len:ρ0.length=σ0.length)(aQ:aP zA z1 H1)
  (hc:cond=.nil∨∃ c,cond=.cons c .nil) (e:turns (d5 (ev G.F cond) (ev G.F el) p ρ0) xs z1=some (.ok ys z2))
  (fin:∀ H2 vs l,Ext zA H1 H2->aP zA z2 H2->aJ X.K (hz zA H2) ys vs->H2 l=none->Q (.ref l) (upd H2 l (.lst vs))):A8 J σ0 H1 (gP X.K p) (Mq X.K G cond) (tI X.K G EF el) Q:=by
 refine⟨λi m vs H=>m=xs.length - i/\i<=xs.length/\vs.length<=i/\∃ yd z rest,Ext zA H1 H/\aP zA z H/\aJ X.K (hz zA H) yd vs/\turns (d5 (ev G.F cond) (ev G.F el) p ρ0) (xs.drop i) z=some (.ok rest z2)/\ys=yd++rest,
  ⟨xs.length,rfl,PQ _,PQ _,[],z1,ys,Ext.refl,aQ,.nil,by simpa using e,rfl⟩,?_⟩
 rintro i m vs H ⟨rfl,hi,hv,yd,z,rest,x,st,hd,et,ey⟩;by_cases hlt:i < xs.length
 ·refine .inr ⟨IT.go i H x hlt,Q4 hv (ê hlt (cY hm)),
   λws H'=>ws.length<=i + 1/\∃ yd z rest,Ext zA H1 H'/\aP zA z H'/\aJ X.K (hz zA H') yd ws/\turns (d5 (ev G.F cond) (ev G.F el) p ρ0) (xs.drop (i + 1)) z=some (.ok rest z2)/\ys=yd++rest,
   λws H' q=>⟨xs.length - (i + 1),by omega,rfl,hlt,q.1,q.2⟩,λv H' y=>?_⟩
  obtain⟨sm,hx⟩:=IT.yld i H v H' z xs[i] x st y (by simp[hlt])
  rw[tv hlt] at et;obtain⟨o,z3,l,f1,f2,f3⟩:=wO et;obtain⟨ρ',b1,f4⟩:=M.ah (show M.bind (M.of (bO p xs[i] ρ0)) _ z=_ from f1);have x':Ext zA H1 H':=x.trans (Ext.of sm);have st':=st.same sm;refine yk b1 (rel0.mono x') len hx λσ' rel' len'=>?_;have yes:∀ {za:Z}{Ha:Hp},Ext zA H' Ha->aP zA za Ha->M.bind (ev G.F el ρ') (λy=>M.bind (M.of (pl y)) λy=>M.ret (some y)) za=some (.ok o z3)->tI X.K G EF el σ' Ha (λy H4=>(vs++[y]).length<=i + 1/\∃ yd z rest,Ext zA H1 H4/\aP zA z H4/\aJ X.K (hz zA H4) yd (vs++[y])/\turns (d5 (ev G.F cond) (ev G.F el) p ρ0) (xs.drop (i + 1)) z=some (.ok rest z2)/\ys=yd++rest):=λ{za Ha} xa sta ea=>by
   refine cz (rel'.mono xa) sta ea (λc z1 h=>by cases h) λm z4 e4=>?_
   obtain⟨d,p1,e5⟩:=M.ah e4;obtain⟨s1,rfl,q1⟩:=cc p1;cases e5;refine⟨s1,rfl,λw H4 x4 st4 rv=>⟨by rw[Ü];simp;omega,yd++[d],z3,l,(x'.trans xa).trans x4,st4,?_,f2,by rw[ey,f3,Ý];rfl⟩⟩
   exact(hd.same (ae.trans (dQ sm) (ae.trans xa.same x4.same))).append (.cons (rv.pl.d_ q1) .nil)
  rcases hc with rfl | ⟨c,rfl⟩
  ·have f5:M.bind (ev G.F el ρ') (λy=>M.bind (M.of (pl y)) λy=>M.ret (some y)) z=some (.ok o z3):=f4;have ty:Mq X.K G .nil=xM:=rfl;rw[ty];refine Bw ?_;dsimp only;rw[if_pos rfl];exact yes Ext.refl st' f5
  ·rcases M.bind_some (show M.bind (ev G.F (.cons c .nil) ρ') _ z=_ from f4) with ⟨m,za,e1,e2⟩ | ⟨q,za,e1,e2⟩
   ·rcases M.bind_some (show M.bind (ev G.F c ρ') _ z=_ from e1) with ⟨m',zb,e3,e4⟩ | ⟨q,zb,e3,e4⟩
    ·obtain⟨s,hs,e5⟩:=M.ah e4;cases e5;have hm':=jK hs;subst hm';show tT X.K G EF c σ' H' _;have tb:∃ b,s=.d (.bl b):=by
      cases s with
      |d y=>cases y with
       |bl b=>exact⟨b,rfl⟩|_=>cases e2
      |_=>cases e2
     obtain⟨b,rfl⟩:=tb;refine⟨zA,ρ',z,_,rel',st',e3,b,rfl,λHa xa sta=>?_⟩;cases b with
     |true =>
      rw[if_pos rfl];exact yes xa sta e2
     |false =>
      rw[if_neg Õ];cases e2;exact⟨ã hv (le_succ _),yd,z3,l,x'.trans xa,sta,hd.same (ae.trans (dQ sm) xa),f2,by rw[ey,f3]⟩
    ·cases e4
   ·cases e2
 ·have hi':i=xs.length:=by omega
  subst hi';rw[R4] at et;cases et;refine .inl ⟨IT.stop H x,λl hl=>fin H vs l x st (by rw[ey,ö];exact hd) hl⟩
end
theorem dE{env:Qs}{k0:Q7}(hk:k0≠.free):∀ {names:List (Str × Q7)}{x:Str},names.lookup x=some k0 ->
  (names.map λ(n,k)=>if (k == ý&&env.scope.kind == .function&&env.kindOf n == some .cell) then(n,P7) else(n,k)).lookup x=some k0
 |[],_,h=>by simp at h
 |(n,k)::r,x,h=>by
  have ih:=@dE env k0 hk r x;show Rw x ((if (k == ý&&env.scope.kind == .function&&env.kindOf n == some .cell)=true then(n,P7) else(n,k))::_)=_;cases hx:x == n with
  |true =>
   simp only[OP,hx] at h;cases h;have:(k0 == ý)=false:=by simpa using hk
   rw[this,Rb,Rb,if_neg Õ];simp only[OP,hx]
  |false =>
   simp only[OP,hx] at h;by_cases hq:(k == ý&&env.scope.kind == .function&&env.kindOf n == some .cell)=true
   ·rw[if_pos hq];simp only[OP,hx];exact ih h
   ·rw[if_neg hq];simp only[OP,hx];exact ih h
section
variable {lm:Bool}{X:Cx}{G:Gs}{E:XK}{N:List Str}{sc cC:ON}{on:List Str}{cs:List (Str × Nat)}
structure wQ(cC sc:Scope)(N on:List Str)(cs:List (Str × Nat)):Prop where
 kind:cC.kind=.function
 nocell:∀ y∈cC.names,y.2≠.cell
 locs:∀ y∈cC.names,y.2=.local->cC.names.lookup y.1=some .local
 frees:∀ y∈cC.names,y.2=.free->(sc.names.lookup y.1=some .cell∨sc.names.lookup y.1=some .free)
 captd:∀ p∈cs,N[p.2]?=some p.1/\cC.names.lookup p.1=some .free
 own:∀ x∈on,cC.names.lookup x=some .local
 nd:(on++cs.map (·.1)).Nodup
theorem yv(h:lT cC sc N on cs=true):wQ cC sc N on cs:=by
 unfold lT at h;simp only[Á] at h;obtain⟨⟨⟨⟨⟨⟨h1,h2⟩,h3⟩,h4⟩,h5⟩,h6⟩,h7⟩:=h;rw[PZ] at h2 h3 h4 h5 h6;refine⟨by simpa using h1,λy hy=>by simpa using h2 y hy,λy hy hl=>?_,λy hy hf=>?_,λp hp=>by simpa using h5 p hp,λx hx=>by simpa using h6 x hx,of_decide_eq_true h7⟩
 ·have:=h3 y hy;rw[hl] at this;simpa using this
 ·have:=h4 y hy;rw[hf] at this;simpa using this
theorem nq(x:XI lm X G E N sc)(c:wQ cC sc N on cs):fB X cC on cs:=⟨c.kind,c.nocell,c.locs,λy hy hf=>x.cel _ (c.frees y hy hf),λp hp=>by rw[x.hN];exact c.captd p hp⟩
theorem yw(x:XI lm X G E N sc)(c:wQ cC sc N on cs)(cl:List (Str × Ë))(C:Ë)(s:É)(H:Hp)(fp:List Ë):XI false (aV X (a9 on cs) cC cl C s H fp) G EF (on++cs.map (·.1)) cC where
 gok:=x.gok
 num:=x.num
 blt:=x.blt
 hN:=rfl
 nd:=c.nd
 vis:=λy hy=>by
  rcases Ì.mp hy with h | h
  ·exact .inl (dE (-0) (c.own y h))
  ·obtain⟨p,hp,rfl⟩:=Î.mp h;rcases gw (env:=X.env) (c.captd p hp).2 with h | h
   ·exact .inr (.inl h)
   ·exact .inr (.inr h)
 glb:=λy hy=>dE (-0) hy
 cel:=λy hy=>by
  rcases hy with h | h
  ·exact .inl (dE (-0) h)
  ·exact gw (env:=X.env) h
 calm:=x.calm
 room:=x.room
 pas:=HD
theorem Cn(x:XI lm X G E N sc)(c:wQ cC sc N on cs)(cl:List (Str × Ë))(C:Ë)(s:É)(H:Hp)(fp:List Ë):yj (aV X (a9 on cs) cC cl C s H fp) (on++cs.map (·.1)) (λy=>on.contains y) where
 hN:=rfl
 nd:=c.nd
 lc:=λy hy=>.inl (dE (-0) (c.own y (by simpa using hy)))
 fn:=λy hy=>.inr (dE (-0) (c.own y (by simpa using hy)))
 calm:=x.calm
theorem uQ:∀ {aB:List Nat},(bW N aB).length=aB.length->(bW N aB).map (·.2)=aB
 |[],_=>rfl
 |i::r,h=>by
  have le:∀ l:List Nat,(bW N l).length<=l.length:=by
   intro l
   induction l with
   |nil=>exact Ô _
   |cons j q ih =>
    unfold bW;split
    ·rw[æ,æ];omega
    ·rw[æ];omega
  unfold bW at h ⊢;split at h
  ·rename_i y hy;rw[æ,æ] at h;rw[Qw,uQ ∅]
  ·have:=le r;rw[æ] at h;omega
theorem Co(rel:eA X.K zA H ρ σ)(h:cs.map (·.2)=aB):eA X.K zA H (ø on.length none++aB.map λi=>(ρ[i]?).getD none) (eO on cs σ) /\
  (ø on.length (none:Option S)++aB.map λi=>(ρ[i]?).getD none).length=(eO on cs σ).length:=by
 subst h;constructor
 ·intro j s e;unfold eO;by_cases hj:j < on.length
  ·rw[QN (by simpa using hj)] at e
   simp[Sf,hj] at e
  ·rw[Pg (by simpa using hj),Vm,è,è] at e
   rw[Pg (by simpa using hj),Ç,è]
   cases hp:cs[j - on.length]? with
   |none=>rw[hp] at e;simp at e
   |some p =>
    rw[hp] at e;simp only[Option.map_some,Sz] at e;have e2:ρ[p.2]?=some (some s):=by
     cases hr:ρ[p.2]? with
     |none=>rw[hr] at e;cases e
     |some o=>rw[hr] at e;exact congrArg some e
    obtain⟨v,h1,h2⟩:=rel p.2 s e2;exact⟨v,by simp[h1],h2⟩
 ·unfold eO;simp
theorem kG(h:d6 e=true)(env:Qs)(x:Ä):Pn e env x=pure x:=by
 cases e with
 |Set _ _ _=>cases h
 |_=>rfl
def jL(X:Cx)(G:Gs)(E:XK)(x:Ex)(elt tg iter:Ö)(ifs:List Ö)(cC:ON):Prop:=∃ (own:List Str) (aB:List (Str × Nat)) (wi:TI) (g:TG) (tt:TT) (te:TE),fB X cC own aB/\PI X tg iter wi /\
 (∀ cl C s H fp,PG (aV X (a9 own aB) cC cl C s H fp) tg g)/\(∀ cl C s H fp,Ho (aV X (a9 own aB) cC cl C s H fp) ifs tt)/\(∀ cl C s H fp,PE (aV X (a9 own aB) cC cl C s H fp) elt te) /\
 (∀ x,Pn iter X.env x=pure x)/\∀ σ H Q,tI X.K G E x σ H Q->A9 own aB wi g tt te σ H Q
theorem Lk(x:XI lm X G E N sc){p:fW}{it:It}{src cond el:Ex}{aB:List Nat}{elt tg iter:Ö}{ifs:List Ö}(c:wQ cC sc N on cs)(hcap:cs.map (·.2)=aB)(hp:cG (on++cs.map (·.1)) (λy=>on.contains y) p tg=true)
  (hi:PI X tg iter (DM X.K G E it src)) (hns:d6 iter=true) (hc:(cond=.nil/\ifs=[])∨∃ q f,cond=.cons q .nil/\ifs=[f]/\∀ cl C s H fp,PT (aV X (a9 on cs) cC cl C s H fp) f (tT X.K G EF q))
  (he:∀ cl C s H fp,PE (aV X (a9 on cs) cC cl C s H fp) elt (tI X.K G EF el)):jL X G E (.comp on.length aB p it src cond el) elt tg iter ifs cC:=by
 have ht:∀ cl C s H fp,Ho (aV X (a9 on cs) cC cl C s H fp) ifs (Mq X.K G cond):=by
  rcases hc with ⟨rfl,rfl⟩ | ⟨q,f,rfl,rfl,h⟩
  ·exact λcl C s H fp=>D9
  ·exact λcl C s H fp=>Ea (h cl C s H fp)
 refine⟨on,cs,DM X.K G E it src,gP X.K p,Mq X.K G cond,tI X.K G EF el,nq x c,hi,λcl C s H fp=>uK (Cn x c cl C s H fp) hp,ht,he,kG hns X.env,λσ H Q q=>?_⟩;obtain⟨zA,ρ,z,rr,rel,st,e,po⟩:=q;have e0:M.bind (ev G.F src ρ) (λl=>M.bind (M.of ((gB l).bind (qz it))) λxs=>if xs.length<=most then M.bind (M.calm (turns (d5 (ev G.F cond) (ev G.F el) p (ø on.length none++aB.map λi=>(ρ[i]?).getD none)) xs)) λys=>M.ret [.fr ys] else M.no) z=some rr:=e;rcases M.bind_some e0 with ⟨m,z1,e1,e2⟩ | ⟨k,z1,e1,e2⟩
 ·obtain⟨xs,hx,e3⟩:=M.ah e2;refine⟨zA,ρ,z,_,rel,st,e1,xs,hx,λJ H1 x1 aQ IT'=>?_⟩;have IT:=IT'.ok;split at e3
  ·rename_i hm;rcases M.bind_some e3 with ⟨ys,z2,e4,e5⟩ | ⟨k,z2,e4,e5⟩
   ·cases e5;have e6:turns (d5 (ev G.F cond) (ev G.F el) p (ø on.length none++aB.map λi=>(ρ[i]?).getD none)) xs z1=some (.ok ys z2):=by
     unfold M.calm at e4;split at e4
     ·rename_i h;cases e4;exact h
     ·cases e4
    obtain⟨r1,r2⟩:=Co (on:=on) (rel.mono x1) hcap;refine Fc IT hm r1 r2 aQ (by rcases hc with ⟨h,_⟩ | ⟨q,_,h,_⟩;exact .inl h;exact .inr ⟨q,h⟩) e6 λH2 vs l x2 st2 hd hl=>?_
    exact bJ po (x1.trans x2) st2 _ _ (ae.new _ hl) (fE st2 hd hl)
   ·unfold M.calm at e4;split at e4 <;> cases e4
  ·cases e3
 ·exact⟨zA,ρ,z,_,rel,st,e1,(bG po) k z1 e2⟩
theorem jL.good{x:Ex}{elt tg iter:Ö}{ifs:List Ö}{cC:ON}{pos:Pos}(hc:X.calm=true)(h:jL X G E x elt tg iter ifs cC):aw X G E x (.ListComp elt [⟨tg,iter,ifs,0⟩] cC pos):=by
 obtain⟨own,aB,wi,g,tt,te,h1,h2,h3,h4,h5,h6,h7⟩:=h;exact aC (PE.imp (Eb hc h1 h2 h3 h4 h5 h6) h7) rfl
theorem aF(h:(!bR x)=true):bR x=false:=by simpa using h
theorem yz(hL:bR x=true)(g:Good X G E x [e]):∃ a,x=.cons a .nil/\aw X G E a e:=by
 cases x with
 |nil=>cases (show [e]=[] from g)
 |cons a r =>
  obtain⟨e',es,h,ns,ga,lr,gr⟩:=g;cases h;cases r with
  |nil=>exact⟨a,rfl,ga⟩|cons b q=>obtain⟨e,es,h,_⟩:=gr;cases h
  |_=>cases lr
 |_=>cases hL
theorem qD{lm:Bool}{G:Gs}{own:Nat}{aB:List Nat}{p:fW}{it:It}{src cond el:Ex}(ihs:(∀ {X:Cx}{E:XK}{N:List Str}{sc:ON},XI lm X G E N sc->∀ {es:List Ö},mt lm G.fns G.nums src sc N es=true->Good X G E src es))(ihc:(∀ {X:Cx}{E:XK}{N:List Str}{sc:ON},XI false X G E N sc->∀ {es:List Ö},mt false G.fns G.nums cond sc N es=true->Good X G E cond es))(ihe:(∀ {X:Cx}{E:XK}{N:List Str}{sc:ON},XI false X G E N sc->∀ {es:List Ö},mt false G.fns G.nums el sc N es=true->Good X G E el es))
  {X:Cx}{E:XK}{N:List Str}{sc:ON} (x:XI lm X G E N sc) {elt tg iter:Ö}{ifs:List Ö}{cC:ON} (h:(bA tg).length == own&&(bW N aB).length == aB.length&&lT cC sc N (bA tg) (bW N aB)&&cG (bA tg++(bW N aB).map (·.1)) (λx=>(bA tg).contains x) p tg&&bR src&&!bR el&&bR cond&&ifs.length<=1&&noStar elt&&d6 iter&&ifs.all (λc=>!E4 c) &&
    (match it with
    |.seq=>mt lm G.fns G.nums src sc N [iter]|.rng1=>opt (zW iter) λr=>r.1.1 == ("range":Str)&&glob sc r.1.1&&mt lm G.fns G.nums src sc N [r.1.2.2.1]|.rng2=>opt (zX iter) λr=>r.1.1 == ("range":Str)&&glob sc r.1.1&&mt lm G.fns G.nums src sc N [r.1.2.2.1,r.1.2.2.2.1]|.zip=>opt (zX iter) λr=>r.1.1 == ("zip":Str)&&glob sc r.1.1&&dD tg&&mt lm G.fns G.nums src sc N [r.1.2.2.1,r.1.2.2.2.1]|.enum=>opt (zW iter) λr=>r.1.1 == ("enumerate":Str)&&glob sc r.1.1&&dD tg&&mt lm G.fns G.nums src sc N [r.1.2.2.1]
    )&&mt false G.fns G.nums cond cC (bA tg++(bW N aB).map (·.1)) ifs&&mt false G.fns G.nums el cC (bA tg++(bW N aB).map (·.1)) [elt]):jL X G E (.comp own aB p it src cond el) elt tg iter ifs cC:=by
 simp only[Á,beq_iff_eq,decide_eq_true_eq] at h;obtain⟨⟨⟨⟨⟨⟨⟨⟨⟨⟨⟨⟨⟨h1,h2⟩,h3⟩,h4⟩,h5⟩,h6⟩,h7⟩,h8⟩,h9⟩,h10⟩,h11⟩,h12⟩,h13⟩,h14⟩:=h;subst h1;have c:=yv h3;have hi:PI X tg iter (DM X.K G E it src):=by
  cases it with
  |seq =>
   obtain⟨a,rfl,ga⟩:=yz h5 (ihs x h12);exact Ci ga
  |rng1 =>
   obtain⟨⟨⟨n,_,a,_⟩,rfl⟩,-,h12⟩:=au h12;simp only[Á,beq_iff_eq] at h12;exact yp x h12.1.1 h12.1.2 h5 (ihs x h12.2)
  |rng2 =>
   obtain⟨⟨⟨n,_,a,b,_⟩,rfl⟩,-,h12⟩:=au h12;simp only[Á,beq_iff_eq] at h12;exact yq x h12.1.1 h12.1.2 h5 (ihs x h12.2)
  |zip =>
   obtain⟨⟨⟨n,_,a,b,_⟩,rfl⟩,-,h12⟩:=au h12;simp only[Á,beq_iff_eq] at h12;exact yu x h12.1.2 h12.1.1.1 h12.1.1.2 h5 (ihs x h12.2)
  |enum =>
   obtain⟨⟨⟨n,_,a,_⟩,rfl⟩,-,h12⟩:=au h12;simp only[Á,beq_iff_eq] at h12;exact uP x h12.1.2 h12.1.1.1 h12.1.1.2 h5 (ihs x h12.2)
 have hc:(cond=.nil/\ifs=[])∨∃ q f,cond=.cons q .nil/\ifs=[f]/\∀ cl C s H fp,PT (aV X (a9 (bA tg) (bW N aB)) cC cl C s H fp) f (tT X.K G EF q):=by
  match ifs,h8,h11,h13 with
  |[],_,_,h13 =>
   cases cond with
   |nil=>exact .inl ⟨rfl,rfl⟩|cons a r=>cases h13
   |_=>cases h7
  |[f],_,h11,h13 =>
   cases cond with
   |nil=>cases h13
   |cons a r =>
    have h13':(noStar f&&!bR a&&bR r&&mt false G.fns G.nums a cC (bA tg++(bW N aB).map (·.1)) [f]&&mt false G.fns G.nums r cC (bA tg++(bW N aB).map (·.1)) [])=true:=h13;simp only[Á] at h13';have rn:r=.nil:=by
     cases r with
     |nil=>rfl|cons b q=>cases h13'.2
     |_=>cases h13'.1.1.2
    subst rn;simp only[O5,XR,UP] at h11;refine .inr ⟨a,f,rfl,rfl,λcl C s H fp=>?_⟩;obtain⟨e',es,he,ns,ga,lr,gr⟩:=ihc (yw x c cl C s H fp) h13;cases he;exact ga.pt (wJ h11)
   |_=>cases h7
 refine Lk x c (uQ h2) h4 hi h10 hc λcl C s H fp=>?_;exact(ay (aF h6) (ihe (yw x c cl C s H fp) h14)).pe
theorem uR{n:Str}(h:aT n=true):(n == ("__debug__":Str))=false:=by
 unfold aT at h;simp only[Á,ô] at h;exact h.1
theorem mB{K:Â}{H H1:Hp}(sm:ae H H1):∀ {l:List D}{ys:List V}{rs:List (List D)},aJ K H l ys->l.mapM qa=some rs->∃ rows:List (List V),Pd (λy row=>∃ b,y=V.ref b/\cI K H1 b row) ys rows/\aJ K H rs.flatten rows.flatten
 |[],_,_,h,e=>by
  rw[h.bz];simp at e;subst e;exact⟨[],.nil,.nil⟩
 |d::l,_,_,h,e=>by
  obtain⟨v,r,rfl,h1,h2⟩:=h.aH;simp only[RK,bind,Ñ] at e;obtain⟨m,e1,rs,e2,e3⟩:=e;cases e3;obtain⟨rows,p,hf⟩:=mB sm h2 e2;cases d with
  |tup t =>
   cases e1;obtain⟨b,xs,rfl,k1,k2⟩:=h1.dz;exact⟨xs::rows,.cons ⟨b,rfl,sm.il k1⟩ p,k2.append hf⟩
  |_=>cases e1
theorem yA(x:XI lm X G E N sc){a:Ex}{iter:Ö}(ga:aw X G E a iter){σ:L2.St}{H:Hp}{Q:VK}(q:tI X.K G E (.flat a) σ H Q):BA X.K (tI X.K G E a) σ H Q:=by
 obtain⟨zA,ρ,z,rr,rel,st,e,po⟩:=q;refine cz rel st e (bG po) λm z1 e1=>?_;obtain⟨xs,g1,e2⟩:=M.ah e1;obtain⟨d,h1,h2⟩:=Ñ.mp g1;obtain⟨s1,rfl,q1⟩:=cc h1;cases e2;refine⟨s1,rfl,λv H1 x1 aQ rv=>?_⟩;cases d with
 |tup l =>
  obtain⟨rs,h3,h4⟩:=Ñ.mp (show(l.mapM qa).bind _=_ from h2);obtain⟨hm,h5⟩:=bV h4;cases h5;obtain⟨b,ys,rfl,k1,k2⟩:=(rv.pl.d_ q1).dz;obtain⟨rows,p,hf⟩:=mB (ag zA H1) k2 h3;have hl:=hf.length;refine⟨b,ys,rows,rfl,(ag zA H1).il k1,p,?_,λD hn=>?_⟩
  ·rw[hl];exact ã hm (by rw[O2];decide)
  ·exact bJ po x1 aQ _ _ (ae.new _ hn) (fE aQ hf hn)
 |_=>cases h2
theorem IJ(x:XI lm X G E N sc){a:Ex}{n m:Str}{pe px py px2 ps:Pos}{iter:Ö}(c:wQ cC sc N [n,m] [])(hn:aT n=true)(hm:aT m=true)(hns:d6 iter=true)(ga:aw X G E a iter):aw X G E (.flat a) (cx n m pe px py px2 iter cC ps) :=
 aC (PE.imp (Ez x.calm (nq x c) (c.own n Å) (c.own m (by simp)) (uR hn) (uR hm) ga.pe (kG hns X.env)) λσ H Q q=>yA x ga q) rfl
theorem mC{K:Â}{H H1:Hp}(sm:ae H H1):∀ {l:List D}{ys:List V}{kss:List (List Int)},aJ K H l ys->um l=some kss->Pd (λy ks=>∃ b,y=V.ref b/\cI K H1 b (ks.map V.int)) ys kss
 |[],_,_,h,e=>by rw[h.bz];cases e;exact .nil
 |d::l,_,_,h,e=>by
  obtain⟨v,r,rfl,h1,h2⟩:=h.aH;obtain⟨k,e1,e2⟩:=Ñ.mp (show(zN d).bind _=_ from e);obtain⟨q,e3,rfl⟩:=Ï.mp e2;refine .cons ?_ (mC sm h2 e3);cases d with
  |tup t =>
   obtain⟨b,xs,rfl,k1,k2⟩:=h1.dz;obtain⟨rfl,_⟩:=kE (show fY t=some k from e1) k2;exact⟨b,rfl,sm.il k1⟩
  |_=>cases e1
theorem Ll{K:Â}{zA:Option Ë}{z:Z}{H:Hp}{d:Ë}{kss:List (List Int)}(st:aP zA z H)(hd:zA≠some d)(h:lK K H d kss):lK K (hz zA H) d kss:=by
 obtain⟨xs,h1,h2,h3,h4⟩:=h;exact⟨xs,bu h1 hd,h2,λx hx=>st.uz (h3 x hx),h4⟩
theorem Fd(x:XI lm X G E N sc){a:Ex}{n:Str}{p1 p2 px ps:Pos}{k:Nat}{iter:Ö}(c:wQ cC sc N [n] [])(hd:aT n=true)(hns:d6 iter=true)(ga:aw X G E a iter):aw X G E (.dkeys a) (.DictComp (.Name n p1) (.Constant (.bool true) k p2) [⟨.Name n px,iter,[],0⟩] cC ps):=by
 refine aC (PE.imp (Bz x.calm (Nat.lt_of_succ_lt (A7 x.room)) (nq x c) (c.own n Å) (uR hd) ga.pe (kG hns X.env)) λσ H Q q=>?_) rfl;obtain⟨zA,ρ,z,rr,rel,st,e,po⟩:=q;refine cz rel st e (bG po) λm z1 e1=>?_;obtain⟨kss,g1,e2⟩:=M.ah e1;obtain⟨d,h1,h2⟩:=Ñ.mp g1;obtain⟨s1,rfl,q1⟩:=cc h1;cases e2;refine⟨s1,rfl,λv H1 x1 aQ rv=>?_⟩;cases d with
 |lst l =>
  obtain⟨b,ys,rfl,k1,k2⟩:=(rv.pl.d_ q1).iF;exact⟨b,ys,kss,rfl,(k1.same (ag zA H1)).sq,mC (ag zA H1) k2 h2,λd H2 sm hn ok=>bJ po x1 aQ _ _ sm ⟨d,rfl,Ll (aQ.same sm) (aQ.rY hn) ok⟩⟩
 |_=>cases h2
theorem IK(o:Bool)(x:XI lm X G E N sc){a:Ex}{i:Nat}{e:Ö}{n:Str}{p pos:Pos}(h1:N[i]?=some n)(h2:aT n=true)(ga:aw X G E a e):aw X G E (.memk o a i) (.Compare e [Ew o] [.Name n p] pos):=by
 have h2':=h2;unfold aT at h2';simp only[Á,ô] at h2';have pv:=jD (X:=X) (i:=i) (pos:=p) (by rw[x.hN];exact h1) (x.vis n (p5 h1)) h2'.1 h2'.2
 suffices key:∀ σ H Q,tI X.K G E (.memk o a i) σ H Q->JH (Gh X.K o) (tI X.K G E a) (GQ i) σ H Q by
  refine⟨PE.imp (xD (xY o (A7 x.room)) ga.pe pv rfl) key,λ_=>PT.imp (xE (xY o (A7 x.room)) ga.pe pv rfl) λσ H Q q=>?_,λop vs p h=>by cases h⟩
  obtain⟨zA,ρ,z,rr,rel,st,e,po⟩:=q;exact key σ H _ ⟨zA,ρ,z,rr,rel,st,e,wK po⟩
 intro σ H Q q;obtain⟨zA,ρ,z,rr,rel,st,e,po⟩:=q;refine cz rel st e (bG po) λm z1 e1=>?_;obtain⟨k,g1,e2⟩:=M.ah e1;obtain⟨d,h3,h4⟩:=Ñ.mp g1;obtain⟨s1,rfl,q1⟩:=cc h3;obtain⟨kss,g2,e3⟩:=M.ah e2;cases e3;refine⟨s1,rfl,λv H1 x1 aQ rv=>?_⟩;have hr:ρ[i]?=some (some (.ks kss)):=by
  unfold HI at g2;split at g2
  ·cases g2;assumption
  ·cases g2
 obtain⟨w,w1,w2⟩:=(rel.mono x1) i _ hr;obtain⟨b,rfl,ok⟩:=w2;cases d with
 |tup t =>
  obtain⟨c,xs,rfl,k1,k2⟩:=(rv.pl.d_ q1).dz;obtain⟨rfl,_⟩:=kE (show fY t=some k from h4) k2;have ok':lK X.K H1 b kss:=ok.same (ag zA H1);refine⟨_,w1,c,k,b,kss,rfl,rfl,(ag zA H1).il k1,ok',?_⟩;have eq:kss.contains k=decide (k∈kss):=by rw[O7];simp
  have:=bJ po x1 aQ _ _ (ae.refl H1) (bQ (b:=kss.contains k == o));rw[eq] at this;exact this
 |_=>cases h4
theorem IL:∀ (t:Ex) {lm:Bool}{G:Gs}{X:Cx}{E:XK}{N:List Str}{sc:ON},XI lm X G E N sc->∀ {es:List Ö},mt lm G.fns G.nums t sc N es=true->Good X G E t es:=by
 intro t
 induction t with
 |nil =>
  intro lm G X E N sc x es h;exact Se.mp h
 |cons a r iha ihr =>
  intro lm G X E N sc x es h;cases es with
  |nil=>cases h
  |cons e es =>
   have h:(noStar e&&!bR a&&bR r&&mt lm G.fns G.nums a sc N [e]&&mt lm G.fns G.nums r sc N es)=true:=h;simp only[Á] at h;obtain⟨⟨⟨⟨h1,h2⟩,h3⟩,h4⟩,h5⟩:=h;exact⟨e,es,rfl,h1,ay (aF h2) (iha x h4),h3,ihr x h5⟩
 |var i =>
  intro lm G X E N sc x es h;obtain⟨⟨q,rfl⟩,-,h⟩:=au h;simp only[Á,beq_iff_eq] at h;exact aK rfl (K2 x h.1 h.2)
 |con d =>
  intro lm G X E N sc x es h;rcases (Ph _ _).mp h with h | h
  ·obtain⟨⟨q,rfl⟩,-,h⟩:=au h;exact aK rfl (K4 h)
  ·obtain⟨⟨p,rfl⟩,-,h⟩:=au h;cases d with
   |dct=>exact aK rfl K5|_=>cases h
 |gint g i =>
  intro lm G X E N sc x es h;obtain⟨⟨⟨n,p⟩,rfl⟩,-,h⟩:=au h;simp only[Á,beq_iff_eq,p9] at h;obtain⟨⟨rfl,h2⟩,h3⟩:=h;exact aK rfl (Io x h2 h3)
 |tup as ih =>
  intro lm G X E N sc x es h;obtain⟨⟨q,rfl⟩,-,h⟩:=au h;simp only[Á] at h;exact aK rfl (K6 h.1 (ih x h.2))
 |lst as ih =>
  intro lm G X E N sc x es h;obtain⟨⟨q,rfl⟩,-,h⟩:=au h;simp only[Á] at h;exact aK rfl (K7 h.1 (ih x h.2))
 |bin o a b iha ihb =>
  intro lm G X E N sc x es h;obtain⟨⟨⟨l,op,r,p⟩,rfl⟩,-,h⟩:=au h;simp only[Á,beq_iff_eq] at h;obtain⟨⟨⟨⟨rfl,h2⟩,h3⟩,h4⟩,h5⟩:=h;exact aK rfl (K8 (ay (aF h2) (iha x h4)) (ay (aF h3) (ihb x h5)))
 |cmp o a b iha ihb =>
  intro lm G X E N sc x es h;obtain⟨⟨⟨l,op,r,p⟩,rfl⟩,-,h⟩:=au h;simp only[Á,beq_iff_eq] at h;obtain⟨⟨⟨⟨⟨rfl,h1⟩,h2⟩,h3⟩,h4⟩,h5⟩:=h;exact aK rfl (K9 x h1 (ay (aF h2) (iha x h4)) (ay (aF h3) (ihb x h5)))
 |neg a ih =>
  intro lm G X E N sc x es h;obtain⟨⟨q,rfl⟩,-,h⟩:=au h;simp only[Á] at h;exact aK rfl (La (ay (aF h.1) (ih x h.2)))
 |not a ih =>
  intro lm G X E N sc x es h;obtain⟨⟨q,rfl⟩,-,h⟩:=au h;simp only[Á] at h;obtain⟨⟨h1,h2⟩,h3⟩:=h;exact aK rfl (Lb (ay (aF h1) (ih x h3)) (wJ h2))
 |and a b iha ihb =>
  intro lm G X E N sc x es h;obtain⟨⟨⟨l,r,vs,p⟩,rfl⟩,-,h⟩:=au h;simp only[Á] at h;obtain⟨⟨⟨⟨h1,h2⟩,h3⟩,h4⟩,h5⟩:=h;refine aK rfl (Lc (ay (aF h1) (iha x h4)) (wJ h3) ?_);cases vs with
  |nil =>
   rw[if_pos (show([]:List Ö).isEmpty=true from rfl),Á] at h5;exact Gp (ay (aF h2) (ihb x h5.2)) (wJ h5.1)
  |cons v vs =>
   rw[if_neg (by exact Õ)] at h5
   exact ay (aF h2) (ihb x h5)
 |or a b iha ihb =>
  intro lm G X E N sc x es h;obtain⟨⟨⟨l,r,vs,p⟩,rfl⟩,-,h⟩:=au h;simp only[Á] at h;obtain⟨⟨⟨⟨h1,h2⟩,h3⟩,h4⟩,h5⟩:=h;refine aK rfl (Nu (ay (aF h1) (iha x h4)) (wJ h3) ?_);cases vs with
  |nil =>
   rw[if_pos (show([]:List Ö).isEmpty=true from rfl),Á] at h5;exact Gp (ay (aF h2) (ihb x h5.2)) (wJ h5.1)
  |cons v vs =>
   rw[if_neg (by exact Õ)] at h5
   exact ay (aF h2) (ihb x h5)
 |orT a b iha ihb =>
  intro lm G X E N sc x es h;obtain⟨⟨⟨l,r,vs,p⟩,rfl⟩,-,h⟩:=au h;simp only[Á] at h;obtain⟨⟨⟨⟨h1,h2⟩,h3⟩,h4⟩,h5⟩:=h;cases vs with
  |nil=>exact aK rfl (Ld (ay (aF h1) (iha x h4)) (ay (aF h2) (ihb x h5)))|cons v vs=>cases h3
 |ite c a b ihc iha ihb =>
  intro lm G X E N sc x es h;obtain⟨⟨q,rfl⟩,-,h⟩:=au h;simp only[Á] at h;obtain⟨⟨⟨⟨⟨⟨h1,h2⟩,h3⟩,h4⟩,h5⟩,h6⟩,h7⟩:=h;exact aK rfl (Lf (ay (aF h1) (ihc x h5)) (wJ h4) (ay (aF h2) (iha x h6)) (ay (aF h3) (ihb x h7)))
 |ch o o' a b c iha ihb ihc =>
  intro lm G X E N sc x es h;obtain⟨⟨⟨l,op,op',r,s,p⟩,rfl⟩,-,h⟩:=au h;simp only[Á,beq_iff_eq] at h;obtain⟨⟨⟨⟨⟨⟨⟨⟨rfl,rfl⟩,h1⟩,h2⟩,h3⟩,h4⟩,h5⟩,h6⟩,h7⟩:=h;exact aK rfl (Nv x h1 (ay (aF h2) (iha x h5)) (ay (aF h3) (ihb x h6)) (ay (aF h4) (ihc x h7)))
 |bf f as ih =>
  intro lm G X E N sc x es h;obtain⟨⟨q,rfl⟩,-,h⟩:=au h;simp only[Á,beq_iff_eq] at h;obtain⟨⟨⟨⟨h1,h2⟩,h3⟩,h4⟩,h5⟩:=h;exact aK rfl (Nw x h1 h2 h3 h4 (ih x h5))
 |isi t a ih =>
  intro lm G X E N sc x es h;obtain⟨⟨⟨n,q,e,ty,p⟩,rfl⟩,-,h⟩:=au h;simp only[Á,beq_iff_eq] at h;obtain⟨⟨⟨⟨⟨h1,h2⟩,h3⟩,h4⟩,h5⟩,h6⟩:=h;have g:=ay (aF h4) (ih x h5);refine aK rfl ?_;have one:∀ t:Ty,t≠.seq->(opt (N9 ty) λq=>q.1.1 == O8 (zT t)&&glob sc (O8 (zT t)))=true->aw X G E (.isi t a) (.Call (.Name n q) [e,ty] [] p):=λt hs h6=>by
   obtain⟨⟨⟨a,_⟩,rfl⟩,-,h6⟩:=au h6;simp only[Á,beq_iff_eq] at h6;obtain⟨rfl,k1⟩:=h6;exact Iz x hs k1 h1 h2 h3 g
  cases t with
  |seq =>
   obtain⟨⟨⟨a,_,b,_,_,_⟩,rfl⟩,-,h6⟩:=au h6;simp only[Á,beq_iff_eq] at h6;obtain⟨⟨⟨rfl,rfl⟩,k1⟩,k2⟩:=h6;exact IA x k1 k2 h1 h2 h3 g
  |_=>exact one _ (λh=>by cases h) h6
 |idx a i iha ihi =>
  intro lm G X E N sc x es h;obtain⟨⟨q,rfl⟩,-,h⟩:=au h;simp only[Á] at h;obtain⟨⟨⟨⟨h1,h2⟩,h3⟩,h4⟩,h5⟩:=h;exact aK rfl (Lh h1 (ay (aF h2) (iha x h4)) (ay (aF h3) (ihi x h5)))
 |sl a lo hi iha ihl ihh =>
  intro lm G X E N sc x es h;obtain⟨⟨q,rfl⟩,-,h⟩:=au h;simp only[Á] at h;obtain⟨⟨⟨⟨⟨h1,h2⟩,h3⟩,h4⟩,h5⟩,h6⟩:=h;exact aK rfl (Ny (ay (aF h1) (iha x h4)) h2 h3 (ihl x h5) (ihh x h6))
 |call f as ih =>
  intro lm G X E N sc x es h;obtain⟨⟨⟨n,q,e,l,p⟩,rfl⟩,-,h⟩:=au h;simp only[Á] at h;obtain⟨⟨⟨h1,h2⟩,h3⟩,h4⟩:=h;obtain⟨pr,hf,h1'⟩:=au h1;simp only[Á,beq_iff_eq] at h1';obtain⟨rfl,h7⟩:=h1';exact aK rfl (s_call x hf h7 h2 h3 (ih x h4))
 |comp own aB p it src cond el ihs ihc ihe =>
  intro lm G X E N sc x es h;obtain⟨⟨q,rfl⟩,-,h⟩:=au h;exact aK rfl ((qD ihs ihc ihe x h).good x.calm)
 |lrng b as ih =>
  intro lm G X E N sc x es h;obtain⟨⟨⟨n,p,m,q,a,r,t⟩,rfl⟩,-,h⟩:=au h;simp only[Á,beq_iff_eq] at h;obtain⟨⟨⟨⟨⟨⟨h1,h2⟩,h3⟩,h4⟩,h5⟩,h7⟩,h6⟩:=h;subst h1;subst h2;cases a with
  |nil=>simp at h7|cons a l=>exact aK rfl (ID x h3 h4 h5 (ih x h6))
 |flat a ih =>
  intro lm G X E N sc x es h;obtain⟨⟨q,rfl⟩,-,h⟩:=au h;simp only[Á] at h;obtain⟨⟨⟨⟨⟨h1,h2⟩,h2'⟩,h3⟩,h4⟩,h5⟩:=h;exact aK rfl (IJ x (yv h1) h2 h2' h3 (ay (aF h4) (ih x h5)))
 |nP as ih =>
  intro lm G X E N sc x es h;obtain⟨⟨⟨n,p1,m,p2,e,p3,p4⟩,rfl⟩,-,h⟩:=au h;simp only[Á,beq_iff_eq] at h;obtain⟨⟨⟨⟨⟨h1,h2⟩,h3⟩,h4⟩,h5⟩,h6⟩:=h;have h1:n="len":=h1;have h2:m="set":=h2;subst h1;subst h2;exact aK rfl (IF x h3 h4 h5 (ih x h6))
 |dkeys a ih =>
  intro lm G X E N sc x es h;obtain⟨⟨q,rfl⟩,-,h⟩:=au h;simp only[Á] at h;obtain⟨⟨⟨⟨h1,h2⟩,h3⟩,h4⟩,h5⟩:=h;exact aK rfl (Fd x (yv h1) h2 h3 (ay (aF h4) (ih x h5)))
 |memk o a i ih =>
  intro lm G X E N sc x es h;obtain⟨⟨q,rfl⟩,-,h⟩:=au h;simp only[Á,beq_iff_eq] at h;obtain⟨⟨⟨h1,h2⟩,h3⟩,h4⟩:=h;exact aK rfl (IK o x h1 h2 (ay (aF h3) (ih x h4)))
 |zget i k =>
  intro lm G X E N sc x es h;obtain⟨⟨⟨n,p,j,c,q,r⟩,rfl⟩,-,h⟩:=au h;simp only[Á,beq_iff_eq] at h;obtain⟨⟨h1,h2⟩,h3⟩:=h;have h3:j=(k:Int):=h3;subst h3;exact aK rfl (IB x h1 h2)
theorem sound(G:Gs)(t:Ex)(x:XI lm X G E N sc)(h:mt lm G.fns G.nums t sc N es=true):Good X G E t es:=IL t x h
end
open Classical in
def hw(ow:Nat->Option Ë)(H:Hp):Hp:=λb=>if ∃ i,ow i=some b then none else H b
section
variable {K:Â}{ow:Nat->Option Ë}{H H':Hp}
theorem cN:ae (hw ow H) H:=λb o e=>by
 unfold hw at e;split at e
 ·cases e
 ·exact e
theorem cK(h:H b=some o)(n:∀ i,ow i≠some b):hw ow H b=some o:=by
 unfold hw;rw[if_neg (λ⟨i,e⟩=>n i e)];exact h
theorem iH(h:hw ow H b=some o):H b=some o/\∀ i,ow i≠some b:=by
 refine⟨cN b o h,λi e=>?_⟩;unfold hw at h;rw[if_pos ⟨i,e⟩] at h;cases h
theorem cg(e:ae H H'):ae (hw ow H) (hw ow H'):=λb o h=>by
 obtain⟨h1,h2⟩:=iH h;exact cK (e b o h1) h2
theorem fu:hw (λ_=>none) H=H:=by
 funext b
 unfold hw;rw[if_neg (λ⟨i,e⟩=>by cases e)]
theorem sx(h:cI K H a xs)(hl:∀ i b,ow i=some b->∃ ys,H b=some (.lst ys)):cI K (hw ow H) a xs:=by
 rcases h with (h | ⟨o,h⟩) | h
 ·refine .inl (.inl (cK h λi e=>?_));obtain⟨ys,q⟩:=hl i a e;rw[h] at q;cases q
 ·refine .inl (.inr ⟨o,cK h λi e=>?_⟩);obtain⟨ys,q⟩:=hl i a e;rw[h] at q;cases q
 ·exact .inr h
mutual
theorem nr(hl:∀ i b,ow i=some b->∃ ys,H b=some (.lst ys)):∀ {d:D}{v:V},bare d=true->Hd K H d v->Hd K (hw ow H) d v
 |.bw,_,_,h=>by rw[h.BK];exact Hd.bw|.bl _,_,_,h=>by rw[h.vN];exact Hd.bl|.int _,_,_,h=>by rw[h.bH];exact Hd.int|.str _,_,_,h=>by rw[h.HJ];exact Hd.str
 |.tup l,_,b,h=>by
  obtain⟨a,xs,rfl,h1,h2⟩:=h.dz;exact Hd.tup (sx h1 hl) (kH hl (by simpa [bare] using b) h2)
 |.lst _,_,b,_=>by cases b
 |.dct,_,b,_=>by cases b
theorem kH(hl:∀ i b,ow i=some b->∃ ys,H b=some (.lst ys)):∀ {ds:List D}{vs:List V},cF ds=true->aJ K H ds vs->aJ K (hw ow H) ds vs
 |[],_,_,h=>by rw[h.bz];exact .nil
 |d::ds,_,b,h=>by
  obtain⟨x,r,rfl,h1,h2⟩:=h.aH;simp only[cF,Á] at b;exact .cons (nr hl b.1 h1) (kH hl b.2 h2)
end
theorem Lm(hl:∀ i b,ow i=some b->∃ ys,H b=some (.lst ys)){d:Ë}{kss:List (List Int)}(h:lK K H d kss):lK K (hw ow H) d kss:=by
 obtain⟨xs,h1,h2,h3,h4⟩:=h;refine⟨xs,cK h1 λi e=>?_,h2,λx hx=>sx (h3 x hx) hl,h4⟩;obtain⟨ys,q⟩:=hl i d e;rw[h1] at q;cases q
end
def DN(K:Â)(zA:Option Ë)(ow:Nat->Option Ë)(H:Hp)(i:Nat):S->V->Prop
 |.d x,v=>ow i=none/\Hd K (hw ow (hz zA H)) x v|.fr xs,v=>∃ a ys,ow i=some a/\v=.ref a/\H a=some (.lst ys)/\aJ K (hw ow (hz zA H)) xs ys|.z,v=>ow i=none/\∃ a,zA=some a/\v=.ref a|.ks l,v=>ow i=none/\∃ d,v=.ref d/\lK K (hw ow (hz zA H)) d l
structure RW(K:PySem.W.Frag)(H0:Hp)(zE zA:Option Addr)(ow:Nat->Option Addr)(H:Hp)(ρ:Env)(σ:L2.St):Prop where
 len:ρ.length=σ.length
 inj:∀ i j a,ow i=some a->ow j=some a->i=j
 zne:∀ i a,ow i=some a->zA≠some a
 own:∀ i a,ow i=some a->∃ xs,ρ[i]?=some (some (.fr xs))
 wor:∀ i s,ρ[i]?=some (some s)->∃ v,σ[i]?=some (some v)/\DN K zA ow H i s v
 ext:Ext zE H0 H
 zok:zA=zE∨(zE=none/\∀ a,zA=some a->H0 a=none)
 new:∀ i a,ow i=some a->H0 a=none
section
variable {K:Â}{H0 H H':Hp}{zE zA:Option Ë}{ow:Nat->Option Ë}{ρ:Env}{σ:L2.St}
theorem RW.lst(r:RW K H0 zE zA ow H ρ σ):∀ i a,ow i=some a->∃ ys,H a=some (.lst ys):=λi a e=>by
 obtain⟨xs,h⟩:=r.own i a e;obtain⟨v,h1,a',ys,h2,h3,h4,h5⟩:=r.wor i _ h;rw[e] at h2;cases h2;exact⟨ys,h4⟩
theorem RW.uT(r:RW K H0 zE zA ow H ρ σ):∀ i a,ow i=some a->∃ ys,hz zA H a=some (.lst ys):=λi a e=>by
 obtain⟨ys,h⟩:=r.lst i a e;exact⟨ys,bu h (r.zne i a e)⟩
theorem DN.pl{i:Nat}{s:S}{v:V}(h:DN K zA ow H i s v)(hz':∀ a,ow i=some a->zA≠some a):vO K zA H s v:=by
 cases s with
 |d x=>exact h.2.same cN|z=>exact h.2|ks l=>obtain⟨_,d,q,k⟩:=h;exact⟨d,q,k.same cN⟩
 |fr xs =>
  obtain⟨a,ys,h1,rfl,h3,h4⟩:=h;exact Hd.lst (bu h3 (hz' a h1)) (h4.same cN)
theorem RW.jM(r:RW K H0 zE zA ow H ρ σ):eA K zA H ρ σ:=λi s e=>by
 obtain⟨v,h1,h2⟩:=r.wor i s e;exact⟨v,h1,h2.pl λa q=>r.zne i a q⟩
theorem DN.mono{i:Nat}{s:S}{v:V}(h:DN K zA ow H i s v)(hz':∀ a,ow i=some a->zA≠some a)(x:Ext zA H H'):DN K zA ow H' i s v:=by
 cases s with
 |d y=>exact⟨h.1,h.2.same (cg x)⟩|z=>exact h|ks l=>obtain⟨n,d,q,k⟩:=h;exact⟨n,d,q,k.same (cg x)⟩
 |fr xs =>
  obtain⟨a,ys,h1,rfl,h3,h4⟩:=h;exact⟨a,ys,h1,rfl,x.at h3 (hz' a h1),h4.same (cg x)⟩
theorem Cp(zA:Option Ë)(H:Hp):ae (hz zA H) (hz none H):=λ_ _ h=>bu (eS h).1 (λq=>nomatch q) (gE h)
theorem wU(e:Ext zE H0 H)(zok:zA=zE∨(zE=none/\∀ a,zA=some a->H0 a=none))(x:Ext zA H H'):Ext zE H0 H':=by
 rcases zok with rfl | ⟨rfl,hn⟩
 ·exact e.trans x
 ·refine⟨λb o h=>?_,λb ps h=>let ⟨qs,q⟩:=e.fj b ps h;x.fj b qs q⟩;have h1:=e.same b o h;refine bu (x.at (eS h1).1 (λq=>?_) (gE h1)) (λq=>nomatch q) (gE h1);have h0:=(eS h).1;rw[hn b q] at h0;cases h0
theorem RW.mono(r:RW K H0 zE zA ow H ρ σ)(x:Ext zA H H'):RW K H0 zE zA ow H' ρ σ :=
 ⟨r.len,r.inj,r.zne,r.own,λi s e=>let ⟨v,h1,h2⟩:=r.wor i s e;⟨v,h1,h2.mono (λa q=>r.zne i a q) x⟩,wU r.ext r.zok x,r.zok,r.new⟩
theorem RW.young(r:RW K H0 zE zA ow H ρ σ)(h:H a=none)(n:zA≠some a):H0 a=none/\zE≠some a:=by
 have hE:zE≠some a:=λq=>by
  rcases r.zok with rfl | ⟨rfl,_⟩
  ·exact n q
  ·cases q
 exact⟨r.ext.free h hE,hE⟩
theorem RW.out(r:RW K H0 zE zA ow H ρ σ){s:S}{v:V}(hs:s≠.z)(x:Ext zA H H')(h:jI K zA H H' s v):jI K zE H0 H' s v:=by
 have sm:ae (hz zA H') (hz zE H'):=by
  rcases r.zok with rfl | ⟨rfl,_⟩
  ·exact ae.refl _
  ·exact Cp _ _
 cases s with
 |d y=>exact Hd.same sm h|z=>exact absurd rfl hs|ks l=>obtain⟨d,q,k⟩:=h;exact⟨d,q,k.same sm⟩
 |fr xs =>
  obtain⟨a,ys,rfl,h1,h2,h3,h4⟩:=h;obtain⟨k1,k2⟩:=r.young h1 h2;exact⟨a,ys,rfl,k1,k2,h3,h4.same (lJ λb o _ q=>sm b o q)⟩
theorem RW.Nz(r:RW K H0 zE zA ow H ρ σ){i:Nat}{s:S}(hs:s≠.z)(e:ρ[i]?=some (some s)):∃ v,σ[i]?=some (some v)/\jI K zE H0 H s v:=by
 obtain⟨v,h1,h2⟩:=r.wor i s e;have sm:ae (hz zA H) (hz zE H):=by
  rcases r.zok with rfl | ⟨rfl,_⟩
  ·exact ae.refl _
  ·exact Cp _ _
 refine⟨v,h1,?_⟩;cases s with
 |d y=>exact Hd.same (ae.trans cN sm) h2.2|z=>exact absurd rfl hs|ks l=>obtain⟨_,d,q,k⟩:=h2;exact⟨d,q,k.same (ae.trans cN sm)⟩
 |fr xs =>
  obtain⟨a,ys,k1,rfl,k3,k4⟩:=h2;have n:=r.zne i a k1;have hE:zE≠some a:=λq=>by
   rcases r.zok with rfl | ⟨rfl,_⟩
   ·exact n q
   ·cases q
  refine⟨a,ys,rfl,r.new i a k1,hE,k3,k4.same λb o q=>?_⟩;obtain⟨q1,q2⟩:=iH q;exact nX (sm b o q1) λz=>q2 i (by rw[z];exact k1)
theorem RW.jH(r:RW K H0 zE zA ow H ρ σ):RW K H0 zE zA (λ_=>none) H (jH ρ) σ:=by
 refine⟨by unfold Q.jH;rw[Ç];exact r.len,λi j a h=>(by cases h),λi a h=>(by cases h),λi a h=>(by cases h),λi s e=>?_,r.ext,r.zok,λi a h=>(by cases h)⟩
 unfold Q.jH at e;rw[è] at e;obtain⟨o,e1,e2⟩:=Ï.mp e;cases o with
 |none=>cases e2
 |some s0 =>
  cases e2;obtain⟨v,h1,h2⟩:=r.jM i s0 e1;refine⟨v,h1,?_⟩;cases s0 with
  |d y=>exact⟨rfl,by rw[fu];exact h2⟩|fr xs=>exact⟨rfl,by rw[fu];exact h2⟩|z=>exact⟨rfl,h2⟩|ks l=>exact⟨rfl,by rw[fu];exact h2⟩
def nu(ow:Nat->Option Ë)(i:Nat):Nat->Option Addr:=λj=>if j=i then none else ow j
def Cq(ow:Nat->Option Ë)(i:Nat)(a:Ë):Nat->Option Addr:=λj=>if j=i then some a else ow j
theorem DN.move{ow':Nat->Option Ë}{j:Nat}{s:S}{v:V}(h:DN K zA ow H j s v)(e:ow' j=ow j)(sm:ae (hw ow (hz zA H)) (hw ow' (hz zA H')))(hk:∀ a,ow j=some a->H' a=H a):DN K zA ow' H' j s v:=by
 cases s with
 |d y=>exact⟨by rw[e];exact h.1,h.2.same sm⟩|z=>exact⟨by rw[e];exact h.1,h.2⟩|ks l=>obtain⟨n,d,q,k⟩:=h;exact⟨by rw[e];exact n,d,q,k.same sm⟩
 |fr xs =>
  obtain⟨a,ys,h1,rfl,h3,h4⟩:=h;exact⟨a,ys,by rw[e];exact h1,rfl,by rw[hk a h1];exact h3,h4.same sm⟩
theorem getElem?_set'{α:Type}{l:List α}{i j:Nat}{x y:α}(h:(l.set i x)[j]?=some y):(j=i/\y=x/\i < l.length)∨(j≠i/\l[j]?=some y):=by
 by_cases hj:j=i
 ·subst hj;have hlt:j < l.length:=by
   have:=(ï.mp h).1;simpa using this
  rw[ú hlt] at h;cases h;exact .inl ⟨rfl,rfl,hlt⟩
 ·rw[ñ (OT hj)] at h;exact .inr ⟨hj,h⟩
theorem RW.NA(r:RW K H0 zE zA ow H ρ σ){i:Nat}(h:Hd K (hw ow (hz zA H)) x v):RW K H0 zE zA (nu ow i) H (ρ.set i (some (.d x))) (σ.set i (some v)):=by
 have sub:∀ j a,nu ow i j=some a->j≠i/\ow j=some a:=λj a e=>by
  unfold nu at e;split at e
  ·cases e
  ·rename_i n;exact⟨n,e⟩
 have sm:ae (hw ow (hz zA H)) (hw (nu ow i) (hz zA H)):=λb o e=>by
  obtain⟨e1,e2⟩:=iH e;exact cK e1 λj q=>e2 j (sub j b q).2
 refine⟨by rw[PJ,PJ];exact r.len,λj k a h1 h2=>r.inj j k a (sub j a h1).2 (sub k a h2).2,λj a h1=>r.zne j a (sub j a h1).2,λj a h1=>?_,λj s e=>?_,r.ext,r.zok,λj a h1=>r.new j a (sub j a h1).2⟩
 ·obtain⟨n,h2⟩:=sub j a h1;obtain⟨xs,h3⟩:=r.own j a h2;exact⟨xs,by rw[ñ (OT n)];exact h3⟩
 ·rcases getElem?_set' e with ⟨rfl,e1,hlt⟩ | ⟨n,e1⟩
  ·cases e1;exact⟨v,ú (by rw[← r.len];exact hlt),by unfold nu;exact if_pos rfl,h.same sm⟩
  ·obtain⟨w,h1,h2⟩:=r.wor j s e1;exact⟨w,by rw[ñ (OT n)];exact h1,h2.move (by unfold nu;exact if_neg n) sm λ_ _=>rfl⟩
theorem RW.Ln(r:RW K H0 zE zA ow H ρ σ){i:Nat}{t:S}{v:V}(h:DN K zA (nu ow i) H i t v):RW K H0 zE zA (nu ow i) H (ρ.set i (some t)) (σ.set i (some v)):=by
 have sub:∀ j a,nu ow i j=some a->j≠i/\ow j=some a:=λj a e=>by
  unfold nu at e;split at e
  ·cases e
  ·rename_i n;exact⟨n,e⟩
 have sm:ae (hw ow (hz zA H)) (hw (nu ow i) (hz zA H)):=λb o e=>by
  obtain⟨e1,e2⟩:=iH e;exact cK e1 λj q=>e2 j (sub j b q).2
 refine⟨by rw[PJ,PJ];exact r.len,λj k a h1 h2=>r.inj j k a (sub j a h1).2 (sub k a h2).2,λj a h1=>r.zne j a (sub j a h1).2,λj a h1=>?_,λj s e=>?_,r.ext,r.zok,λj a h1=>r.new j a (sub j a h1).2⟩
 ·obtain⟨n,h2⟩:=sub j a h1;obtain⟨xs,h3⟩:=r.own j a h2;exact⟨xs,by rw[ñ (OT n)];exact h3⟩
 ·rcases getElem?_set' e with ⟨rfl,e1,hlt⟩ | ⟨n,e1⟩
  ·cases e1;exact⟨v,ú (by rw[← r.len];exact hlt),h⟩
  ·obtain⟨w,h1,h2⟩:=r.wor j s e1;exact⟨w,by rw[ñ (OT n)];exact h1,h2.move (by unfold nu;exact if_neg n) sm λ_ _=>rfl⟩
theorem RW.NB(r:RW K H0 zE zA ow H ρ σ){i:Nat}(x:Ext zA H H')(hn:H a=none)(za:zA≠some a)(hl:H' a=some (.lst ys))(h:aJ K (hw (Cq ow i a) (hz zA H')) xs ys)(hi:i < ρ.length) :
  RW K H0 zE zA (Cq ow i a) H' (ρ.set i (some (.fr xs))) (σ.set i (some (.ref a))):=by
 have r':=r.mono x;have old:∀ j b,ow j=some b->b≠a:=λj b e q=>by
  obtain⟨zs,h1⟩:=r.lst j b e;rw[q,hn] at h1;cases h1
 have sub:∀ j b,Cq ow i a j=some b->(j=i/\b=a)∨(j≠i/\ow j=some b):=λj b e=>by
  unfold Cq at e;split at e
  ·rename_i n;cases e;exact .inl ⟨n,rfl⟩
  ·rename_i n;exact .inr ⟨n,e⟩
 have sm:ae (hw ow (hz zA H)) (hw (Cq ow i a) (hz zA H')):=λb o e=>by
  obtain⟨e1,e2⟩:=iH e;have e3:=(eS e1).1;have hb:b≠a:=λq=>by rw[q,hn] at e3;cases e3
  refine cK (x b o e1) λj q=>?_;rcases sub j b q with ⟨_,q⟩ | ⟨_,q⟩
  ·exact hb q
  ·exact e2 j q
 refine⟨by rw[PJ,PJ];exact r.len,λj k b h1 h2=>?_,λj b h1=>?_,λj b h1=>?_,λj s e=>?_,r'.ext,r.zok,λj b h1=>?_⟩
 ·rcases sub j b h1 with ⟨q1,q2⟩ | ⟨q1,q2⟩
  ·rcases sub k b h2 with ⟨p1,p2⟩ | ⟨p1,p2⟩
   ·rw[q1,p1]
   ·exact absurd q2 (old k b p2)
  ·rcases sub k b h2 with ⟨p1,p2⟩ | ⟨p1,p2⟩
   ·exact absurd p2 (old j b q2)
   ·exact r.inj j k b q2 p2
 ·rcases sub j b h1 with ⟨_,q2⟩ | ⟨_,q2⟩
  ·rw[q2];exact za
  ·exact r.zne j b q2
 ·rcases sub j b h1 with ⟨q1,q2⟩ | ⟨q1,q2⟩
  ·rw[q1];exact⟨xs,ú hi⟩
  ·obtain⟨zs,h3⟩:=r.own j b q2;exact⟨zs,by rw[ñ (OT q1)];exact h3⟩
 ·rcases getElem?_set' e with ⟨rfl,e1,hlt⟩ | ⟨n,e1⟩
  ·cases e1;exact⟨.ref a,ú (by rw[← r.len];exact hlt),a,ys,by unfold Cq;exact if_pos rfl,rfl,hl,h⟩
  ·obtain⟨w,h1,h2⟩:=r.wor j s e1;refine⟨w,by rw[ñ (OT n)];exact h1,h2.move (by unfold Cq;exact if_neg n) sm λb q=>?_⟩
   obtain⟨zs,k⟩:=r.lst j b q;rw[k];exact x.at k (r.zne j b q)
 ·rcases sub j b h1 with ⟨_,q2⟩ | ⟨_,q2⟩
  ·rw[q2];exact(r.young hn za).1
  ·exact r.new j b q2
theorem RW.upd(r:RW K H0 zE zA ow H ρ σ){i:Nat}(e:ow i=some a)(h:aJ K (hw ow (hz zA H)) xs ys):RW K H0 zE zA ow (upd H a (.lst ys)) (ρ.set i (some (.fr xs))) σ:=by
 have za:=r.zne i a e;have sm:ae (hw ow (hz zA H)) (hw ow (hz zA (L2.upd H a (.lst ys)))):=λb o q=>by
  obtain⟨e1,e2⟩:=iH q;obtain⟨e3,e4⟩:=eS e1;have hb:b≠a:=λz=>e2 i (by rw[z];exact e)
  exact cK (bu (by rw[ax hb];exact e3) e4 (gE e1)) e2
 obtain⟨xs0,h0⟩:=r.own i a e;have hi:i < ρ.length:=(ï.mp h0).1;obtain⟨v0,s0,a0,ys0,q1,q2,q3,q4⟩:=r.wor i _ h0;rw[e] at q1;cases q1;refine⟨by rw[PJ];exact r.len,r.inj,r.zne,λj b h1=>?_,λj s q=>?_,⟨λb o q=>?_,λb ps q=>?_⟩,r.zok,r.new⟩
 ·by_cases hj:j=i
  ·subst hj;exact⟨xs,ú hi⟩
  ·obtain⟨zs,h3⟩:=r.own j b h1;exact⟨zs,by rw[ñ (OT hj)];exact h3⟩
 ·rcases getElem?_set' q with ⟨rfl,e1,hlt⟩ | ⟨n,e1⟩
  ·cases e1;exact⟨v0,s0,a,ys,e,q2,a7,h.same sm⟩
  ·obtain⟨w,h1,h2⟩:=r.wor j s e1;refine⟨w,h1,h2.move rfl sm λb q=>?_⟩;have hb:b≠a:=λz=>n (r.inj j i b q (by rw[z];exact e))
   exact ax hb
 ·obtain⟨e1,e2⟩:=eS (r.ext b o q);have hb:b≠a:=λz=>by
   have:=(eS q).1;rw[z,r.new i a e] at this;cases this
  exact bu (by rw[ax hb];exact e1) e2 (gE q)
 ·obtain⟨qs,e1⟩:=r.ext.fj b ps q;have hb:b≠a:=λz=>by rw[z,q3] at e1;cases e1
  exact⟨qs,by rw[ax hb];exact e1⟩
end
end Q
namespace Q
open PySem L2 PySem.Spec PyProof.Rows
variable [TB:Tb]
def Fe:Option Ë->Z->Z
 |none,_=>none|some _,z=>z
def eV(K:Â)(G:Gs)(E:XK)(H0:Hp)(zE:Option Ë)(B:Hp)(D:Ends):R O->Prop
 |.ok (.nx ρ) z=>∀ zA ow σ H,RW K H0 zE zA ow H ρ σ->aP zA z H->ae B (hw ow (hz zA H))->D.nx σ H|.ok (.rt s) z=>∀ v H,s≠.z->Ext zE H0 H->aP zE (Fe zE z) H->jI K zE H0 H s v->D.rt v H|.er c z=>∀ e H,Ext zE H0 H->aP zE (Fe zE z) H->H e=none->E (.ref (G.cls c)) (some e) H
def tX(K:Â)(G:Gs)(E:XK)(H0:Hp)(zE:Option Ë)(x:Sm):TS:=λD σ H=>∃ zA ow ρ z r,RW K H0 zE zA ow H ρ σ/\aP zA z H/\ex G.F zE.isNone x ρ z=some r/\eV K G E H0 zE (hw ow (hz zA H)) D r
section
variable {K:Â}{G:Gs}{E:XK}{H0 H H':Hp}{zE zA:Option Ë}{ow:Nat->Option Ë}{ρ:Env}{σ:L2.St}{Dn:Ends}{z:Z}
theorem Ac(zok:zA=zE∨(zE=none/\∀ a,zA=some a->H0 a=none))(st:aP zA z H):aP zE (Fe zE z) H:=by
 cases zE with
 |none=>exact⟨trivial,st.tab⟩
 |some a =>
  rcases zok with rfl | ⟨h,_⟩
  ·exact st
  ·cases h
theorem eV.Mr(po:eV K G E H0 zE B Dn (.er c z))(r:RW K H0 zE zA ow H ρ σ):EPost G zA E c z H:=λe H' x st n=>po e H' (wU r.ext r.zok x) (Ac r.zok st) n
theorem eV.Ff(po:eV K G E H0 zE B Dn rr)(r:RW K H0 zE zA ow H ρ σ):∀ c z1,rr=.er c z1->EPost G zA E c z1 H:=λc z1 e=>by subst e;exact po.Mr r
theorem eV.mono(po:eV K G E H0 zE B Dn rr)(h:ae B B'):eV K G E H0 zE B' Dn rr:=by
 match rr,po with
 |.ok (.nx _) _,po=>exact λzA ow σ H r st sm=>po zA ow σ H r st (ae.trans h sm)|.ok (.rt _) _,po=>exact po|.er _ _,po=>exact po
theorem f9(ow:Nat->Option Ë)(i:Nat):ae (hw ow H) (hw (nu ow i) H):=λb o e=>by
 obtain⟨e1,e2⟩:=iH e;refine cK e1 λj q=>?_;unfold nu at q;split at q
 ·cases q
 ·exact e2 j q
theorem lV(ow:Nat->Option Ë):ae (hw ow H) (hw (λ_=>none) H):=λb o e=>cK (iH e).1 λj q=>nomatch q
theorem Cr(x:Ext zA H H')(hn:H a=none)(i:Nat):ae (hw ow (hz zA H)) (hw (Cq ow i a) (hz zA H')):=λb o e=>by
 obtain⟨e1,e2⟩:=iH e;have e3:=(eS e1).1;have hb:b≠a:=λq=>by rw[q,hn] at e3;cases e3
 refine cK (x b o e1) λj q=>?_;unfold Cq at q;split at q
 ·cases q;exact hb rfl
 ·exact e2 j q
theorem Fg(e:ow i=some a):ae (hw ow (hz zA H)) (hw ow (hz zA (upd H a o))):=λb u q=>by
 obtain⟨e1,e2⟩:=iH q;obtain⟨e3,e4⟩:=eS e1;have hb:b≠a:=λw=>e2 i (by rw[w];exact e)
 exact cK (bu (by rw[ax hb];exact e3) e4 (gE e1)) e2
mutual
theorem yB:∀ {p:fW}{d:D}{ρ ρ':Env},bO p d ρ=some ρ'->∀ {ow:Nat->Option Ë}{σ:L2.St}{v:V}{R:L2.St->Hp->Prop},RW K H0 zE zA ow H ρ σ->Hd K (hw ow (hz zA H)) d v ->
  (∀ ow' σ',RW K H0 zE zA ow' H ρ' σ'->ae (hw ow (hz zA H)) (hw ow' (hz zA H))->R σ' H)->gP K p v σ H R
 |.v i,d,ρ,ρ',e,ow,σ,v,R,r,hd,k=>by
  unfold bO at e;cases e;unfold gP;exact k _ _ (r.NA hd) (f9 ow i)
 |.tup ps,d,ρ,ρ',e,ow,σ,v,R,r,hd,k=>by
  unfold bO at e;cases d with
  |tup l =>
   obtain⟨a,xs,rfl,h1,h2⟩:=hd.dz;unfold gP;exact⟨a,xs,rfl,(ag zA H).il (ae.il cN h1),by rw[h2.length];exact lU e,wV e r h2 k⟩
  |_=>cases e
 |.nil,_,_,_,e,_,_,_,_,_,_,_=>by unfold bO at e;cases e
 |.cons _ _,_,_,_,e,_,_,_,_,_,_,_=>by unfold bO at e;cases e
theorem wV:∀ {r:fW}{l:List D}{ρ ρ':Env},bindL r l ρ=some ρ'->∀ {ow:Nat->Option Ë}{σ:L2.St}{vs:List V}{R:L2.St->Hp->Prop},RW K H0 zE zA ow H ρ σ->aJ K (hw ow (hz zA H)) l vs ->
  (∀ ow' σ',RW K H0 zE zA ow' H ρ' σ'->ae (hw ow (hz zA H)) (hw ow' (hz zA H))->R σ' H)->gL K r vs σ H R
 |.nil,l,ρ,ρ',e,ow,σ,vs,R,r,hd,k=>by
  unfold bindL at e;cases l with
  |nil =>
   cases e;unfold gL;exact⟨hd.bz,k ow σ r (ae.refl _)⟩
  |cons x l=>cases e
 |.cons p q,l,ρ,ρ',e,ow,σ,vs,R,r,hd,k=>by
  unfold bindL at e;cases l with
  |nil=>cases e
  |cons x l =>
   obtain⟨ρ1,e1,e2⟩:=Ñ.mp e;obtain⟨v,ws,rfl,h1,h2⟩:=hd.aH;unfold gL;exact⟨v,ws,rfl,yB e1 r h1 λow' σ' r' sm=>wV e2 r' (h2.same sm) λow2 σ2 r2 sm2=>k ow2 σ2 r2 (ae.trans sm sm2)⟩
 |.v _,_,_,_,e,_,_,_,_,_,_,_=>by unfold bindL at e;cases e
 |.tup _,_,_,_,e,_,_,_,_,_,_,_=>by unfold bindL at e;cases e
end
theorem yC(r:RW K H0 zE zA ow H ρ σ)(s:S):∃ ow',RW K H0 zE zA ow' H (cT s ρ) σ/\ae (hw ow (hz zA H)) (hw ow' (hz zA H))/\(oa s=true∨∀ i,ow' i=none):=by
 unfold cT;rw[og];cases hb:oa s with
 |true=>exact⟨ow,r,ae.refl _,.inl rfl⟩|false=>exact⟨_,r.jH,lV ow,.inr λ_=>rfl⟩
theorem uU{p:fW}{s:S}{v:V}{ρ':Env}{R:L2.St->Hp->Prop}(r:RW K H0 zE zA ow H ρ σ)(x:Ext zA H H')(rv:jI K zA H H' s v)(e:iC p s (cT s ρ)=some ρ')
  (k:∀ ow' σ',RW K H0 zE zA ow' H' ρ' σ'->ae (hw ow (hz zA H)) (hw ow' (hz zA H'))->R σ' H'):gP K p v σ H' R:=by
 obtain⟨owk,r1,s1,b1⟩:=yC r s;have r2:=r1.mono x;have s2:ae (hw ow (hz zA H)) (hw owk (hz zA H')):=ae.trans s1 (cg x);cases s with
 |d y =>
  have e':bO p y (cT (.d y) ρ)=some ρ':=by cases p <;> exact e
  refine yB e' r2 ?_ λow' σ' r3 s3=>k ow' σ' r3 (ae.trans s2 s3);rcases b1 with b1 | b1
  ·exact nr r2.uT b1 rv
  ·have:owk=λ_=>none:=funext b1;subst this;rw[fu];exact rv
 |z =>
  cases p with
  |v i =>
   simp only[iC] at e;split at e
   ·cases e;unfold gP;exact k _ _ (r2.Ln (t:=.z) ⟨if_pos rfl,rv⟩) (ae.trans s2 (f9 owk i))
   ·cases e
  |_=>cases e
 |ks l =>
  cases p with
  |v i =>
   simp only[iC] at e;split at e
   ·cases e;unfold gP;obtain⟨d,rfl,h1⟩:=rv;exact k _ _ (r2.Ln (t:=.ks l) ⟨if_pos rfl,d,rfl,(Lm r2.uT h1).same (f9 owk i)⟩) (ae.trans s2 (f9 owk i))
   ·cases e
  |_=>cases e
 |fr xs =>
  cases p with
  |v i =>
   simp only[iC] at e;split at e
   ·rename_i hi;cases e;unfold gP;obtain⟨a,ys,rfl,h1,h2,h3,h4⟩:=rv;refine k _ _ (r1.NB x h1 h2 h3 ?_ hi) (ae.trans s1 (Cr x h1 i));rcases b1 with b1 | b1
    ·refine kH (λj b q=>?_) b1 (h4.same (cA a _));unfold Cq at q;split at q
     ·cases q;exact⟨ys,bu h3 h2⟩
     ·exact r2.uT j b q
    ·refine h4.same λb o q=>?_;have hb:b≠a:=λw=>by subst w;unfold hide at q;rw[if_pos rfl] at q;cases q
     refine cK (cA a _ b o q) λj w=>?_;unfold Cq at w;split at w
     ·cases w;exact hb rfl
     ·rw[b1 j] at w;cases w
   ·cases e
  |_=>cases e
end
end Q
namespace Q
open PySem L2 PySem.Spec PyProof.Rows
variable [TB:Tb]
theorem Fh(h:dD v=false):PD [tg] v env=pure none:=by
 cases tg <;> first | rfl | (cases v <;> first | (cases h;done) | rfl)
theorem Fi(h:vs.all (TN 8)=true):PD [.Tuple ts k p] (.Tuple vs k' p') env=pure none:=by
 unfold PD;simp only[h,if_true];split
 ·rfl
 ·split
  ·rfl
  ·split
   ·rfl
   ·rfl
def wW(look:Str->Option Q7):Ö->Bool
 |.Name id _=>look id != some .local|_=>true
theorem Fj(h:ts.any (wW env.kindOf)=true):PD [.Tuple ts k p] (.Tuple vs k' p') env=pure none:=by
 have hl:∀ (l:Nat) (ts:List Ö),ts.any (wW env.kindOf)=true->(ts.filterMap fun
   |.Name id pos=>if env.kindOf id == some .local&&pos.line == l then some id else none
   |_=>none).length < ts.length:=by
  intro l ts
  induction ts with
  |nil=>intro h;cases h
  |cons e r ih =>
   intro h;have le:=List.length_filterMap_le (fun
    |.Name id pos=>if env.kindOf id == some .local&&pos.line == l then some id else none
    |_=>none:Ö->Option Str) r
   rw[List.any_cons,Ph] at h;rw[O4];split
   ·rw[æ];omega
   ·rename_i b hb;rcases h with h | h
    ·exfalso;cases e with
     |Name id pos =>
      have h':(env.kindOf id != some .local)=true:=h;simp only[bne_iff_ne,ne_eq] at h';simp[h'] at hb
     |_=>cases hb
    ·have:=ih h;rw[æ,æ];omega
 unfold PD;dsimp only;split
 ·rfl
 ·split
  ·rfl
  ·have:=hl ((ts.head?.map (·.pos.line)).getD 0) ts h;rw[if_pos];simp only[Ph,bne_iff_ne,ne_eq];exact .inl (â this)
theorem IM{x y:Str}{a b:Ö}{px py pt pt2:Pos}{k k2:Nat}{env:Qs}(hb:env.blockKind=.function)(hx:env.kindOf x=some .local)(hy:env.kindOf y=some .local)(hxy:(x == y)=false)(hl:(py.line == px.line)=true)
  (ha:noStar a=true) (hb':noStar b=true) (hf:[a,b].all (TN 8)=false) (hc:[a,b].all (constantsAlone 8)=false) :
  PD [.Tuple [.Name x px,.Name y py] k pt] (.Tuple [a,b] k2 pt2) env=pure (some [x,y]):=by
 have hbk:(env.blockKind != .function)=false:=by rw[hb];rfl
 have e1:(x == x)=true:=beq_self_eq_true x;have hyx:(y == x)=false:=by
  cases h:y == x with
  |false=>rfl|true=>rw[beq_iff_eq] at h;subst h;rw[e1] at hxy;cases hxy
 have hl2:(Ö.Name x px).pos.line=px.line:=rfl;have hl3:(Ö.Name y py).pos.line=py.line:=rfl;have hl':py.line=px.line:=by simpa using hl
 unfold PD;simp only[List.filterMap,List.head?,Rh,Option.getD,hx,hy,hf,hc,hbk,hl2,hl'];simp[List.eraseDups,List.eraseDupsBy,Xi,hyx,hxy];intro h;rcases h with h | h
 ·cases a <;> first | (cases h;done) | (cases ha;done)
 ·cases b <;> first | (cases h;done) | (cases hb';done)
def oH:Ö->Bool
 |.ListComp ..=>false|.SetComp ..=>false|.DictComp ..=>false|_=>true
theorem kI(h:oH v=true)(t:Option Ö):Rf v t n env=pure false:=by
 cases v <;> first | rfl | (cases h;done)
theorem qE(h:(match tg with | .Name ..=>true | _=>false)=false):Rf v (some tg) n env=pure false:=by
 cases v <;> first | rfl | (cases tg <;> first | rfl | (cases h;done))
theorem Cs{a b:Ö}{c:List VS}{d:ON}{f px:Pos}{t:Str}{n:Nat}{env:Qs}(h:env.kindOf t=some .cell∨env.kindOf t=some .free):Rf (.DictComp a b c d f) (some (.Name t px)) n env=pure false:=by
 show(pure (env.blockKind == .function&&env.kindOf t == some .local&&_&&_):Sem Bool)=_;have e:(env.kindOf t == some .local)=false:=by rcases h with h | h <;> rw[h] <;> rfl
 rw[e,Xp,Rb,Rb]
theorem Ct{el:Ö}{gs:List VS}{sc:ON}{p px:Pos}{t:Str}{n:Nat}{env:Qs}:∃ b,Rf (.ListComp el gs sc p) (some (.Name t px)) n env=pure b:=⟨_,rfl⟩
structure XS(lm:Bool)(X:Cx)(G:Gs)(E:XK)(N:List Str)(sc:Scope)(cn:List Str):Prop extends XI lm X G E N sc where
 sco:X.env.scope=sc
 fnk:sc.kind=.function
 own:PassesOwn (model X.prog X.w) X.A X.env X.xe
 can:nY X E
 fnx:∀ x,X.fn x=true
 cls:∀ c x,cn[c]?=some x->X.mg x=some (.ref (G.cls c))/\PySem.W.excIn X.K (G.cls c) [.type "ValueError",.type "Exception",.type "BaseException",.type "object"] "ValueError.__new__"=true
def gG(sc:ON)(x:Str):Bool:=sc.names.lookup x == some .local || sc.names.lookup x == some .cell
section
variable {lm:Bool}{X:Cx}{G:Gs}{E:XK}{N:List Str}{sc:ON}{cn:List Str}{H0:Hp}{zE:Option Ë}
theorem XS.loc(x:XS lm X G E N sc cn):yj X N (gG sc):=by
 refine⟨x.hN,x.nd,λy h=>?_,λy _=>.inl (x.fnx y),x.calm⟩;unfold gG at h;rw[Ph,beq_iff_eq,beq_iff_eq] at h;rw[x.sco];exact h
theorem XS.bk(x:XS lm X G E N sc cn):X.env.blockKind=.function:=by
 unfold Env.blockKind;rw[x.sco,x.fnk];rfl
theorem PS.imp{st:Qm}{t t':TS}(h:PS X st t)(i:∀ D σ H,t' D σ H->t D σ H):PS X st t':=λaa s σ H D I q=>h aa s σ H D I (i _ _ _ q)
theorem mU.imp{st:List Qm}{t t':TS}(h:mU X st t)(i:∀ D σ H,t' D σ H->t D σ H):mU X st t':=λaa s σ H D I q=>h aa s σ H D I (i _ _ _ q)
theorem Lo:mU X [] (tX X.K G E H0 zE .nil):=mU.imp DT λD σ H q=>by
 obtain⟨zA,ow,ρ,z,r,rw,st,e,po⟩:=q;cases e;exact po zA ow σ H rw st (ae.refl _)
theorem Lp{s r:Sm}{st:Qm}{rest:List Qm}(h1:PS X st (tX X.K G E H0 zE s))(h2:mU X rest (tX X.K G E H0 zE r)):mU X (st::rest) (tX X.K G E H0 zE (.seq s r)):=mU.imp (AQ h1 h2) λD σ H q=>by
 obtain⟨zA,ow,ρ,z,rr,rw,st,e,po⟩:=q;have e0:M.bind (ex G.F zE.isNone s ρ) (λo=>match o with | .nx ρ=>ex G.F zE.isNone r ρ | .rt s=>M.ret (.rt s)) z=some rr:=e
 rcases M.bind_some e0 with ⟨o,z1,e1,e2⟩ | ⟨c,z1,e1,e2⟩
 ·refine⟨zA,ow,ρ,z,_,rw,st,e1,?_⟩;cases o with
  |nx ρ1=>exact λzA' ow' σ' H' rw' st' sm=>⟨zA',ow',ρ1,z1,rr,rw',st',e2,po.mono sm⟩|rt s=>cases e2;exact po
 ·subst e2;exact⟨zA,ow,ρ,z,_,rw,st,e1,po⟩
theorem Cu{p:fW}{e:Ex}{D:Ends}{σ:L2.St}{H:Hp}(q:tX X.K G E H0 zE (.set p e) D σ H):vR (tI X.K G E e) (gP X.K p) D σ H:=by
 obtain⟨zA,ow,ρ,z,rr,rw,st,ee,po⟩:=q;refine cz rw.jM st ee (po.Ff rw) λl z1 e1=>?_;obtain⟨s,hs,e2⟩:=M.ah e1;refine⟨s,jK hs,λv H1 x1 aQ rv=>?_⟩;obtain⟨ρ',hb,e3⟩:=M.ah e2;cases e3;exact uU rw x1 rv hb λow' σ' r' sm=>po zA ow' σ' H1 r' aQ sm
theorem Lq{K:Â}{i:Nat}:gP K (.v i)=j8 i:=by unfold gP;rfl
def IP(X:Cx)(G:Gs)(E:XK)(e:Ex)(v:Ö):Prop:=∀ (i:Nat) (y:Str) (px pos:Pos),X.N.Nodup->X.N[i]?=some y->L2.Loc X.env.scope y->Rf v (some (.Name y px)) pos.line X.env=pure true->(X.fn y=true∨X.env.scope.names.lookup y=some .local)->PS X (.Assign [.Name y px] v pos) (vR (tI X.K G E e) (j8 i))
theorem jL.set{e:Ex}{elt tg iter:Ö}{ifs:List Ö}{cC:ON}{q:Pos}(hc:X.calm=true)(h:jL X G E e elt tg iter ifs cC):IP X G E e (.ListComp elt [⟨tg,iter,ifs,0⟩] cC q):=λi y px pos h1 h2 hl hb hf=>by
 obtain⟨own,aB,wi,gg,tt,te,k1,k2,k3,k4,k5,k6,k7⟩:=h;exact PS.imp (Ec h1 h2 hl hb hc k1 k2 k3 k4 k5 k6 hf) λD σ H q=>k7 _ _ _ q
theorem Lr(x:XS lm X G E N sc cn){i:Nat}{e:Ex}{y:Str}{v:Ö}{px pos:Pos}(hi:N[i]?=some y)(hl:gG sc y=true)(g:aw X G E e v)
  (hc:∀ elt gs cC q,v=.ListComp elt gs cC q->IP X G E e v) (hno:∀ a b c d,v≠.SetComp a b c d)
  (hnd:∀ a b c d f,v=.DictComp a b c d f->sc.names.lookup y=some .cell) :
  PS X (.Assign [.Name y px] v pos) (tX X.K G E H0 zE (.set (.v i) e)):=by
 have L:=x.loc;refine PS.imp (t:=vR (tI X.K G E e) (j8 i)) ?_ λD σ H q=>by rw[← Lq (K:=X.K)];exact Cu q
 have h1:X.N.Nodup:=by rw[x.hN];exact x.nd
 have h2:X.N[i]?=some y:=by rw[x.hN];exact hi
 by_cases hv:∃ elt gs cC q,v=.ListComp elt gs cC q
 ·obtain⟨elt,gs,cC,q,rfl⟩:=hv;obtain⟨b,hb⟩:=Ct (el:=elt) (gs:=gs) (sc:=cC) (p:=q) (px:=px) (t:=y) (n:=pos.line) (env:=X.env);cases b with
  |false=>exact rp h1 h2 (L.lc y hl) g.pe hb (L.fn y hl)|true=>exact hc elt gs cC q rfl _ _ _ _ h1 h2 (L.lc y hl) hb (L.fn y hl)
 ·by_cases hd:∃ a b c d f,v=.DictComp a b c d f
  ·obtain⟨a,b,c,d,f,rfl⟩:=hd;exact rp h1 h2 (L.lc y hl) g.pe (Cs (x.cel y (.inl (hnd _ _ _ _ _ rfl)))) (L.fn y hl)
  ·exact rp h1 h2 (L.lc y hl) g.pe (kI (by cases v <;> first | rfl | exact absurd rfl (hno _ _ _ _) | exact absurd ⟨_,_,_,_,_,rfl⟩ hd | exact absurd ⟨_,_,_,_,rfl⟩ hv) _) (L.fn y hl)
theorem wX(x:XS lm X G E N sc cn){p:fW}{e:Ex}{tg v:Ö}{pos:Pos}(hp:cG N (gG sc) p tg=true)(g:aw X G E e v)(ht:dD tg=true)(hv:PD [tg] v X.env=pure none) :
  PS X (.Assign [tg] v pos) (tX X.K G E H0 zE (.set p e)):=by
 refine PS.imp (AU g.pe (uK x.loc hp) ?_ hv ?_) λD σ H q=>Cu q
 ·exact qE (by cases tg <;> first | rfl | (cases ht;done))
 ·cases tg <;> first | rfl | (cases ht;done)
theorem Ls(x:XS lm X G E N sc cn){i j:Nat}{ea eb:Ex}{a b:Ö}{y w:Str}{px py pt pt2 pos:Pos}{k k2:Nat}(hi:N[i]?=some y)(hj:N[j]?=some w)(hyw:(y == w)=false)(hy:sc.names.lookup y=some .local)(hw':sc.names.lookup w=some .local)
  (g:Good X G E (.cons ea (.cons eb .nil)) [a,b]) (hs:PD [.Tuple [.Name y px,.Name w py] k pt] (.Tuple [a,b] k2 pt2) X.env=pure (some [y,w])) :
  PS X (.Assign [.Tuple [.Name y px,.Name w py] k pt] (.Tuple [a,b] k2 pt2) pos) (tX X.K G E H0 zE (.set (.tup (.cons (.v i) (.cons (.v j) .nil))) (.tup (.cons ea (.cons eb .nil))))):=by
 have hij:i≠j:=λh=>by
  subst h;rw[hi] at hj;cases hj;rw[beq_self_eq_true] at hyw;cases hyw
 refine PS.imp (G4 x.calm (by rw[x.hN];exact x.nd) (by rw[x.hN];exact hi) (by rw[x.hN];exact hj) hij (by rw[x.sco];exact hy) (by rw[x.sco];exact hw') (g.args rfl).1 hs rfl) λD σ H q=>?_
 obtain⟨zA,ow,ρ,z,rr,rw,st,ee,po⟩:=q;have e0:M.bind (M.bind (ev G.F (.cons ea (.cons eb .nil)) ρ) λl=>M.bind (M.of (gB l)) λds=>if ds.length<=most then M.ret [S.d (.tup ds)] else M.no) (λl=>M.bind (M.of (one l)) λs=>M.bind (M.of (iC (.tup (.cons (.v i) (.cons (.v j) .nil))) s (cT s ρ))) λρ=>M.ret (O.nx ρ)) z=some rr:=ee;rcases M.bind_some e0 with ⟨l0,z0,e1,e2⟩ | ⟨c,z1,e1,e2⟩
 ·rcases M.bind_some e1 with ⟨l,z1,e3,e4⟩ | ⟨c,z1,e3,e4⟩
  ·obtain⟨ds,hds,e5⟩:=M.ah e4;split at e5
   ·cases e5;obtain⟨s,hs',e6⟩:=M.ah e2;cases hs';obtain⟨ρ',hb,e7⟩:=M.ah e6;cases e7;refine⟨zA,ρ,z,_,rw.jM,st,e3,λvs H1 x1 aQ rvs=>?_⟩;have hd:=js rvs hds;obtain⟨owk,r1,s1,b1⟩:=yC rw (.d (.tup ds));have hb':bindL (.cons (.v i) (.cons (.v j) .nil)) ds (cT (.d (.tup ds)) ρ)=some ρ':=by
     have:bO (.tup (.cons (.v i) (.cons (.v j) .nil))) (.tup ds) (cT (.d (.tup ds)) ρ)=some ρ':=hb;unfold bO at this;exact this
    have r2:=r1.mono x1;have hd2:aJ X.K (hw owk (hz zA H1)) ds vs:=by
     rcases b1 with b1 | b1
     ·exact kH r2.uT (by simpa [oa,bare] using b1) hd
     ·have:owk=λ_=>none:=funext b1;subst this;rw[fu];exact hd
    have:=wV hb' (R:=D.nx) r2 hd2 λow' σ' r' sm=>po zA ow' σ' H1 r' aQ (ae.trans s1 (ae.trans (cg x1) sm));unfold gL at this;obtain⟨v,vr,rfl,this⟩:=this;unfold gP gL at this;obtain⟨u,ur,rfl,this⟩:=this;unfold gP gL at this;obtain⟨rfl,this⟩:=this;exact⟨v,u,rfl,this⟩
   ·cases e5
  ·cases e4
 ·subst e2;rcases M.bind_some e1 with ⟨l,z2,e3,e4⟩ | ⟨c,z2,e3,e4⟩
  ·obtain⟨ds,hds,e5⟩:=M.ah e4;split at e5 <;> cases e5
  ·cases e4;exact⟨zA,ρ,z,_,rw.jM,st,e3,po.Mr rw⟩
theorem Cv{s t:S}(h:EK s=some t):s=t/\t≠.z:=by
 cases s with
 |z=>cases h
 |ks _=>cases h
 |d _=>cases h;exact⟨rfl,λh=>nomatch h⟩
 |fr _=>cases h;exact⟨rfl,λh=>nomatch h⟩
theorem IQ(x:XS lm X G E N sc cn){i:Nat}{n:Str}{p pos:Pos}(h1:N[i]?=some n)(h2:aT n=true):PS X (.Return (some (.Name n p)) pos) (tX X.K G E H0 zE (.ret (.var i))):=by
 unfold aT at h2;simp only[Á,ô] at h2;refine PS.imp (AR (jD (i:=i) (by rw[x.hN];exact h1) (x.vis n (p5 h1)) h2.1 h2.2)) λD σ H q=>?_
 obtain⟨zA,ow,ρ,z,rr,rw,st,ee,po⟩:=q;have e0:(match ρ[i]? with | some (some s)=>M.bind (M.of (EK s)) λs=>M.ret (O.rt s) | _=>M.no) z=some rr:=ee
 cases hs:ρ[i]? with
 |none=>rw[hs] at e0;cases e0
 |some o =>
  cases o with
  |none=>rw[hs] at e0;cases e0
  |some s =>
   rw[hs] at e0;obtain⟨t,ht,e1⟩:=M.ah e0;cases e1;obtain⟨rfl,nz⟩:=Cv ht;obtain⟨v,k1,k2⟩:=rw.Nz nz hs;exact⟨v,k1,po v H nz rw.ext (Ac rw.zok st) k2⟩
theorem Lu{e:Ex}{v:Ö}{pos:Pos}(hv:∀ i,e≠.var i)(g:aw X G E e v):PS X (.Return (some v) pos) (tX X.K G E H0 zE (.ret e)):=by
 refine PS.imp (AR g.pe) λD σ H q=>?_;obtain⟨zA,ow,ρ,z,rr,rw,st,ee,po⟩:=q;have e0:M.bind (ev G.F e ρ) (λl=>M.bind (M.of ((one l).bind EK)) λs=>M.ret (O.rt s)) z=some rr:=by
  cases e <;> first | exact ee | exact absurd rfl (hv _)
 refine cz rw.jM st e0 (po.Ff rw) λl z1 e1=>?_;obtain⟨t,ht,e2⟩:=M.ah e1;cases e2;obtain⟨s,hs,hn⟩:=Ñ.mp ht;obtain⟨rfl,nz⟩:=Cv hn;exact⟨s,jK hs,λv H1 x1 aQ rv=>po v H1 nz (wU rw.ext rw.zok x1) (Ac rw.zok aQ) (rw.out nz x1 rv)⟩
theorem NC{c:Ex}{t u:Sm}{ce:Ö}{a b:List Qm}{pos:Pos}(g:aw X G E c ce)(hn:∀ t a b p,ce≠.IfExp t a b p)(ha:mU X a (tX X.K G E H0 zE t))(hb:mU X b (tX X.K G E H0 zE u)) :
  PS X (.If ce a b pos) (tX X.K G E H0 zE (.iff c t u)):=by
 refine PS.imp (JY (g.pt hn) ha hb) λD σ H q=>?_;obtain⟨zA,ow,ρ,z,rr,rw,st,ee,po⟩:=q;refine mz rw.jM st ee (po.Ff rw) λb z1 e1 H1 x1 aQ=>?_;have r1:=rw.mono x1;have sm:ae (hw ow (hz zA H)) (hw ow (hz zA H1)):=cg x1;cases b with
 |true=>exact⟨zA,ow,ρ,z1,rr,r1,aQ,e1,po.mono sm⟩|false=>exact⟨zA,ow,ρ,z1,rr,r1,aQ,e1,po.mono sm⟩
theorem Lv{e:Ex}{v:Ö}{pos:Pos}(g:aw X G E e v)(h:oH v=true):PS X (.Expr v pos) (tX X.K G E H0 zE (.exp e)):=by
 refine PS.imp (xC g.pe (kI h none)) λD σ H q=>?_;obtain⟨zA,ow,ρ,z,rr,rw,st,ee,po⟩:=q;have e0:M.bind (ev G.F e ρ) (λl=>M.bind (M.of (one l)) λ_=>M.ret (O.nx ρ)) z=some rr:=ee;refine cz rw.jM st e0 (po.Ff rw) λl z1 e1=>?_;obtain⟨s,hs,e2⟩:=M.ah e1;cases e2;exact⟨s,jK hs,λv H1 x1 aQ rv=>po zA ow σ H1 (rw.mono x1) aQ (cg x1)⟩
def Fl:Bi->R7->Bool
 |.mul,.Mult=>true|.add,.Add=>true|_,_=>false
theorem IS(h:Fl o op=true):N0 X op λx y H Q=>∃ i j k,x=.int i/\y=.int j/\dU o (.int i) (.int j)=some (.d (.int k))/\Q (.int k) H:=by
 intro aa s σ H x y v u Q I r1 r2 q;obtain⟨i,j,k,rfl,rfl,e,q⟩:=q;obtain⟨t,rfl⟩:=r1;obtain⟨t',rfl⟩:=r2;cases o <;> cases op <;> first | (cases h;done) | skip
 ·cases e;exact iadd_int ⟨.int _,H,I.tok _,⟨_,rfl⟩,q⟩
 ·obtain⟨hl,e⟩:=bV e;cases e;exact imul_int ⟨.int _,H,I.tok _,⟨_,rfl⟩,q⟩ (BM hl.1 hl.2)
theorem Fm{o:Bi}{op:R7}(h:Fl o op=true){i j:Int}{s:S}(e:dU o (.int i) (.int j)=some s):∃ k,s=.d (.int k):=by
 cases o <;> cases op <;> first | (cases h;done) | skip
 ·cases e;exact⟨_,rfl⟩
 ·obtain⟨_,e⟩:=bV e;cases e;exact⟨_,rfl⟩
theorem Gu(h:EJ d=some i):d=.int i:=by cases d <;> first | (cases h;rfl) | (cases h;done)
theorem Lw(x:XS lm X G E N sc cn){i:Nat}{o:Bi}{e:Ex}{y:Str}{v:Ö}{op:R7}{px pos:Pos}(hi:N[i]?=some y)(hl:gG sc y=true)(ho:Fl o op=true)(g:aw X G E e v):PS X (.AugAssign (.Name y px) op v pos) (tX X.K G E H0 zE (.aug o i e)):=by
 have L:=x.loc;refine PS.imp (G5 (i:=i) (by rw[x.hN];exact x.nd) (by rw[x.hN];exact hi) (L.lc y hl) g.pe (IS ho) (L.fn y hl)) λD σ H q=>?_
 obtain⟨zA,ow,ρ,z,rr,rw,st,ee,po⟩:=q;obtain⟨yd,hy,e1⟩:=M.ah ee;obtain⟨s0,hs0,hy⟩:=Ñ.mp hy;have hr:ρ[i]?=some (some s0):=by
  cases h:ρ[i]? with
  |none=>rw[h] at hs0;cases hs0
  |some w=>rw[h] at hs0;cases hs0;rfl
 obtain⟨w,k1,k2⟩:=rw.wor i s0 hr;refine⟨w,k1,?_⟩;refine cz rw.jM st e1 (po.Ff rw) λl z1 e2=>?_;obtain⟨xi,hx,e3⟩:=M.ah e2;obtain⟨dx,hx1,hx2⟩:=Ñ.mp hx;obtain⟨s1,rfl,hs1⟩:=cc hx1;cases Gu hx2;refine⟨s1,rfl,λu H1 x1 aQ rv=>?_⟩;obtain⟨s2,hb,e4⟩:=M.ah e3;obtain⟨yi,hyi,hb⟩:=Ñ.mp hb;cases Gu hyi;obtain⟨k,rfl⟩:=Fm ho hb;have hw:w=.int yi:=by
  cases s0 with
  |d x=>cases hy;exact(show Hd X.K (hw ow (hz zA H)) (.int yi) w from k2.2).bH
  |_=>cases hy
 refine⟨yi,xi,k,hw,(show Hd X.K (hz zA H1) (.int xi) u from rv.pl.d_ hs1).bH,hb,?_⟩;obtain⟨ρ',hp,e5⟩:=M.ah e4;cases e5;have:=uU (R:=λσ' H'=>D.nx σ' H') rw x1 cU hp λow' σ' r' sm=>po zA ow' σ' H1 r' aQ sm;rw[Lq] at this;exact this
theorem x_raise(x:XS lm X G E N sc cn){c:Nat}{n:Str}{y:Str}{k:Nat}{p1 p2 p3 p4:Pos}(hc:cn[c]?=some n)(hg:glob sc n=true):PS X (.Raise (some (.Call (.Name n p1) [.Constant (.str y) k p2] [] p3)) none p4) (tX X.K G E H0 zE (.rais c)):=by
 obtain⟨k1,k2,_⟩:=bF hg;obtain⟨m1,m2⟩:=x.cls c n hc;refine PS.imp (By x.can x.calm (x.glb n k1) m1 m2 (eh AN lz) k2 rfl rfl) λD σ H q=>?_;obtain⟨zA,ow,ρ,z,rr,rw,st,ee,po⟩:=q;cases ee;exact⟨by show 1<=sizeLine;decide,λe hn=>po e H rw.ext (Ac rw.zok st) hn⟩
end
section
variable {K:Â}{H0 H H':Hp}{zE zA:Option Ë}{ow:Nat->Option Ë}{ρ:Env}{σ:L2.St}
theorem cO(e:nu ow i j=some a):j≠i/\ow j=some a:=by
 unfold nu at e;split at e
 ·cases e
 ·rename_i n;exact⟨n,e⟩
theorem iI:nu ow i i=none:=if_pos rfl
theorem sy(h:j≠i):nu ow i j=ow j:=if_neg h
theorem Cw{ρ:Env}{j:Nat}{s:S}(h:(mn ρ)[j]?=some (some s)):ρ[j]?=some (some s)/\s≠.z:=by
 unfold mn at h;rw[è] at h;obtain⟨o,e1,e2⟩:=Ï.mp h;cases o with
 |none=>cases e2
 |some t =>
  cases t with
  |z=>cases e2
  |d x=>cases e2;exact⟨e1,λh=>nomatch h⟩
  |fr x=>cases e2;exact⟨e1,λh=>nomatch h⟩
  |ks x=>cases e2;exact⟨e1,λh=>nomatch h⟩
theorem Fo{j:Nat}(h:ρ[j]?=some (some (.fr xs))):(mn ρ)[j]?=some (some (.fr xs)):=by
 unfold mn;rw[è,h];rfl
theorem RW.ND(r:RW K H0 none zA ow H ρ σ){i:Nat}(x:Ext zA H H')(hn:H a=none)(za:zA≠some a)(hl:H' a=some (.lst ys)) :
  RW K H0 none (some a) (nu ow i) H' ((mn ρ).set i (some .z)) (σ.set i (some (.ref a)))/\ae (hw ow (hz zA H)) (hw (nu ow i) (hz (some a) H')):=by
 have r':=r.mono x;have old:∀ j b,ow j=some b->b≠a:=λj b e q=>by
  obtain⟨zs,h1⟩:=r.lst j b e;rw[q,hn] at h1;cases h1
 have sm:ae (hw ow (hz zA H)) (hw (nu ow i) (hz (some a) H')):=λb o e=>by
  obtain⟨e1,e2⟩:=iH e;have hb:b≠a:=λq=>by
   have e3:H b=some o:=(eS e1).1;rw[q,hn] at e3;cases e3
  exact cK (bu (eS (x b o e1)).1 (λq=>by cases q;exact hb rfl) (gE e1)) λj q=>e2 j (cO q).2
 have dl:(mn ρ).length=ρ.length:=by unfold mn;rw[Ç]
 refine⟨⟨by rw[PJ,PJ,dl];exact r.len,λj k b h1 h2=>r.inj j k b (cO h1).2 (cO h2).2,λj b h1 q=>?_,λj b h1=>?_,λj s e=>?_,r'.ext,.inr ⟨rfl,λb q=>?_⟩,λj b h1=>r.new j b (cO h1).2⟩,sm⟩
 ·cases q;exact old j _ (cO h1).2 rfl
 ·obtain⟨n,h2⟩:=cO h1;obtain⟨xs,h3⟩:=r.own j b h2;exact⟨xs,by rw[ñ (OT n)];exact Fo h3⟩
 ·rcases getElem?_set' e with ⟨rfl,e1,hlt⟩ | ⟨n,e1⟩
  ·cases e1;exact⟨.ref a,ú (by rw[← r.len,← dl];exact hlt),iI,a,rfl,rfl⟩
  ·obtain⟨e1,nz⟩:=Cw e1;obtain⟨w,h1,h2⟩:=r.wor j s e1;refine⟨w,by rw[ñ (OT n)];exact h1,?_⟩
   cases s with
   |d y=>exact⟨by rw[sy n];exact h2.1,h2.2.same sm⟩|z=>exact absurd rfl nz|ks l=>obtain⟨n0,d,q,k⟩:=h2;exact⟨by rw[sy n];exact n0,d,q,k.same sm⟩
   |fr xs =>
    obtain⟨b,zs,k1,rfl,k3,k4⟩:=h2;exact⟨b,zs,by rw[sy n];exact k1,rfl,x.at k3 (r.zne j b k1),k4.same sm⟩
 ·cases q;exact(r.young hn za).1
theorem RW.plain(r:RW K H0 zE zA ow H ρ σ)(i:Nat):RW K H0 zE zA (nu ow i) H (ρ.set i ((ρ[i]?.getD none).map gA)) σ:=by
 have sm:=f9 (H:=hz zA H) ow i;refine⟨by rw[PJ];exact r.len,λj k b h1 h2=>r.inj j k b (cO h1).2 (cO h2).2,λj b h1=>r.zne j b (cO h1).2,λj b h1=>?_,λj s e=>?_,r.ext,r.zok,λj b h1=>r.new j b (cO h1).2⟩
 ·obtain⟨n,h2⟩:=cO h1;obtain⟨xs,h3⟩:=r.own j b h2;exact⟨xs,by rw[ñ (OT n)];exact h3⟩
 ·rcases getElem?_set' e with ⟨rfl,e1,hlt⟩ | ⟨n,e1⟩
  ·cases hs:ρ[j]? with
   |none=>rw[hs] at e1;cases e1
   |some o =>
    rw[hs] at e1;cases o with
    |none=>cases e1
    |some s0 =>
     cases e1;obtain⟨w,h1,h2⟩:=r.wor j s0 hs;refine⟨w,h1,?_⟩;cases s0 with
     |d y=>exact⟨iI,h2.2.same sm⟩|z=>exact⟨iI,h2.2⟩|ks l=>obtain⟨_,d,q,k⟩:=h2;exact⟨iI,d,q,k.same sm⟩
     |fr xs =>
      obtain⟨b,zs,k1,rfl,k3,k4⟩:=h2;refine⟨iI,Hd.lst (cK (bu k3 (r.zne j b k1)) λk q=>?_) (k4.same sm)⟩;obtain⟨q1,q2⟩:=cO q;exact q1 (r.inj k j b q2 k1)
  ·obtain⟨w,h1,h2⟩:=r.wor j s e1;exact⟨w,h1,h2.move (sy n) sm λ_ _=>rfl⟩
end
theorem aJ.eraseIdx{K:Â}{H:Hp}:∀ {ds:List D}{vs:List V} (n:Nat),aJ K H ds vs->aJ K H (ds.eraseIdx n) (vs.eraseIdx n)
 |[],_,n,h=>by rw[h.bz];exact .nil
 |d::ds,_,0,h=>by
  obtain⟨x,r,rfl,h1,h2⟩:=h.aH;exact h2
 |d::ds,_,n + 1,h=>by
  obtain⟨x,r,rfl,h1,h2⟩:=h.aH;exact .cons h1 (aJ.eraseIdx n h2)
section
variable {lm:Bool}{X:Cx}{G:Gs}{E:XK}{N:List Str}{sc:ON}{cn:List Str}{H0:Hp}{zE:Option Ë}
theorem Fp{α β:Type}{R:α->β->Prop}{a:α}{vs:List β}(h:Pd R [a] vs):∃ v,vs=[v]/\R a v:=by
 cases h with
 |cons h1 h2=>cases h2;exact⟨_,rfl,h1⟩
theorem aP.ax(st:aP zA z H)(n:zA≠some a)(h:H a=some (.lst xs)):aP zA z (upd H a o):=by
 refine⟨?_,λp hp=>Tab.upd (st.tab p hp) h⟩;have st:=st.zat;cases zA with
 |none=>cases z <;> exact st
 |some b =>
  cases z with
  |none=>exact st
  |some p =>
   have hb:b≠a:=λq=>n (by rw[q])
   exact(L2.ax hb).trans st
theorem IU(h:ownAt ρ i=some xs):ρ[i]?=some (some (.fr xs)):=by
 unfold ownAt at h;split at h
 ·rename_i h1;cases h;exact h1
 ·cases h
theorem Gv{K:Â}{zA:Option Ë}{H0 H:Hp}{s:S}{v:V}{x:D}(h:jI K zA H0 H s v)(e:BE s=some x):Hd K (hz zA H) x v:=h.pl.d_ e
theorem Ly(x:XS lm X G E N sc cn){i:Nat}{n:Str}{e:Ex}{v:Ö}{p apos cpos pos:Pos}(h1:N[i]?=some n)(h2:aT n=true)(ns:noStar v=true)(g:aw X G E e v)(hl:(apos.endLine == cpos.line)=true) :
  PS X (.Expr (.Call (.Attribute (.Name n p) "append" apos) [v] [] cpos) pos) (tX X.K G E H0 zE (.app i e)):=by
 unfold aT at h2;simp only[Á,ô] at h2;have ga:Good X G E (.cons e .nil) [v]:=⟨v,[],rfl,ns,g,rfl,rfl⟩;have hs:=bg ns [] X.env;refine PS.imp (xC (Kl PySem.F.plainAttrs_list PySem.F.slot_list_append PySem.F.type_list_append zo (jD (i:=i) (by rw[x.hN];exact h1) (x.vis n (p5 h1)) h2.1 h2.2) (ga.args rfl).1 rfl (by rw[hs];rfl) hl hs rfl) (kI rfl none)) λD σ H q=>?_
 obtain⟨zA,ow,ρ,z,rr,rw,st,ee,po⟩:=q;obtain⟨xs,hx,e1⟩:=M.ah ee;have ho:=IU hx;obtain⟨w,k1,a,ys,k2,rfl,k3,k4⟩:=rw.wor i _ ho;refine⟨_,k1,.inl ⟨rfl,ys,jj.of k3⟩,?_⟩;have e2:M.bind (ev G.F (.cons e .nil) ρ) (λm=>M.bind (M.of (pl m)) λx=>if bare x=true/\xs.length < most then M.ret (O.nx (ρ.set i (some (.fr (xs++[x]))))) else M.no) z=some rr∨∃ c z1,ev G.F e ρ z=some (.er c z1)/\rr=.er c z1:=by
  rcases M.bind_some e1 with ⟨l,z1,e3,e4⟩ | ⟨c,z1,e3,e4⟩
  ·obtain⟨y,hy,e5⟩:=M.ah e4;obtain⟨s,rfl,hs⟩:=cc hy;refine .inl ?_;show M.bind (M.bind (ev G.F e ρ) λx=>M.bind (M.of (one x)) λs=>M.bind (ev G.F .nil ρ) λy=>M.ret (s::y)) _ z=some rr;have b:∀ {α β:Type}{m:M α}{f:α->M β}{z:Z}{a:α}{z1:Z},m z=some (.ok a z1)->M.bind m f z=f a z1:=λh=>by unfold M.bind;rw[h]
   rw[b (a:=[s]) (z1:=z1) (by rw[b e3];rfl)]
   show M.bind (M.of (pl _)) _ _=_;rw[hy];exact e5
  ·exact .inr ⟨c,z1,e3,e4⟩
 rcases e2 with e2 | ⟨c,z1,e3,rfl⟩
 ·refine oA rw.jM st e2 (po.Ff rw) λl z1 e3 vs H1 x1 aQ rvs=>?_;obtain⟨y,hy,e5⟩:=M.ah e3;obtain⟨s,rfl,hs⟩:=cc hy;split at e5
  ·rename_i hb;cases e5;obtain⟨u,rfl,ru⟩:=Fp rvs;have r1:=rw.mono x1;have k3':=x1.at k3 (rw.zne i a k2);have k4':aJ X.K (hw ow (hz zA H1)) xs ys:=k4.same (cg x1);have hd:=nr r1.uT hb.1 (Gv ru hs);refine⟨a,ys,u,rfl,rfl,k3',ê (by rw[k4.length];exact hb.2) (cY (Ô _)),?_⟩
   refine po zA ow σ _ (r1.upd k2 (k4'.append (.cons hd .nil))) ?_ (ae.trans (cg x1) (Fg k2));exact aQ.ax (rw.zne i a k2) k3'
  ·cases e5
 ·refine⟨zA,ρ,z,.er c z1,rw.jM,st,?_,po.Mr rw⟩;show M.bind (ev G.F e ρ) _ z=_;simp only[M.bind,e3]
theorem IV(x:XS lm X G E N sc cn){i f:Nat}{as:Ex}{y:Str}{v:Ö}{px pos:Pos}(hi:N[i]?=some y)(hl:gG sc y=true)(g:aw X G E (.call f as) v)(hv:oH v=true) :
  PS X (.Assign [.Name y px] v pos) (tX X.K G E H0 zE (.newz i f as)):=by
 have L:=x.loc;refine PS.imp (rp (i:=i) (by rw[x.hN];exact x.nd) (by rw[x.hN];exact hi) (L.lc y hl) g.pe (kI hv _) (L.fn y hl)) λD σ H q=>?_
 obtain⟨zA,ow,ρ,z,rr,rw,st,ee,po⟩:=q;refine cz rw.jM st ee (po.Ff rw) λl z1 e1=>?_;have e2:uu zE.isNone ρ i l=some rr:=e1;unfold uu at e2;split at e2
 ·split at e2
  ·rename_i m b hz';cases e2;have zn:zE=none:=by
    cases zE with
    |none=>rfl|some _=>cases hz'
   subst zn;refine⟨_,rfl,λu H1 x1 aQ rv=>?_⟩;obtain⟨a,ys,rfl,k1,k2,k3,k4⟩:=rv;obtain⟨v1,v2,rfl,h3,h4⟩:=k4.two;cases h3.bH;cases h4.vN;obtain⟨r1,sm⟩:=rw.ND (i:=i) x1 k1 k2 k3;exact po (some a) _ _ H1 r1 ⟨k3,aQ.tab⟩ sm
  ·cases e2
 ·cases e2
theorem IW(x:XS lm X G E N sc cn){i:Nat}{n:Str}{e:Ex}{v:Ö}{c:Nat}{p q tp pos:Pos}(h1:N[i]?=some n)(h2:aT n=true)(g:aw X G E e v) :
  PS X (.Assign [.Subscript (.Name n p) (.Constant (.int 0) c q) tp] v pos) (tX X.K G E H0 zE (.zset i e)):=by
 unfold aT at h2;simp only[Á,ô] at h2;refine PS.imp (AU g.pe (G3 (jD (i:=i) (by rw[x.hN];exact h1) (x.vis n (p5 h1)) h2.1 h2.2) vQ set_list (by intro u;rfl)) (show Rf v (some (.Subscript (.Name n p) (.Constant (.int 0) c q) tp)) pos.line X.env=pure false from qE rfl) (by cases v <;> rfl)) λD σ H q=>?_
 obtain⟨zA,ow,ρ,z,rr,rw,st,ee,po⟩:=q;refine cz rw.jM st ee (po.Ff rw) λl z1 e1=>?_;obtain⟨y,hy,e2⟩:=M.ah e1;obtain⟨dy,hy1,hy2⟩:=Ñ.mp hy;obtain⟨s,rfl,hs⟩:=cc hy1;refine⟨s,rfl,λu H1 x1 aQ rv=>?_⟩;have e3:uw ρ y ρ[i]? z1=some rr:=e2;unfold uw at e3;split at e3
 ·rename_i p' hsl;cases e3;have r1:=rw.mono x1;obtain⟨w,k1,k2,a,rfl,rfl⟩:=r1.wor i .z hsl;have hu:u=.int y:=by
   have:=Gv rv hs;cases dy <;> first | (cases hy2;exact this.bH) | (cases hy2;done)
  subst hu;have st':H1 a=some (.lst [.int p'.1,.bl p'.2]):=aQ.zat;refine⟨_,k1,a,[.int p'.1,.bl p'.2],0,0,rfl,rfl,st',rfl,?_⟩;have x2:Ext (some a) H1 (upd H1 a (.lst [.int y,.bl p'.2])):=by
   refine⟨λb o h=>?_,λb ps h=>⟨ps,by rw[ax (λz=>by rw[z,st'] at h;cases h)];exact h⟩⟩
   obtain⟨h3,h4⟩:=eS h;exact bu (by rw[ax (λz=>h4 (by rw[z]))];exact h3) h4 (gE h)
  exact po (some a) ow σ _ (r1.mono x2) ⟨a7,λp hp=>Tab.upd (aQ.tab p hp) st'⟩ (ae.trans (cg x1.same) (cg x2.same))
 ·cases e3
theorem Lz(x:XS lm X G E N sc cn){c:Ex}{b:Sm}{ce:Ö}{body:List Qm}{pos:Pos}(g:aw X G E c ce)(hn:∀ t a b p,ce≠.IfExp t a b p)(hb:mU X body (tX X.K G E H0 zE b)):PS X (.While ce body [] pos) (tX X.K G E H0 zE (.whl c b)):=by
 refine PS.imp (AV x.own (g.pt hn) hb) λD σ H q=>?_;obtain⟨zA,ow,ρ,z,rr,rw,st,ee,po⟩:=q;refine⟨λm σ H=>∃ zA ow ρ z r,RW X.K H0 zE zA ow H ρ σ/\aP zA z H/\uo (ev G.F c) (ex G.F zE.isNone b) m ρ z=some r/\eV X.K G E H0 zE (hw ow (hz zA H)) D r,⟨zO,zA,ow,ρ,z,rr,rw,st,ee,po⟩,?_⟩;rintro m σ H ⟨zA,ow,ρ,z,rr,rw,st,ee,po⟩;cases m with
 |zero=>cases ee
 |succ m =>
  refine mz rw.jM st ee (po.Ff rw) λk z1 e1 H1 x1 aQ=>?_;have r1:=rw.mono x1;have sm:ae (hw ow (hz zA H)) (hw ow (hz zA H1)):=cg x1;cases k with
  |false =>
   cases e1;exact po zA ow σ H1 r1 aQ sm
  |true =>
   rw[if_pos rfl];have e2:M.bind (ex G.F zE.isNone b ρ) (λo=>match o with | .nx ρ=>uo (ev G.F c) (ex G.F zE.isNone b) m ρ | .rt s=>M.ret (.rt s)) z1=some rr:=e1
   refine⟨λσ' H'=>∃ zA ow ρ z r,RW X.K H0 zE zA ow H' ρ σ'/\aP zA z H'/\uo (ev G.F c) (ex G.F zE.isNone b) m ρ z=some r/\eV X.K G E H0 zE (hw ow (hz zA H')) D r,λσ' H' h=>⟨m,Sq m,h⟩,?_⟩;rcases M.bind_some e2 with ⟨o,z2,e3,e4⟩ | ⟨k,z2,e3,e4⟩
   ·refine⟨zA,ow,ρ,z1,_,r1,aQ,e3,?_⟩;cases o with
    |nx ρ1=>exact λzA' ow' σ' H' rw' st' sm'=>⟨zA',ow',ρ1,z2,rr,rw',st',e4,po.mono (ae.trans sm sm')⟩|rt s=>cases e4;exact po
   ·subst e4;exact⟨zA,ow,ρ,z1,_,r1,aQ,e3,po⟩
def LA(K:Â)(i:Nat):TI:=λσ H R=>∃ a,σ[i]?=some (some (.ref a))/\((∃ ys,cI K H a ys)/\R (Mb K a) H∨(∃ ys,jj K H a ys)/\R (J4 K a) H)
theorem IY(x:XI lm X G E N sc){tg:Ö}{i:Nat}{n:Str}{pos:Pos}(h1:N[i]?=some n)(h2:aT n=true):PI X tg (.Name n pos) (LA X.K i):=by
 unfold aT at h2;simp only[Á,ô] at h2;have hv:PE X (.Name n pos) (GQ i):=jD (i:=i) (by rw[x.hN];exact h1) (x.vis n (p5 h1)) h2.1 h2.2
 intro aa s σ H R I q;obtain⟨a,k,q | q⟩:=q
 ·exact AX hv aa s σ H R I ⟨_,k,a,rfl,q.1,q.2⟩
 ·exact rq hv aa s σ H R I ⟨_,k,a,rfl,q.1,q.2⟩
def fBody(F:FT)(tp:Bool)(p:fW)(b:Sm):D->Env->M O:=λx ρ=>M.bind (M.of (bO p x ρ)) λρ=>ex F tp b ρ
theorem lW:∀ {l:List D}{d:D},cF l=true->d∈l->bare d=true
 |x::r,d,h,hd=>by
  simp only[cF,Á] at h;rcases Û.mp hd with rfl | hd
  ·exact h.1
  ·exact lW h.2 hd
theorem sA{p:fW}{b:Sm}{J:L2.It}{xs:List D}{B:Hp}{D:Ends}{σ:L2.St}{H:Hp}{zA:Option Ë}{ow:Nat->Option Ë}{ρ:Env}{z:Z}{rr:R O}(IT:E8 X.K J xs B)
  (rw:RW X.K H0 zE zA ow H ρ σ) (st:aP zA z H) (sm:ae B (hw ow (hz zA H))) (ee:jn (fBody G.F zE.isNone p b) xs ρ z=some rr) (po:eV X.K G E H0 zE (hw ow (hz zA H)) D rr) :
  ∃ W:Nat->Nat->L2.St->Hp->Prop,(∃ m,W 0 m σ H)/\∀ i m σ H,W i m σ H ->
   (J.stop i H/\D.nx σ H)∨(J.go i H/\∃ Nn:L2.St->Hp->Prop,(∀ σ' H',Nn σ' H'->∃ m',m' < m/\W (i + 1) m' σ' H')/\∀ x H',J.yld i H x H'->gP X.K p x σ H' λσ2 H2=>tX X.K G E H0 zE b { D with nx:=Nn,ct:=Nn,bk:=D.nx } σ2 H2):=by
 refine⟨λi m σ H=>m=xs.length - i/\i<=xs.length/\∃ zA ow ρ z r,RW X.K H0 zE zA ow H ρ σ/\aP zA z H/\ae B (hw ow (hz zA H))/\jn (fBody G.F zE.isNone p b) (xs.drop i) ρ z=some r/\eV X.K G E H0 zE (hw ow (hz zA H)) D r,
  ⟨xs.length,by simp,PQ _,zA,ow,ρ,z,rr,rw,st,sm,by simpa using ee,po⟩,?_⟩
 rintro i m σ H ⟨rfl,hi,zA,ow,ρ,z,rr,rw,st,sm,ee,po⟩;have sH:ae B H:=ae.trans sm (ae.trans cN (ag zA H));by_cases hlt:i < xs.length
 ·refine .inr ⟨IT.go i H sH hlt,λσ' H'=>∃ zA ow ρ z r,RW X.K H0 zE zA ow H' ρ σ'/\aP zA z H'/\ae B (hw ow (hz zA H'))/\jn (fBody G.F zE.isNone p b) (xs.drop (i + 1)) ρ z=some r/\eV X.K G E H0 zE (hw ow (hz zA H')) D r,
   λσ' H' h=>⟨xs.length - (i + 1),by omega,rfl,hlt,h⟩,λx H' y=>?_⟩
  have hd0:xs[i]?=some xs[i]:=Ø hlt;obtain⟨s1,hd⟩:=IT.yld i H x H' zA z _ (ae.trans sm cN) st y hd0;rw[tv hlt] at ee;have e0:M.bind (fBody G.F zE.isNone p b xs[i] ρ) (λo=>match o with | .nx ρ=>jn (fBody G.F zE.isNone p b) (xs.drop (i + 1)) ρ | .rt s=>M.ret (.rt s)) z=some rr:=ee
  have r1:=rw.mono (Ext.of s1);have aQ:=st.same s1;have sm1:ae (hw ow (hz zA H)) (hw ow (hz zA H')):=cg (dQ s1);have hd1:=hd (hw ow (hz zA H')) (ae.trans sm sm1) λ_ _ q=>sx q r1.uT;have fin:∀ {ρ1:Env}{o:O}{z1:Z},bO p xs[i] ρ=some ρ1->ex G.F zE.isNone b ρ1 z=some (.ok o z1)->(match o with | .nx ρ=>jn (fBody G.F zE.isNone p b) (xs.drop (i + 1)) ρ | .rt s=>M.ret (.rt s)) z1=some rr->gP X.K p x σ H' λσ2 H2=>tX X.K G E H0 zE b { D with nx:=λσ' H'=>∃ zA ow ρ z r,RW X.K H0 zE zA ow H' ρ σ'/\aP zA z H'/\ae B (hw ow (hz zA H'))/\jn (fBody G.F zE.isNone p b) (xs.drop (i + 1)) ρ z=some r/\eV X.K G E H0 zE (hw ow (hz zA H')) D r,ct:=λσ' H'=>∃ zA ow ρ z r,RW X.K H0 zE zA ow H' ρ σ'/\aP zA z H'/\ae B (hw ow (hz zA H'))/\jn (fBody G.F zE.isNone p b) (xs.drop (i + 1)) ρ z=some r/\eV X.K G E H0 zE (hw ow (hz zA H')) D r,bk:=D.nx } σ2 H2:=λ{ρ1 o z1} hbp e1 e2=>by
   refine yB hbp r1 hd1 λow' σ' r2 sm2=>⟨zA,ow',ρ1,z,_,r2,aQ,e1,?_⟩;cases o with
   |nx ρ2=>exact λzA3 ow3 σ3 H3 r3 st3 sm3=>⟨zA3,ow3,ρ2,z1,rr,r3,st3,ae.trans sm (ae.trans sm1 (ae.trans sm2 sm3)),e2,po.mono (ae.trans sm1 (ae.trans sm2 sm3))⟩|rt s=>cases e2;exact po
  rcases M.bind_some e0 with ⟨o,z1,e1,e2⟩ | ⟨c,z1,e1,e2⟩
  ·obtain⟨ρ1,hbp,e3⟩:=M.ah e1;exact fin hbp e3 e2
  ·subst e2;obtain⟨ρ1,hbp,e3⟩:=M.ah e1;exact yB hbp r1 hd1 λow' σ' r2 sm2=>⟨zA,ow',ρ1,z,_,r2,aQ,e3,po⟩
 ·have e:i=xs.length:=by omega
  subst e;rw[R4] at ee;cases ee;exact .inl ⟨IT.stop H sH,po zA ow σ H rw st (ae.refl _)⟩
theorem IZ(x:XS lm X G E N sc cn){p:fW}{i:Nat}{n:Str}{b:Sm}{tg:Ö}{body:List Qm}{np pos:Pos}(hp:cG N (gG sc) p tg=true)(h1:N[i]?=some n)(h2:aT n=true)(hb:mU X body (tX X.K G E H0 zE b)) :
  PS X (.For tg (.Name n np) body [] pos) (tX X.K G E H0 zE (.fr p .seq (.cons (.var i) .nil) b)):=by
 refine PS.imp (AY x.own x.calm (IY x.toXI h1 h2) (uK x.loc hp) hb (λ_=>rfl)) λD σ H q=>?_;obtain⟨zA,ow,ρ,z,rr,rw,st,ee,po⟩:=q;have e0:M.bind (M.bind (match ρ[i]? with | some (some s)=>M.ret [gA s] | _=>M.no) λx=>M.bind (M.of (one x)) λs=>M.bind (ev G.F .nil ρ) λy=>M.ret (s::y)) (λl=>M.bind (M.of ((gB l).bind (qz .seq))) λxs=>jn (fBody G.F zE.isNone p b) xs (uq .seq (.cons (.var i) .nil) l ρ)) z=some rr:=ee
 cases hs:ρ[i]? with
 |none=>rw[hs] at e0;cases e0
 |some o =>
  cases o with
  |none=>rw[hs] at e0;cases e0
  |some s =>
   rw[hs] at e0;have e1:M.bind (M.of ((gB [gA s]).bind (qz .seq))) (λxs=>jn (fBody G.F zE.isNone p b) xs ((ρ.set i ((ρ[i]?.getD none).map gA)).map (mq (mw [gA s])))) z=some rr:=e0;obtain⟨xs,hx,e2⟩:=M.ah e1;have r1:=rw.plain i;have sm:=f9 (H:=hz zA H) ow i;have hi:i < ρ.length:=(ï.mp hs).1;have hsl:(ρ.set i ((ρ[i]?.getD none).map gA))[i]?=some (some (gA s)):=by rw[ú hi,hs];rfl
   obtain⟨w,k1,k2⟩:=r1.wor i _ hsl;obtain⟨ds,h3,h4⟩:=Ñ.mp hx;obtain⟨d,rfl,h5⟩:=yo h3;have hd:Hd X.K (hw (nu ow i) (hz zA H)) d w:=by
    cases s with
    |d y=>cases h5;exact k2.2
    |fr ys=>cases h5;exact k2.2
    |_=>cases h5
   obtain⟨ow',r2,sm2⟩:∃ ow',RW X.K H0 zE zA ow' H ((ρ.set i ((ρ[i]?.getD none).map gA)).map (mq (mw [gA s]))) σ/\ae (hw (nu ow i) (hz zA H)) (hw ow' (hz zA H)):=by
    rw[og];cases mw [gA s] with
    |true=>exact⟨_,r1,ae.refl _⟩|false=>exact⟨_,r1.jH,lV _⟩
   cases d with
   |tup l =>
    cases h4;obtain⟨a,ys,rfl,m1,m2⟩:=hd.dz;exact⟨a,k1,.inl ⟨⟨ys,(ag zA H).il (ae.il cN m1)⟩,sA (yl m1 m2) r2 st sm2 e2 (po.mono (ae.trans sm sm2))⟩⟩
   |lst l =>
    cases h4;obtain⟨a,ys,rfl,m1,m2⟩:=hd.iF;exact⟨a,k1,.inr ⟨⟨ys,((m1.same cN).same (ag zA H)).sq⟩,sA (uM m1 m2) r2 st sm2 e2 (po.mono (ae.trans sm sm2))⟩⟩
   |_=>cases h4
theorem LB(x:XS lm X G E N sc cn){p:fW}{it:It}{src:Ex}{b:Sm}{tg iter:Ö}{body:List Qm}{pos:Pos}(hp:cG N (gG sc) p tg=true)(hi:PI X tg iter (DM X.K G E it src))(hns:d6 iter=true)(hv:BJ it src=none)(hb:mU X body (tX X.K G E H0 zE b)) :
  PS X (.For tg iter body [] pos) (tX X.K G E H0 zE (.fr p it src b)):=by
 refine PS.imp (AY x.own x.calm hi (uK x.loc hp) hb (kG hns X.env)) λD σ H q=>?_;obtain⟨zA,ow,ρ,z,rr,rw,st,ee,po⟩:=q;have e0:M.bind (ev G.F src ρ) (λl=>M.bind (M.of ((gB l).bind (qz it))) λxs=>jn (fBody G.F zE.isNone p b) xs ((oh it src l ρ).map (mq (mw l)))) z=some rr:=ee;rcases M.bind_some e0 with ⟨l,z1,e1,e2⟩ | ⟨c,z1,e1,e2⟩
 ·obtain⟨xs,hx,e3⟩:=M.ah e2;refine⟨zA,ρ,z,_,rw.jM,st,e1,xs,hx,λJ H1 x1 aQ IT=>?_⟩;have r1:=rw.mono x1;have frz:jn (fBody G.F zE.isNone p b) xs (jH ρ) z1=some rr->_:=λe3=>sA (G:=G) (E:=E) (D:=D) (IT (λ_=>True) (hz zA H1) (ae.refl _) (λ_ _ q=>q) (λ_ _ _ q=>q) (λds hds d hd=>by cases d <;> first | trivial | exact λ_ _=>trivial) λ_ _ q _=>q) r1.jH aQ (by rw[fu];exact ae.refl _) e3 (po.mono (ae.trans (cg x1) (lV ow)))
  rw[og] at e3;have he:oh it src l ρ=match lO l with | true=>jH ρ | false=>ρ:=by
   unfold oh;rw[hv] <;> cases lO l <;> rfl
  have tt:jH (jH ρ)=jH ρ:=by
   unfold jH;rw[à];refine O0 λo _=>?_
   match o with
   |none=>rfl|some (.d _)=>rfl|some (.fr _)=>rfl|some .z=>rfl|some (.ks _)=>rfl
  cases hl:lO l with
  |true =>
   rw[hl] at he;rw[he] at e3;dsimp only at e3;rw[tt,ite_self] at e3;exact frz e3
  |false =>
   rw[hl] at he;rw[he] at e3;dsimp only at e3;split at e3
   ·rename_i hbb;refine sA (IT (λy=>bare y=true) (hw ow (hz zA H1)) cN (λa ys q=>sx q r1.uT) (λd v hd q=>nr r1.uT hd q) (λds hds d hd=>?_) λa ys q hor=>?_) r1 aQ (ae.refl _) e3 (po.mono (cg x1))
    ·have h:=hbb;unfold mw at h;rw[hds] at h;have:=á.mp h d hd;cases d with
     |tup m=>exact λy hy=>lW this hy|lst m=>exact λy hy=>lW this hy|_=>trivial
    ·rcases hor with ⟨hn,hm1⟩ | hm
     ·refine cJ.of (cK (bu hm1 (st.rY hn)) λj w=>?_);obtain⟨zs,k⟩:=rw.lst j a w;rw[hn] at k;cases k
     ·rw[hl] at hm;cases hm
   ·exact frz e3
 ·subst e2;exact⟨zA,ρ,z,_,rw.jM,st,e1,po.Mr rw⟩
end
def isQ:Sm->Bool
 |.nil=>true|.seq _ _=>true|_=>false
def Cy:Ö->Bool
 |.IfExp ..=>false|_=>true
def NF:Ö->Bool
 |.SetComp ..=>false|.DictComp ..=>false|_=>true
def NG(lm:Bool)(fns:List (Str × List Str))(nums:List (Str × Int))(it:It)(src:Ex)(sc:ON)(N:List Str)(tg iter:Ö):Bool:=match it with
 |.seq=>mt lm fns nums src sc N [iter]|.rng1=>opt (zW iter) λr=>r.1.1 == ("range":Str)&&glob sc r.1.1&&mt lm fns nums src sc N [r.1.2.2.1]|.rng2=>opt (zX iter) λr=>r.1.1 == ("range":Str)&&glob sc r.1.1&&mt lm fns nums src sc N [r.1.2.2.1,r.1.2.2.2.1]|.zip=>opt (zX iter) λr=>r.1.1 == ("zip":Str)&&glob sc r.1.1&&dD tg&&mt lm fns nums src sc N [r.1.2.2.1,r.1.2.2.2.1]|.enum=>opt (zW iter) λr=>r.1.1 == ("enumerate":Str)&&glob sc r.1.1&&dD tg&&mt lm fns nums src sc N [r.1.2.2.1]
def NH:(p:fW)->Option {q:Nat × Nat // p=.tup (.cons (.v q.1) (.cons (.v q.2) .nil))}
 |.tup (.cons (.v i) (.cons (.v j) .nil))=>some ⟨(i,j),rfl⟩|_=>none
def NI:(e:Ex)->Option {q:Ex × Ex // e=.tup (.cons q.1 (.cons q.2 .nil))}
 |.tup (.cons a (.cons b .nil))=>some ⟨(a,b),rfl⟩|_=>none
def NJ:(e:Ö)->Option {q:Ö × Ö × Nat × Pos // e=.Tuple [q.1,q.2.1] q.2.2.1 q.2.2.2}
 |.Tuple [a,b] k p=>some ⟨(a,b,k,p),rfl⟩|_=>none
def NK(sc:ON)(p:fW)(e:Ex)(tg v:Ö):Bool:=opt (NH p) λ_=>opt (NI e) λ_=>opt (K1 tg) λt=>opt (NJ v) λu =>
  !(t.1.1 == t.1.2.2.1)&&sc.names.lookup t.1.1 == some .local&&sc.names.lookup t.1.2.2.1 == some .local&&t.1.2.2.2.1.line == t.1.2.1.line&&noStar u.1.1&&noStar u.1.2.1&&!([u.1.1,u.1.2.1].all (TN 8))&&!([u.1.1,u.1.2.1].all (constantsAlone 8))
def isNm:Ö->Bool
 |.Name ..=>true|_=>false
def OA(sc:ON):Ö->Ö->Bool
 |.Name y _,.DictComp ..=>sc.names.lookup y == some .cell|_,_=>false
def setB(sc:ON)(p:fW)(e:Ex)(tg v:Ö):Bool :=
 if isNm tg then(NF v || OA sc tg v) else if dD tg then(if dD v then(match v with | .Tuple vs _ _=>vs.all (TN 8) | _=>false) || (match tg with | .Tuple ts _ _=>ts.any (wW λy=>sc.names.lookup y) | _=>false) || NK sc p e tg v else true) else false
def Cz:(e:List Qm)->Option {q:Ö × Ö × Pos // e=[.Assign [q.1] q.2.1 q.2.2]}
 |[.Assign [tg] v p]=>some ⟨(tg,v,p),rfl⟩|_=>none
def LC:(e:List Qm)->Option {q:Option Ö × Pos // e=[.Return q.1 q.2]}
 |[.Return v p]=>some ⟨(v,p),rfl⟩|_=>none
def NL:(e:List Qm)->Option {q:Ö × List Qm × List Qm × Pos // e=[.If q.1 q.2.1 q.2.2.1 q.2.2.2]}
 |[.If c a b p]=>some ⟨(c,a,b,p),rfl⟩|_=>none
def LD:(e:List Qm)->Option {q:Ö × Ö × List Qm × Pos // e=[.For q.1 q.2.1 q.2.2.1 [] q.2.2.2]}
 |[.For tg iter body [] p]=>some ⟨(tg,iter,body,p),rfl⟩|_=>none
def LF:(e:List Qm)->Option {q:Ö × List Qm × Pos // e=[.While q.1 q.2.1 [] q.2.2]}
 |[.While c body [] p]=>some ⟨(c,body,p),rfl⟩|_=>none
def I0:(e:List Qm)->Option {q:Ö × Pos // e=[.Raise (some q.1) none q.2]}
 |[.Raise (some x) none p]=>some ⟨(x,p),rfl⟩|_=>none
def Gw:(e:List Qm)->Option {q:Ö × Pos // e=[.Expr q.1 q.2]}
 |[.Expr v p]=>some ⟨(v,p),rfl⟩|_=>none
def LG:(e:Ö)->Option {q:Str × Pos × Str × Nat × Pos × Pos // e=.Call (.Name q.1 q.2.1) [.Constant (.str q.2.2.1) q.2.2.2.1 q.2.2.2.2.1] [] q.2.2.2.2.2}
 |.Call (.Name n p1) [.Constant (.str y) k p2] [] p3=>some ⟨(n,p1,y,k,p2,p3),rfl⟩|_=>none
def LH:(e:Ö)->Option {q:Str × Pos × Str × Pos × Ö × Pos // e=.Call (.Attribute (.Name q.1 q.2.1) q.2.2.1 q.2.2.2.1) [q.2.2.2.2.1] [] q.2.2.2.2.2}
 |.Call (.Attribute (.Name n p) a ap) [v] [] cp=>some ⟨(n,p,a,ap,v,cp),rfl⟩|_=>none
def NM:(e:Ö)->Option {q:Str × Pos × Nat × Pos × Pos // e=.Subscript (.Name q.1 q.2.1) (.Constant (.int 0) q.2.2.1 q.2.2.2.1) q.2.2.2.2}
 |.Subscript (.Name n p) (.Constant (.int 0) c q1) tp=>some ⟨(n,p,c,q1,tp),rfl⟩|_=>none
def Ob:(e:Ö)->Option {q:Str × Pos × Ö × Pos // e=.Subscript (.Name q.1 q.2.1) q.2.2.1 q.2.2.2}
 |.Subscript (.Name n p) w tp=>some ⟨(n,p,w,tp),rfl⟩|_=>none
def NN:(e:Ö)->Option {q:Str × Pos // e=.Name q.1 q.2}
 |.Name n p=>some ⟨(n,p),rfl⟩|_=>none
def LI:(e:List Qm)->Option {q:Str × Pos × R7 × Ö × Pos // e=[.AugAssign (.Name q.1 q.2.1) q.2.2.1 q.2.2.2.1 q.2.2.2.2]}
 |[.AugAssign (.Name n p) op v pos]=>some ⟨(n,p,op,v,pos),rfl⟩|_=>none
def yD:Ex->Bool
 |.con .bw=>true|_=>false
def DO(lm:Bool)(fns:List (Str × List Str))(nums:List (Str × Int))(cn:List Str)(sc:ON)(N:List Str):Sm->List Qm->Bool
 |.nil,ss=>ss.isEmpty|.seq s r,ss=>opt ss.head? λst=>!isQ s&&isQ r&&DO lm fns nums cn sc N s [st]&&DO lm fns nums cn sc N r ss.tail|.set p e,ss=>opt (Cz ss) λq=>!bR e&&cG N (gG sc) p q.1.1&&mt lm fns nums e sc N [q.1.2.1]&&setB sc p e q.1.1 q.1.2.1
 |.ret e,ss=>opt (LC ss) λq=>match q.1.1 with
  |some v=>!bR e&&mt lm fns nums e sc N [v]|none=>yD e
 |.iff c t u,ss=>opt (NL ss) λq=>!bR c&&Cy q.1.1&&isQ t&&isQ u&&mt lm fns nums c sc N [q.1.1]&&DO lm fns nums cn sc N t q.1.2.1&&DO lm fns nums cn sc N u q.1.2.2.1|.fr p it src b,ss=>opt (LD ss) λq=>cG N (gG sc) p q.1.1&&bR src&&d6 q.1.2.1&&isQ b&&NG lm fns nums it src sc N q.1.1 q.1.2.1&&DO lm fns nums cn sc N b q.1.2.2.1|.whl c b,ss=>opt (LF ss) λq=>!bR c&&Cy q.1.1&&isQ b&&mt lm fns nums c sc N [q.1.1]&&DO lm fns nums cn sc N b q.1.2.1|.rais c,ss=>opt (I0 ss) λq=>opt (LG q.1.1) λr=>cn[c]? == some r.1.1&&glob sc r.1.1|.exp e,ss=>opt (Gw ss) λq=>oH q.1.1&&!bR e&&mt lm fns nums e sc N [q.1.1]|.app i e,ss=>opt (Gw ss) λq=>opt (LH q.1.1) λr=>r.1.2.2.1 == ("append":Str)&&N[i]? == some r.1.1&&aT r.1.1&&noStar r.1.2.2.2.2.1&&!bR e&&r.1.2.2.2.1.endLine == r.1.2.2.2.2.2.line&&mt lm fns nums e sc N [r.1.2.2.2.2.1]|.newz i f as,ss=>opt (Cz ss) λq=>opt (NN q.1.1) λr=>N[i]? == some r.1.1&&gG sc r.1.1&&oH q.1.2.1&&mt lm fns nums (.call f as) sc N [q.1.2.1]|.zset i e,ss=>opt (Cz ss) λq=>opt (NM q.1.1) λr=>N[i]? == some r.1.1&&aT r.1.1&&!bR e&&mt lm fns nums e sc N [q.1.2.1]|.aug o i e,ss=>opt (LI ss) λq=>N[i]? == some q.1.1&&gG sc q.1.1&&Fl o q.1.2.2.1&&!bR e&&mt lm fns nums e sc N [q.1.2.2.2.1]
section
variable {lm:Bool}{X:Cx}{G:Gs}{E:XK}{N:List Str}{sc:ON}{cn:List Str}{H0:Hp}{zE:Option Ë}
theorem LJ(x:XI lm X G E N sc){it:It}{src:Ex}{tg iter:Ö}(hL:bR src=true)(h:NG lm G.fns G.nums it src sc N tg iter=true):PI X tg iter (DM X.K G E it src):=by
 cases it with
 |seq =>
  obtain⟨a,rfl,ga⟩:=yz hL (sound G src x h);exact Ci ga
 |rng1 =>
  obtain⟨⟨⟨n,_,a,_⟩,rfl⟩,-,h⟩:=au h;simp only[Á,beq_iff_eq] at h;exact yp x h.1.1 h.1.2 hL (sound G src x h.2)
 |rng2 =>
  obtain⟨⟨⟨n,_,a,b,_⟩,rfl⟩,-,h⟩:=au h;simp only[Á,beq_iff_eq] at h;exact yq x h.1.1 h.1.2 hL (sound G src x h.2)
 |zip =>
  obtain⟨⟨⟨n,_,a,b,_⟩,rfl⟩,-,h⟩:=au h;simp only[Á,beq_iff_eq] at h;exact yu x h.1.2 h.1.1.1 h.1.1.2 hL (sound G src x h.2)
 |enum =>
  obtain⟨⟨⟨n,_,a,_⟩,rfl⟩,-,h⟩:=au h;simp only[Á,beq_iff_eq] at h;exact uP x h.1.2 h.1.1.1 h.1.1.2 hL (sound G src x h.2)
theorem uV(h:Cy e=true):∀ t a b p,e≠.IfExp t a b p:=by
 intro t a b p he;subst he;cases h
def GS(X:Cx)(G:Gs)(E:XK)(H0:Hp)(zE:Option Ë)(s:Sm)(ss:List Qm):Prop:=(isQ s=true->mU X ss (tX X.K G E H0 zE s))/\(isQ s=false->∃ st,ss=[st]/\PS X st (tX X.K G E H0 zE s))
theorem eW{s:Sm}{st:Qm}(hq:isQ s=false)(h:PS X st (tX X.K G E H0 zE s)):GS X G E H0 zE s [st]:=⟨λk=>(by rw[hq] at k;cases k),λ_=>⟨st,rfl,h⟩⟩
theorem Fq{x:XI lm X G E N sc}{e:Ex}{elt:Ö}{gs:List VS}{cC:ON}{q:Pos}(h:mt lm G.fns G.nums e sc N [.ListComp elt gs cC q]=true)(hL:bR e=false):IP X G E e (.ListComp elt gs cC q):=by
 cases e with
 |comp own aB p it src cond el =>
  match gs,h with
  |[⟨tg,iter,ifs,0⟩],h=>exact jL.set (elt:=elt) (tg:=tg) (iter:=iter) (ifs:=ifs) (cC:=cC) (q:=q) x.calm (qD (λx _=>sound G src x) (λx _=>sound G cond x) (λx _=>sound G el x) x h)
 |flat a =>
  obtain⟨⟨⟨n,m,pe,px,iter,py,px2,sc',ps⟩,e⟩,-,h⟩:=au (show opt (KQ _) _=true from h);obtain⟨rfl,rfl,rfl,rfl⟩:elt=.Name m pe/\gs=[⟨.Name n px,iter,[],0⟩,⟨.Name m py,.Name n px2,[],0⟩]/\cC=sc'/\q=ps:=by
   injection e with e;injection e with e1 e2 e3 e4;exact⟨e1,e2,e3,e4⟩
  simp only[Á] at h;obtain⟨⟨⟨⟨⟨h1,h2⟩,h2'⟩,h3⟩,h4⟩,h5⟩:=h;have c:=yv h1;have ga:=ay (aF h4) (sound G a x h5);exact λ_ _ _ _ k1 k2 k3 k4 k5=>PS.imp (EA k1 k2 k3 k4 x.calm (nq x c) (c.own n Å) (c.own m (by simp)) (uR h2) (uR h2') ga.pe (kG h3 X.env) k5) λD σ H q=>yA x ga q
 |nil=>cases hL
 |cons _ _=>cases hL
 |bf f as=>cases f <;> cases h
 |_=>cases h
theorem Fs(h:isNm e=true):∃ y p,e=.Name y p:=by
 cases e <;> first | exact⟨_,_,rfl⟩ | cases h
theorem jf(h:dD e=true):∃ ts k p,e=.Tuple ts k p:=by
 cases e <;> first | exact⟨_,_,_,rfl⟩ | cases h
theorem LK(x:XS lm X G E N sc cn){p:fW}{e:Ex}{tg v:Ö}{pos:Pos}(h1:(!bR e)=true)(h2:cG N (gG sc) p tg=true)(h3:mt lm G.fns G.nums e sc N [v]=true)(h4:setB sc p e tg v=true):PS X (.Assign [tg] v pos) (tX X.K G E H0 zE (.set p e)):=by
 have g:=ay (aF h1) (sound G e x.toXI h3);unfold setB at h4;split at h4
 ·rename_i hn;obtain⟨y,px,rfl⟩:=Fs hn;cases p with
  |v i =>
   unfold cG at h2;rw[Á,beq_iff_eq] at h2;refine Lr x h2.1 h2.2 g (λelt gs cC q hv=>?_) (λa b c d hv=>?_) (λa b c d f hv=>?_)
   ·subst hv;exact Fq (x:=x.toXI) h3 (aF h1)
   ·subst hv;cases h4
   ·subst hv;exact eq_of_beq h4
  |tup _=>unfold cG at h2;cases h2
  |nil=>unfold cG at h2;cases h2
  |cons _ _=>unfold cG at h2;cases h2
 ·split at h4
  ·rename_i ht;split at h4
   ·rename_i hv;rw[Ph,Ph] at h4;rcases h4 with (h4 | h4) | h4
    ·obtain⟨ts,k,tp,rfl⟩:=jf ht;obtain⟨vs,k',vp,rfl⟩:=jf hv;exact wX x h2 g rfl (Fi h4)
    ·obtain⟨ts,k,tp,rfl⟩:=jf ht;obtain⟨vs,k',vp,rfl⟩:=jf hv;refine wX x h2 g rfl (Fj ?_);have e:X.env.kindOf=λy=>sc.names.lookup y:=by funext y;unfold Env.kindOf;rw[x.sco]
     rw[e];exact h4
    ·clear g h1 ht hv;obtain⟨⟨⟨i,j⟩,rfl⟩,-,h4⟩:=au h4;obtain⟨⟨⟨ea,eb⟩,rfl⟩,-,h4⟩:=au h4;obtain⟨⟨⟨y,px,w,py,kt,tp⟩,rfl⟩,-,h4⟩:=au h4;obtain⟨⟨⟨a,b,kv,vp⟩,rfl⟩,-,h4⟩:=au h4;simp only[Á,ô,beq_iff_eq] at h4;obtain⟨⟨⟨⟨⟨⟨⟨k1,k2⟩,k3⟩,k4⟩,k5⟩,k6⟩,k7⟩,k8⟩:=h4;unfold cG at h2;simp only[lR,cG,Á,beq_iff_eq] at h2;obtain⟨⟨_,h21,_⟩,⟨_,h22,_⟩,_⟩:=h2;have h3':(bR (.cons ea (.cons eb .nil))&&mt lm G.fns G.nums (.cons ea (.cons eb .nil)) sc N [a,b])=true:=h3;rw[Á] at h3';have ga:Good X G E (.cons ea (.cons eb .nil)) [a,b]:=sound G (.cons ea (.cons eb .nil)) x.toXI h3'.2;refine Ls x h21 h22 (by simpa using k1) k2 k3 ga (IM x.bk ?_ ?_ (by simpa using k1) (by rw[k4];exact beq_self_eq_true _) k5 k6 k7 k8)
     ·unfold Env.kindOf;rw[x.sco];exact k2
     ·unfold Env.kindOf;rw[x.sco];exact k3
   ·rename_i hv;exact wX x h2 g ht (Fh (by simpa using hv))
  ·cases h4
theorem Ad(h:yD e=true):e=.con .bw:=by
 unfold yD at h;split at h
 ·rfl
 ·cases h
theorem LL(x:XS lm X G E N sc cn){e:Ex}{o:Option Ö}{pos:Pos}(h:(match o with | some v=>!bR e&&mt lm G.fns G.nums e sc N [v] | none=>yD e)=true):PS X (.Return o pos) (tX X.K G E H0 zE (.ret e)):=by
 cases o with
 |some v =>
  have h:(!bR e&&mt lm G.fns G.nums e sc N [v])=true:=h;rw[Á] at h;by_cases hv:∃ i,e=.var i
  ·obtain⟨i,rfl⟩:=hv;have h2:=h.2;cases v with
   |Name n p =>
    have h2:(N[i]? == some n&&aT n)=true:=h2;rw[Á,beq_iff_eq] at h2;exact IQ x h2.1 h2.2
   |_=>cases h2
  ·exact Lu (λi hi=>hv ⟨i,hi⟩) (ay (aF h.1) (sound G e x.toXI h.2))
 |none =>
  have he:=Ad h;subst he;refine PS.imp DU λD σ H q=>?_;obtain⟨zA,ow,ρ,z,rr,rw,st,ee,po⟩:=q;cases ee;exact po .bw H (λk=>nomatch k) rw.ext (Ac rw.zok st) (show Hd X.K (hz zE H) .bw .bw from Hd.bw)
theorem NO(x:XS lm X G E N sc cn){p:fW}{it:It}{src:Ex}{b:Sm}{tg iter:Ö}{body:List Qm}{pos:Pos}(h1:cG N (gG sc) p tg=true)(h2:bR src=true)(h3:d6 iter=true)(h5:NG lm G.fns G.nums it src sc N tg iter=true)(hb:mU X body (tX X.K G E H0 zE b)) :
  PS X (.For tg iter body [] pos) (tX X.K G E H0 zE (.fr p it src b)):=by
 cases hv:BJ it src with
 |some q =>
  obtain⟨i,rfl,rfl⟩:=q;have h5':(noStar iter&&!bR (.var i)&&bR .nil&&mt lm G.fns G.nums (.var i) sc N [iter]&&mt lm G.fns G.nums .nil sc N [])=true:=h5;simp only[Á] at h5';have h7:=h5'.1.2;cases iter with
  |Name n np =>
   have h7:(N[i]? == some n&&aT n)=true:=h7;rw[Á,beq_iff_eq] at h7;exact IZ x h1 h7.1 h7.2 hb
  |_=>cases h7
 |none=>exact LB x h1 (LJ x.toXI h2 h5) h3 hv hb
theorem Ja(x:XS lm X G E N sc cn):∀ (s:Sm) {ss:List Qm},DO lm G.fns G.nums cn sc N s ss=true->GS X G E H0 zE s ss:=by
 intro s
 induction s with
 |nil =>
  intro ss h;have:ss=[]:=Se.mp h;subst this;exact⟨λ_=>Lo,λk=>by cases k⟩
 |seq s r ihs ihr =>
  intro ss h;obtain⟨st,h0,h⟩:=au h;cases ss with
  |nil=>cases h0
  |cons st' rest =>
   cases h0;simp only[Á,ô,List.tail_cons] at h;obtain⟨⟨⟨h1,h2⟩,h3⟩,h4⟩:=h;obtain⟨st',he,hs⟩:=(ihs h3).2 h1;cases he;exact⟨λ_=>Lp hs ((ihr h4).1 h2),λk=>by cases k⟩
 |set p e =>
  intro ss h;obtain⟨⟨q,rfl⟩,-,h⟩:=au h;simp only[Á] at h;exact eW rfl (LK x h.1.1.1 h.1.1.2 h.1.2 h.2)
 |ret e =>
  intro ss h;obtain⟨⟨q,rfl⟩,-,h⟩:=au h;exact eW rfl (LL x h)
 |iff c t u iht ihu =>
  intro ss h;obtain⟨⟨q,rfl⟩,-,h⟩:=au h;simp only[Á] at h;obtain⟨⟨⟨⟨⟨⟨h1,h2⟩,h3⟩,h4⟩,h5⟩,h6⟩,h7⟩:=h;exact eW rfl (NC (ay (aF h1) (sound G c x.toXI h5)) (uV h2) ((iht h6).1 h3) ((ihu h7).1 h4))
 |fr p it src b ih =>
  intro ss h;obtain⟨⟨q,rfl⟩,-,h⟩:=au h;simp only[Á] at h;obtain⟨⟨⟨⟨⟨h1,h2⟩,h3⟩,h4⟩,h5⟩,h6⟩:=h;exact eW rfl (NO x h1 h2 h3 h5 ((ih h6).1 h4))
 |whl c b ih =>
  intro ss h;obtain⟨⟨q,rfl⟩,-,h⟩:=au h;simp only[Á] at h;obtain⟨⟨⟨⟨h1,h2⟩,h3⟩,h4⟩,h5⟩:=h;exact eW rfl (Lz x (ay (aF h1) (sound G c x.toXI h4)) (uV h2) ((ih h5).1 h3))
 |rais c =>
  intro ss h;obtain⟨⟨⟨e,pos⟩,rfl⟩,-,h⟩:=au h;dsimp only at h;obtain⟨⟨⟨n,p1,y,k,p2,p3⟩,rfl⟩,-,h⟩:=au h;simp only[Á,beq_iff_eq] at h;exact eW rfl (x_raise x h.1 h.2)
 |exp e =>
  intro ss h;obtain⟨⟨q,rfl⟩,-,h⟩:=au h;simp only[Á] at h;exact eW rfl (Lv (ay (aF h.1.2) (sound G e x.toXI h.2)) h.1.1)
 |app i e =>
  intro ss h;obtain⟨⟨⟨v0,pos⟩,rfl⟩,-,h⟩:=au h;dsimp only at h;obtain⟨⟨⟨n,p1,a,apos,v,cpos⟩,rfl⟩,-,h⟩:=au h;simp only[Á,beq_iff_eq] at h;obtain⟨⟨⟨⟨⟨⟨h7,h8⟩,h2⟩,h3⟩,h4⟩,h5⟩,h6⟩:=h;subst h7;exact eW rfl (Ly x h8 h2 h3 (ay (aF h4) (sound G e x.toXI h6)) (by rw[h5];exact beq_self_eq_true _))
 |newz i f as =>
  intro ss h;obtain⟨⟨⟨tg,v,pos⟩,rfl⟩,-,h⟩:=au h;dsimp only at h;obtain⟨⟨⟨y,p1⟩,rfl⟩,-,h⟩:=au h;simp only[Á,beq_iff_eq] at h;obtain⟨⟨⟨h1,h2⟩,h3⟩,h4⟩:=h;exact eW rfl (IV x h1 h2 (ay rfl (sound G (.call f as) x.toXI h4)) h3)
 |zset i e =>
  intro ss h;obtain⟨⟨⟨tg,v,pos⟩,rfl⟩,-,h⟩:=au h;dsimp only at h;obtain⟨⟨⟨n,p1,c,p2,p3⟩,rfl⟩,-,h⟩:=au h;simp only[Á,beq_iff_eq] at h;exact eW rfl (IW x h.1.1.1 h.1.1.2 (ay (aF h.1.2) (sound G e x.toXI h.2)))
 |aug o i e =>
  intro ss h;obtain⟨⟨⟨y,p1,op,v,pos⟩,rfl⟩,-,h⟩:=au h;simp only[Á,beq_iff_eq] at h;exact eW rfl (Lw x h.1.1.1.1 h.1.1.1.2 h.1.1.2 (ay (aF h.1.2) (sound G e x.toXI h.2)))
end
structure GX(P:Program)(w:World)(K:PySem.W.Frag)(mg:Str->Option Value)(base:Heap)(G:Gs)(cn:List Str):Prop where
 gok:∀ f nm ps,G.fns[f]?=some (nm,ps)->∃ fa fd,mg nm=some (.ref fa)/\PySem.W.keepIn K (.ref fa)=true/\Binds K fd ps []/\lB P w K mg base (pO P w) G.lv fa fd ps (Ij K G f ps.length)
 num:∀ p∈G.nums,∃ t,mg p.1=some (.int p.2 t)
 blt:∀ n∈wI,mg n=none
 cls:∀ c x,cn[c]?=some x->mg x=some (.ref (G.cls c))/\PySem.W.excIn K (G.cls c) [.type "ValueError",.type "Exception",.type "BaseException",.type "object"] "ValueError.__new__"=true
section
variable {P:í}{w:ü}{K:Â}{mg:Str->Option Ä}{base:û}{G:Gs}{cn:List Str}
theorem Jb(g:GX P w K mg base G cn){lm:Bool}{N ps:List Str}{qual:Str}{sc:ON}{f:Ë}{fd:Q8}{cd:Ä}{A:p8}{outer:List Qs}{s:É}{H:Hp}{E:XK}(S:gv N ps sc)(hl:N.all (gG sc)=true)
  (hr:iy G.lv (A.deeper (S9 qual sc s.heap.objs.size f cd))) (hc:fd.code=cd):XS lm (iz (pO P w) P w K mg base N qual sc f cd A outer s H E) G E N sc cn where
 gok:=g.gok
 num:=g.num
 blt:=g.blt
 hN:=rfl
 nd:=S.nd
 vis:=λx hx=>by
  have:=á.mp hl x hx;unfold gG at this;rw[Ph,beq_iff_eq,beq_iff_eq] at this;rcases this with h | h
  ·exact .inl h
  ·exact .inr (.inl h)
 glb:=λx h=>h
 cel:=λx h=>h
 calm:=rfl
 room:=hr
 pas:=Ku
 sco:=rfl
 fnk:=S.kind
 own:=PassesOwn.leaving
 can:=zJ
 fnx:=λ_=>rfl
 cls:=g.cls
theorem NP{x qual:Str}{st:Qm}{f:Ë}{fd:Q8}{N ps:List Str}{k:Nat}{sp:Sp}(F:Gg K x qual st f fd)(S:gv N ps (bq st))(len:∀ vs H Q E,sp vs H Q E->vs.length=ps.length)
  (hb:∀ (cdv:Ä),fd.code=cdv->∀ (A:p8) (outer:List Qs) (s:É) (H:Hp) (vs:List V) (Q:VK) (E:XK),iy k (A.deeper (S9 qual (bq st) s.heap.objs.size f cdv))->sp vs H Q E ->
   ∃ t,mU (iz (pO P w) P w K mg base N qual (bq st) f cdv A outer s H E) (fq st) t/\t { nx:=λ_ H'=>Q .bw H',rt:=Q } (L2.start N vs) H):lB P w K mg base (pO P w) (k + 1) f fd ps sp:=by
 obtain⟨oc,od,kV,doc,pm,an,cdv,ct,osl,rfl,lk,hcd⟩:=F.ex;exact Ki lk hcd S len λA outer s H vs Q E hr hsp=>hb cdv rfl A outer s H vs Q E hr hsp
theorem uW:∀ {ss:List S}{vs:List V}{i:Nat}{s:S}{n:Nat},uC K zA H ss vs->(ss.map some++ø n none)[i]?=some (some s)->∃ v,(vs.map some++ø n none)[i]?=some (some v)/\vO K zA H s v
 |[],_,i,s,n,h,e=>by
  cases h;simp only[map_nil,RU] at e;rw[Sf] at e;split at e <;> cases e
 |a::ss,_,0,s,n,h,e=>by
  cases h with
  |cons h1 h2 =>
   simp only[Qw,R5,UT] at e;cases e;exact⟨_,rfl,h1⟩
 |a::ss,_,i + 1,s,n,h,e=>by
  cases h with
  |cons h1 h2 =>
   obtain⟨v,k1,k2⟩:=uW (i:=i) (s:=s) (n:=n) h2 (by simpa using e)
   exact⟨v,by simpa using k1,k2⟩
theorem Pd.len{α β:Type}{R:α->β->Prop}:∀ {l:List α}{m:List β},Pd R l m->l.length=m.length
 |[],_,h=>by cases h;rfl
 |_::_,_,h=>by
  cases h with
  |cons h1 h2=>simp[Pd.len h2]
theorem CA(h:uC K zA H ss vs)(hn:∀ s∈ss,∀ xs,s≠.fr xs):RW K H zA zA (λ_=>none) H (Q.start N.length ss) (L2.start N vs):=by
 have hl:ss.length=vs.length:=Pd.len h;refine⟨?_,λi j a e=>(nomatch e),λi a e=>(nomatch e),λi a e=>(nomatch e),λi s e=>?_,Ext.refl,.inl rfl,λi a e=>(nomatch e)⟩
 ·unfold Q.start L2.start;simp[hl]
 ·unfold Q.start at e;obtain⟨v,k1,k2⟩:=uW h e;refine⟨v,?_,?_⟩
  ·unfold L2.start;rw[← hl];exact k1
  ·cases s with
   |d x=>exact⟨rfl,by rw[fu];exact k2⟩|z=>exact⟨rfl,k2⟩|ks l=>exact⟨rfl,by rw[fu];exact k2⟩
   |fr xs =>
    rcases Ì.mp (p5 e) with q | q
    ·obtain⟨s',q1,q2⟩:=Î.mp q;cases q2;exact absurd rfl (hn _ q1 xs)
    ·cases List.eq_of_mem_replicate q
theorem CB(st:aP zA z H):Fe zA z1=gC z z1:=by
 have st:=st.zat;cases zA with
 |none =>
  cases z with
  |none=>rfl|some p=>exact st.elim
 |some a =>
  cases z with
  |none=>exact st.elim|some p=>rfl
theorem Ae(st:aP zA z H):z.isNone=zA.isNone:=by
 have st:=st.zat;cases zA with
 |none =>
  cases z with
  |none=>rfl|some p=>exact st.elim
 |some a =>
  cases z with
  |none=>exact st.elim|some p=>rfl
theorem yE(g:GX P w K mg base G cn){lm:Bool}{N ps:List Str}{nm:Str}{st:Qm}{fa:Ë}{fd:Q8}{b:Sm}{f:Nat}{F':FT}(Fn:Gg K nm nm st fa fd)(Sc:gv N ps (bq st))(hl:N.all (gG (bq st))=true)
  (ch:DO lm G.fns G.nums cn (bq st) N b (fq st)=true) (hq:isQ b=true)
  (hF:∀ l z,F' false f l z=run G.F (.code ps.length N.length b) l z):lB P w K mg base (pO P w) (G.lv + 1) fa fd ps (Ij K { G with F:=F',lv:=G.lv + 1 } f ps.length):=by
 refine NP Fn Sc (λvs H Q E h=>h.1) λcdv hcd A outer s H vs Qv E hr hsp=>?_;obtain⟨hlen,zA,z,ss,r,rv,st',e,po⟩:=hsp;refine⟨_,(Ja (H0:=H) (zE:=zA) (Jb g Sc hl hr hcd) b ch).1 hq,?_⟩;have e0:(if ss.length=ps.length/\ps.length<=N.length then(match ex G.F z.isNone b (Q.start N.length (ss.map gA)) z with
  |some (.ok (.nx _) z1)=>some (R.ok (S.d .bw) (gC z z1))|some (.ok (.rt s) z1)=>some (R.ok s (gC z z1))|some (.er c z1)=>some (R.er c (gC z z1))
  |none=>none) else none)=some r:=by
  have:=hF ss z;exact this.symm.trans e
 rw[Ae st'] at e0;split at e0
 ·have rw0:RW K H zA zA (λ_=>none) H (Q.start N.length (ss.map gA)) (L2.start N vs):=CA rv.gA λs hs xs=>by
   obtain⟨s',_,rfl⟩:=Î.mp hs;cases s' <;> exact λh=>nomatch h
  split at e0
  ·rename_i ρ z1 e1;cases e0;refine⟨zA,_,_,z,_,rw0,st',e1,λzA' ow' σ' H' r' aQ _=>?_⟩;refine po .bw H' r'.ext ?_ (show Hd K (hz zA H') .bw .bw from Hd.bw);rw[← CB st'];exact Ac r'.zok aQ
  ·rename_i s1 z1 e1;cases e0;refine⟨zA,_,_,z,_,rw0,st',e1,λv H' nz x aQ rv'=>?_⟩;exact po v H' x (by rw[← CB st'];exact aQ) rv'
  ·rename_i c z1 e1;cases e0;refine⟨zA,_,_,z,_,rw0,st',e1,λe H' x aQ hn=>?_⟩;exact po e H' x (by rw[← CB st'];exact aQ) hn
  ·cases e0
 ·cases e0
def Gx(G:Gs)(T:List Df)(k:Nat):Gs:={ G with F:=jo T k,lv:=k }
theorem Jc{T:List Df}
  (num:∀ p∈G.nums,∃ t,mg p.1=some (.int p.2 t)) (blt:∀ n∈wI,mg n=none)
  (cls:∀ c x,cn[c]?=some x->mg x=some (.ref (G.cls c))/\RN K (G.cls c) [.type "ValueError",.type "Exception",.type "BaseException",.type "object"] "ValueError.__new__"=true)
  (hd:∀ (f:Nat) (nm:Str) (ps:List Str),G.fns[f]?=some (nm,ps)->∃ (fa:Ë) (fd:Q8),mg nm=some (.ref fa)/\Wi K (.ref fa)=true/\Binds K fd ps [] /\
   ((∃ (lm:Bool) (N:List Str) (st:Qm) (b:Sm),T[f]?=some (Df.code ps.length N.length b)/\Gg K nm nm st fa fd/\gv N ps (bq st)/\N.all (gG (bq st))=true/\isQ b=true/\DO lm G.fns G.nums cn (bq st) N b (fq st)=true) ∨
    T[f]?=none)):∀ k,GX P w K mg base (Gx G T k) cn:=by
 have zero:∀ k,k < 3->GX P w K mg base (Gx G T k) cn:=λk hk=>by
  refine⟨λf nm ps h=>?_,num,blt,cls⟩;obtain⟨fa,fd,h1,h2,h3,_⟩:=hd f nm ps h;refine⟨fa,fd,h1,h2,h3,λvs H Q E q=>q.1,λA outer s H args us vs Q E hr he hb hv hs=>?_⟩;obtain⟨_,zA,z,ss,r,_,_,e,_⟩:=hs
  match k,hk with
  |0,_=>cases e
  |1,_=>cases e
  |2,_=>cases e
 intro k
 induction k using Xd with
 |ind k ih =>
  match k,ih with
  |0,_=>exact zero 0 (-0)|1,_=>exact zero 1 (-0)|2,_=>exact zero 2 (-0)
  |k + 3,ih =>
   refine⟨λf nm ps h=>?_,num,blt,cls⟩;obtain⟨fa,fd,h1,h2,h3,h4⟩:=hd f nm ps h;refine⟨fa,fd,h1,h2,h3,?_⟩;rcases h4 with ⟨lm,N,st,b,k1,k2,k3,k4,k5,k6⟩ | h4
   ·refine yE (G:=Gx G T (k + 2)) (F':=jo T (k + 3)) (ih (k + 2) ∅) k2 k3 k4 k6 k5 λl z=>?_
    ·show(match T[f]? with | some d=>run (jo T (k + 2)) d l | none=>M.no) z=_
     rw[k1];rfl
   ·refine⟨λvs H Q E q=>q.1,λA outer s H args us vs Q E hr he hb hv hs=>?_⟩;obtain⟨_,zA,z,ss,r,_,_,e,_⟩:=hs;have e':(match T[f]? with | some d=>run (jo T (k + 2)) d ss | none=>M.no) z=some r:=e
    rw[h4] at e';cases e'
end
end Q
namespace L2
open PySem PySem.W PySem.Calls PyProof.Rows
def kJ(thr sok:Xv->Bool)(stp:UX->Xv->Option (UX × Xv)):Nat->UX->Xv->Option UX
 |0,_,_=>none
 |n + 1,s,t=>match thr t with
  |true=>some s
  |false=>match sok t with
   |false=>none
   |true=>match stp s t with
    |some (s',t')=>kJ thr sok stp n s' t'|none=>none
theorem qF:∀ {n:Nat}{s s':UX}{t:Xv},kJ through (stepOk n₀ ann) (stepT (denote tb) p w) n s t=some s'->topRun tb p w n₀ ann n s.abs t=some s'.abs
 |0,_,_,_,h=>by cases h
 |n + 1,s,s',t,h=>by
  unfold kJ at h;unfold topRun;cases ht:through t with
  |true=>rw[ht] at h;cases h;rfl
  |false =>
   rw[ht] at h;cases bx:stepOk n₀ ann t with
   |false=>rw[bx] at h;cases h
   |true =>
    rw[bx] at h;cases hst:stepT (denote tb) p w s t with
    |none=>rw[hst] at h;cases h
    |some r=>obtain⟨s₂,t₂⟩:=r;rw[hst] at h;rw[stepT_spec hst];exact qF h
def grow:List Obj->Nat->BT->BT
 |[],_,t=>t|o::r,i,t=>grow r (i + 1) (t.ins i o)
def CC(w:ü)(os:Wj):SharedT:=⟨grow (QY w.params).objs.toList 0 .nil,11,(QY w.params).life,Vu [],Xs,X9,os⟩
theorem Af:∀ (w:ü) (os:Wj),(CC w os).abs=⟨QY w.params,Vu [],Xs,X9,os⟩:=λw os=>by kernel_rfl
theorem Ag:∀ w:ü,((QY w.params).isNs gV&&(Vu []:Array Vq).size == 0,(QY w.params).objs.size,(QY w.params).nsMap gV "__annotations__")=(true,11,some (.ref 6)):=λw=>by kernel_rfl
theorem Ft{p q:í}{loose:List Str}{Xt:É->Bool}{α:Type}{Yf:É->α}{Ya:ü->α}{N:Nat}
  (e:opening p=plainProg p.main.scope.names) (hN:ble 600 N=true) (f:∀ s,fenceModules? p s=some s)
  (run:∀ (w:ü) (os:Wj),(kJ through (stepOk 11 (some (.ref 6))) (stepT (denote X2) p w) N (CC w os) (topStub p)).map (λs =>
   (staticsOk (RM p.main.body) (QY w.params) s.abs.heap&&namesBound p s.abs.heap&&gensDone s.abs&&laidKept (QY w.params) s.abs.heap,
    openSeen q loose (RM p.main.body) Xt true s.abs,Yf s.abs))=some (true,openGood q loose,Ya w)):LeftO p q loose Xt Yf Ya N:=λw=>by
 obtain⟨⟨h,gs,d,k,os⟩,e1,e2⟩:=Ï.mp (boot_open (N:=N) e hN f w);obtain⟨rfl,rfl,rfl,rfl⟩:h=QY w.params/\gs=Vu []/\d=Xs/\k=boot_toks:=by simpa using e2
 obtain⟨z1,z2,z3⟩:_/\_/\_:=by simpa only [SD] using Ag w
 obtain⟨s1,r1,r2⟩:=Ï.mp (run w os);obtain⟨l1,l2,l3⟩:_/\_/\_:=by simpa only [SD] using r2
 have r:=qF r1;rw[Af] at r;unfold openEnds;rw[e1];show Rh _ (topFrom X2 p w N _)=_;unfold topFrom;dsimp only;rw[z1,z2,z3,r];show Rh _ (match staticsOk (RM p.main.body) (QY w.params) s1.abs.heap&&namesBound p s1.abs.heap&&gensDone s1.abs&&laidKept (QY w.params) s1.abs.heap with | true=>_ | false=>_)=_
 rw[l1];exact congrArg Option.some (Vz l2 l3)
def oI(o:Obj):Bool:=match o with
 |⟨.none,none,.fields vs,sl⟩=>vs.isEmpty&&sl.isEmpty|_=>false
def Jd(h:û)(a:Ë):Option Obj:=match h.get? a with
 |some o=>if oI o then none else some o|none=>none
def fragOf(h:û):Frag:=(é h.objs.size).filterMap λa=>(Jd h a).map λo=>(a,o)
theorem jg(g:Ë->Option Obj)(a:Ë):∀ l:List Ë,(l.filterMap λa=>(g a).map λo=>(a,o)).lookup a=if a∈l then g a else none
 |[]=>rfl
 |b::r=>by
  by_cases hb:a=b
  ·subst hb;rw[if_pos Å];cases hg:g a with
   |none =>
    rw[O4,hg];show(r.filterMap λa=>(g a).map λo=>(a,o)).lookup a=none;rw[jg g a r];split
    ·exact hg
    ·rfl
   |some o =>
    rw[O4,hg];show Rw a ((a,o)::_)=some o;rw[List.lookup_cons_self]
  ·have hm:(a∈b::r)↔a∈r:=by rw[OO];exact⟨λh=>h.resolve_left hb,Or.inr⟩
   have ih:=jg g a r;have e:(if a∈b::r then g a else none)=if a∈r then g a else none:=by simp only[hm]
   rw[e,← ih];cases hg:g b with
   |none=>rw[O4,hg];rfl
   |some o =>
    rw[O4,hg];show Rw a ((b,o)::_)=_;have:(a == b)=false:=by simpa using hb
    simp only[Rw,this]
theorem Ah(h:û):(fragOf h).In h:=λa o e=>by
 unfold fragOf at e;rw[jg] at e;split at e
 ·unfold Jd at e;cases hg:h.get? a with
  |none=>rw[hg] at e;cases e
  |some u =>
   rw[hg] at e;dsimp only at e;split at e
   ·cases e
   ·exact e
 ·cases e
theorem Fu(h:oI o=true):o=tabObj #[]:=by
 unfold oI at h;split at h
 ·rename_i vs sl;rw[Á,V9,V9] at h;obtain⟨rfl,rfl⟩:=h;rfl
 ·cases h
theorem wY(e:h.get? a=some o)(t:oI o=true):(fragOf h).lookup a=none:=by
 unfold fragOf;rw[jg];split
 ·unfold Jd;rw[e];exact if_pos t
 ·rfl
def wZ(K:Vs)(x:Str):Option (Str × Str × Wa × FuncBody × ON × Ë × List (Str × Ë) × Ä × Ë × Bool):=match WU K gV x with
 |some (some (.ref at0))=>(match K.lookup at0 with
  |some ⟨_,_,.func fd,_⟩=>some (fd.name,fd.qualname,fd.params,fd.body,fd.scope,fd.globals,fd.closure,fd.defaults,fd.builtins,codeIn K fd.code x)
  |_=>none)
 |_=>none
def CD(x:Str)(st:Qm):Option (Str × Str × Wa × FuncBody × ON × Ë × List (Str × Ë) × Ä × Ë × Bool):=some (x,x,mW st,.stmts (fq st),bq st,gV,[],.none,Vc,true)
theorem u3{K:Vs}{x:Str}{st:Qm}(e:wZ K x=CD x st):∃ f fd,WU K gV x=some (some (.ref f))/\Gg K x x st f fd/\∃ oc od sl,K.lookup f=some ⟨oc,od,.func fd,sl⟩:=by
 unfold wZ CD at e;split at e
 ·rename_i f hf;split at e
  ·rename_i oc od fd sl hl;obtain⟨nm,qn,pm,bd,sc,gl,cl,df,kd,dc,py,an,cd,ct,bl⟩:=fd;simp only[SD,Sz] at e;obtain⟨rfl,rfl,rfl,rfl,rfl,rfl,rfl,rfl,rfl,hc⟩:=e;exact⟨f,_,hf,⟨⟨oc,od,kd,dc,py,an,cd,ct,sl,rfl,hl,hc⟩,by simp only[keepIn,hl]⟩,oc,od,sl,hl⟩
  ·cases e
 ·cases e
def tab0At(h:û)(T:Ë):Bool:=match h.get? T with
 |some o=>oI o|none=>false
theorem Ai{h:û}{T:Ë}(e:tab0At h T=true):h.get? T=some (tabObj #[]):=by
 unfold tab0At at e;split at e
 ·rename_i o ho;rw[ho,Fu e]
 ·cases e
def w6(h:û)(K:Vs)(x:Str):Option Addr:=match WU K gV x with
 |some (some (.ref at0))=>(match K.lookup at0 with
  |some ⟨_,_,.func fn0,_⟩=>(match fn0.code with
   |.ref c=>(match K.lookup c with
    |some ⟨_,_,.fields vs,_⟩=>(match (vs[11]?:Option Ä) with
     |some (.ref T)=>if codeHdIn K c T&&tab0At h T then some T else none
     |_=>none)
    |_=>none)
   |_=>none)
  |_=>none)
 |_=>none
theorem w9{h:û}{K:Vs}{x:Str}{T:Ë}(e:w6 h K x=some T):h.get? T=some (tabObj #[])/\∃ f oc od fd sl c,WU K gV x=some (some (.ref f))/\K.lookup f=some ⟨oc,od,.func fd,sl⟩/\fd.code=.ref c/\codeHdIn K c T=true:=by
 unfold w6 at e;split at e
 ·rename_i f hf;split at e
  ·rename_i oc od fd sl hl;split at e
   ·rename_i c hc;split at e
    ·split at e
     ·rename_i T' _;split at e
      ·rename_i q;cases e;rw[Á] at q;obtain⟨q1,q2⟩:=q;exact⟨Ai q2,f,oc,od,fd,sl,c,hf,hl,hc,q1⟩
      ·cases e
     ·cases e
    ·cases e
   ·cases e
  ·cases e
 ·cases e
def qG(K:Vs)(x:Str):Option Addr:=match WU K gV x with
 |some (some (.ref f))=>some f|_=>none
theorem CF{K:Vs}{x:Str}{f:Ë}(e:qG K x=some f):WU K gV x=some (some (.ref f)):=by
 unfold qG at e;split at e
 ·cases e;assumption
 ·cases e
def yF(K:Vs)(C:Ë):Bool:=excIn K C [.type "ValueError",.type "Exception",.type "BaseException",.type "object"] "ValueError.__new__"
def CG(_:Str):Bool:=true
def sC(K:Vs)(x:Str):Option Int:=match WU K gV x with
 |some (some (.int i _))=>some i|_=>none
theorem u4{K:Vs}{x:Str}{i:Int}(e:sC K x=some i):∃ t,WU K gV x=some (some (.int i t)):=by
 unfold sC at e;split at e
 ·rename_i t h;cases e;exact⟨t,h⟩
 ·cases e
def sD(K:Vs)(x:Str):Bool:=match WU K gV x with
 |some none=>true|_=>false
theorem u5{K:Vs}{x:Str}(e:sD K x=true):WU K gV x=some none:=by
 unfold sD at e;split at e
 ·assumption
 ·cases e
structure kK where
 ds:List (Str × Stmt)
 is:List (Str × Int)
 ns:List Str
 ms:List Str
 cs:List Str
def kK.obs(q:kK)(s:É) :=
 let K:=fragOf s.heap
 (q.ds.map λd=>wZ K d.1,q.is.map λd=>sC K d.1,q.ns.map (sD K),q.ms.map λx=>(w6 s.heap K x).isSome,q.cs.map λx=>(qG K x).map (yF K),
  (specialIn K (.builtin "object.__class__") "__get__",takesIn K (.builtin "object.__class__")))
def kK.Ms(q:kK)(_:ü) :=
 (q.ds.map λd=>CD d.1 d.2,q.is.map λd=>some d.2,q.ns.map λ_=>true,q.ms.map λ_=>true,q.cs.map λx=>some (CG x),
  (some (some (Ä.builtin "getset_descriptor.__get__")),some true))
structure Facts(q:kK)(K:Frag)(h:Heap):Prop where
 fn:∀ d∈q.ds,∃ f fd,nsIn K mainGlobals d.1=some (some (.ref f))/\Gg K d.1 d.1 d.2 f fd/\∃ oc od sl,K.lookup f=some ⟨oc,od,.func fd,sl⟩
 it:∀ d∈q.is,∃ t,nsIn K mainGlobals d.1=some (some (.int d.2 t))
 no:∀ x∈q.ns,nsIn K mainGlobals x=some none
 mt:∀ x∈q.ms,∃ T,h.get? T=some (tabObj #[])/\K.lookup T=none/\∃ f oc od fd sl c,nsIn K mainGlobals x=some (some (.ref f))/\K.lookup f=some ⟨oc,od,.func fd,sl⟩/\fd.code=.ref c/\codeHdIn K c T=true
 cl:∀ x∈q.cs,∃ C,nsIn K mainGlobals x=some (some (.ref C))/\yF K C=CG x
 sp:specialIn K (.builtin "object.__class__") "__get__"=some (some (Value.builtin "getset_descriptor.__get__"))
 tk:takesIn K (.builtin "object.__class__")=some true
theorem oJ{α β:Type}{f g:α->β}:∀ {l:List α},l.map f=l.map g->∀ a∈l,f a=g a:=λ{l} h a ha=>List.map_inj_left.mp h a ha
theorem kK.facts(q:kK)(w:ü)(s:É)(e:q.obs s=q.Ms w):Facts q (fragOf s.heap) s.heap:=by
 unfold kK.obs kK.Ms at e;simp only[SD] at e;obtain⟨e1,e2,e3,e4,e5,e6,e7⟩:=e;refine⟨λd hd=>u3 (oJ e1 d hd),λd hd=>u4 (oJ e2 d hd),λx hx=>u5 (oJ e3 x hx),λx hx=>?_,λx hx=>?_,e6,e7⟩
 ·obtain⟨T,hT⟩:=Ux.mp (oJ e4 x hx);obtain⟨h1,h2⟩:=w9 hT;exact⟨T,h1,wY h1 rfl,h2⟩
 ·obtain⟨C,h1,h2⟩:=Ï.mp (oJ e5 x hx);exact⟨C,CF h1,h2⟩
def kK.hook(q:kK):Hook where
 α:=_
 obs:=q.obs
 val:=q.Ms
 says:=λ_ h=>∃ K:Vs,K.In h/\Facts q K h
 of:=λw s e=>⟨_,Ah _,q.facts w s e⟩
 keeps:=λ_ h h' ⟨K,X,F⟩ k=>⟨K,X.keeps k,⟨F.fn,F.it,F.no,λx hx=>let ⟨T,a,b⟩:=F.mt x hx;⟨T,k _ _ a,b⟩,F.cl,F.sp,F.tk⟩⟩
end L2
namespace Q
open PySem L2 PySem.Spec PyProof.Rows
structure Row where
 nm:Str
 ps:List Str
 st:Stmt
 N:List Str
 b:Sm
 lm:Bool
def xc(N ps:List Str)(sc:ON):Bool:=sc.kind == .function&&!sc.isCoroutine&&!sc.isGenerator&&decide N.Nodup&&N.take ps.length == ps&&ps.all (λx=>sc.names.lookup x == some .local || sc.names.lookup x == some .cell)&&sc.names.all λy=>y.2 != .free
theorem u6(h:xc N ps sc=true):gv N ps sc:=by
 unfold xc at h;simp only[Á,ô,beq_iff_eq,PZ,decide_eq_true_eq,Ph] at h;obtain⟨⟨⟨⟨⟨⟨h1,h2⟩,h3⟩,h4⟩,h5⟩,h6⟩,h7⟩:=h;exact⟨h1,h2,h3,h4,h5,h6,λy hy=>by simpa using h7 y hy⟩
def CI(r:Row):Prop:=∀ (kV doc pm:Ä) (an:Option Ë) (cdv ct:Ä) (us:List Ä),us.length=r.ps.length->bindArgs (fnOf r.nm r.nm (mW r.st) (fq r.st) (bq r.st) .none kV doc pm an cdv ct) ⟨us,[]⟩=pure (r.ps.zip us)
def fv:List Row->Prop
 |[]=>True|r::l=>CI r/\fv l
theorem fv.at:∀ {l:List Row}{r:Row},fv l->r∈l->CI r
 |_::_,_,h,.head _=>h.1|_::_,_,h,.tail _ m=>fv.at h.2 m
theorem OB(h:us.length=1):∃ a,us=[a]:=Qo.mp h
theorem OC(h:us.length=2):∃ a b,us=[a,b]:=by
 match us,h with
 |[a,b],_=>exact⟨a,b,rfl⟩
theorem OD(h:us.length=3):∃ a b c,us=[a,b,c]:=by
 match us,h with
 |[a,b,c],_=>exact⟨a,b,c,rfl⟩
theorem OE(h:us.length=4):∃ a b c d,us=[a,b,c,d]:=by
 match us,h with
 |[a,b,c,d],_=>exact⟨a,b,c,d,rfl⟩
def Aj(fns:List (Str × List Str))(nums:List (Str × Int))(cn:List Str)(r:Row):Bool:=DO r.lm fns nums cn (bq r.st) r.N r.b (fq r.st)&&isQ r.b&&r.N.all (gG (bq r.st))&&xc r.N r.ps (bq r.st)
def jv(rows:List Row):List (Str × List Str):=rows.map λr=>(r.nm,r.ps)
def tabOf(rows:List Row):List Df:=rows.map λr=>Df.code r.ps.length r.N.length r.b
def oK(rows:List Row)(nums:List (Str × Int))(cn:List Str):kK:=⟨rows.map (λr=>(r.nm,r.st)),nums,wI,[],cn⟩
def clsAt(K:Â)(cn:List Str)(c:Nat):Addr:=(qG K (cn.getD c "")).getD 0
theorem Je{K:Â}{C:Ë}{cn:List Str}{c:Nat}{x:Str}(hc:cn[c]?=some x)(h:WZ K gV x=some (some (.ref C))):clsAt K cn c=C:=by
 unfold clsAt;rw[Ê,hc];show(qG K x).getD 0=C;unfold qG;rw[h];rfl
section
variable {P:í}{w:ü}{K:Â}{mg:Str->Option Ä}{base:û}
theorem OF(F:lB P w K mg base (pO P w) k f fd ps sp):lB P w K mg base Me k f fd ps (λvs H Q _=>sp vs H Q λ_ _ _=>False) :=
 ⟨λvs H Q E h=>F.len _ _ _ _ h,λA outer s H args us vs Q E hr he hb hv hs=>Rq (F.run A outer s H args us vs Q _ hr he hb hv hs) λr s' h=>by
  cases r with
  |error e =>
   obtain⟨_,_,_,_,_,_,_,_,_,_,_,_,_,hE⟩:=h;exact hE.elim
  |ok fl=>cases fl <;> exact h⟩
theorem NQ:Yb (#[]:Array Ä).toList:=by first | trivial | (unfold Yb;trivial)
theorem cJ.AK[TB:Tb](h:cJ K H a xs):cJ K (hz none H) a xs:=by
 rcases h with (h | ⟨o,h⟩) | h
 ·exact .inl (.inl (bu h (λq=>nomatch q)))
 ·exact .inl (.inr ⟨o,bu h (λq=>nomatch q)⟩)
 ·exact .inr h
theorem Jf[TB:Tb]{G:Gs}{T:List Df}{k f:Nat}{H:Hp}{a:Ë}{ns:List Int}(pure:ao T k f [.d (.lst (ns.map D.int))] none=some (.ok (.d (.bl true)) none))(hH:∀ p∈TB.tb,H p.1=some (.fj #[]))(hS:cJ K H a (ns.map V.int)) :
  Ij K (Gx G T k) f 1 [.ref a] H (λv _=>v=.bl true) λ_ _ _=>False:=by
 refine⟨rfl,none,none,[.d (.lst (ns.map D.int))],_,.cons ?_ .nil,⟨trivial,λp hp=>⟨#[],hH p hp,NQ,λpos c e=>nomatch e⟩⟩,pure,λv H' x st rv=>Hd.vN (show Hd K (hz none H') (.bl true) v from rv)⟩;show Hd K (hz none H) (.lst (ns.map D.int)) (.ref a);unfold Hd;exact⟨a,ns.map V.int,rfl,hS.AK,aJ.ints ns⟩
end
theorem Jg{rows:List Row}{f:Nat}{nm:Str}{ps:List Str}(h:(jv rows)[f]?=some (nm,ps)):∃ r∈rows,rows[f]?=some r/\r.nm=nm/\r.ps=ps:=by
 unfold jv at h;rw[è] at h;obtain⟨r,h1,h2⟩:=Ï.mp h;cases h2;exact⟨r,p5 h1,h1,rfl,rfl⟩
section
variable [TB:Tb] {P:í}{w:ü}{K:Â}{h:û}{mg:Str->Option Ä}{base:û}{rows:List Row}{nums:List (Str × Int)}{cn:List Str}
theorem Fv(Q:Facts (oK rows nums cn) K h):∀ c x,cn[c]?=some x->WZ K gV x=some (some (.ref (clsAt K cn c)))/\RN K (clsAt K cn c) [.type "ValueError",.type "Exception",.type "BaseException",.type "object"] "ValueError.__new__"=true:=λc x hc=>by
 obtain⟨C,h1,h2⟩:=Q.cl x (p5 hc);rw[Je hc h1];exact⟨h1,h2⟩
theorem Fw(X:K.In h)(Gn:h.Ns gV mg)(Q:Facts (oK rows nums cn) K h)(ok:rows.all (Aj (jv rows) nums cn)=true)(bd:fv rows)(F0:FT):∀ k,GX P w K mg base (Gx ⟨jv rows,nums,F0,clsAt K cn,0⟩ (tabOf rows) k) cn:=by
 refine Jc (λp hp=>?_) (λn hn=>?_) (λc x hc=>?_) λf nm ps hf=>?_
 ·obtain⟨t,e⟩:=Q.it p hp;exact⟨t,mg_of X Gn e⟩
 ·exact PySem.W.mg_none_of X Gn (Q.no n hn)
 ·obtain⟨h1,h3⟩:=Fv Q c x hc;exact⟨mg_of X Gn h1,h3⟩
 ·obtain⟨r,hr,hr2,rfl,rfl⟩:=Jg hf;obtain⟨fa,fd,a1,F1,oc,od,sl,lk⟩:=Q.fn (r.nm,r.st) (Î.mpr ⟨r,hr,rfl⟩);have rb:=á.mp ok r hr;unfold Aj at rb;simp only[Á] at rb;obtain⟨⟨⟨b1,b2⟩,b3⟩,b4⟩:=rb;refine⟨fa,fd,mg_of X Gn a1,F1.kp,F1.binds (bd.at hr),.inl ⟨r.lm,r.N,r.st,r.b,?_,F1,u6 b4,b3,b2,b1⟩⟩;unfold tabOf;rw[è,hr2];rfl
theorem Jh(X:K.In h)(Gn:h.Ns gV mg)(Q:Facts (oK rows nums cn) K h)(ok:rows.all (Aj (jv rows) nums cn)=true)(bd:fv rows)(F0:FT)(k:Nat){i:Nat}{r:Row}(hi:rows[i]?=some r){fa:Ë}{fd:Q8}(F1:Gg K r.nm r.nm r.st fa fd):lB P w K mg base (pO P w) (k + 3) fa fd r.ps (Ij K (Gx ⟨jv rows,nums,F0,clsAt K cn,0⟩ (tabOf rows) (k + 3)) i r.ps.length):=by
 have hr:=p5 hi;have rb:=á.mp ok r hr;unfold Aj at rb;simp only[Á] at rb;obtain⟨⟨⟨b1,b2⟩,b3⟩,b4⟩:=rb;refine yE (G:=Gx ⟨jv rows,nums,F0,clsAt K cn,0⟩ (tabOf rows) (k + 2)) (F':=jo (tabOf rows) (k + 3)) (Fw X Gn Q ok bd F0 (k + 2)) F1 (u6 b4) b3 b1 b2 λl z=>?_;show(match (tabOf rows)[i]? with | some d=>run (jo (tabOf rows) (k + 2)) d l | none=>M.no) z=_
 unfold tabOf;rw[è,hi];rfl
end
theorem Ak{P:í}{w:ü}{K:Â}{mg mb:Str->Option Ä}{k:Nat}{fa a:Ë}{fd:Q8}{x:Str}{sp:Sp}{s₁:É}{vs:List Ä}{ns:List Int}{ts:List Ë}
  (KX:K.In s₁.heap) (hns:s₁.heap.Ns gV mg) (hb:s₁.heap.Ns Vc mb) (hbb:∀ x:Str,x≠"__name__"->mb x=ù x) (hlim:s₁.heap.NoLimit) (hg:s₁.gens=#[])
  (ha:s₁.heap.get? a=some { cls:=.type "list",data:=.seq vs.toArray }) (hi:Q9 vs ns) (hl:ns.length<=sizeLine) (hr:iy k Uk)
  (hT:∀ Pt∈ts,s₁.heap.get? Pt=some (T1 #[])/\K.lookup Pt=none/\∃ c,Ta K c Pt=true) (bmn:BMain mg s₁.heap)
  (F:∀ base:û,K.In base->base.Ns gV mg->BMain mg base->lB P w K mg base Me k fa fd [x] sp) (hbind:∀ (s:É) (u:Ä),WA s fd ⟨[u],[]⟩ [(x,u)])
  (hsp:∀ H:Hp,(∀ Pt∈ts,H Pt=some (.fj #[]))->cJ K H a (ns.map V.int)->sp [.ref a] H (λv _=>v=.bl true) λ_ _ _=>False) :
  Qc (Ù P w) Uk (.call (.ref fa) ⟨[.ref a],[]⟩) (λr s'=>r=.ok (.ret (.bool true))/\OldK s₁.heap s'.heap/\s'.os=s₁.os/\SK s'.gens) s₁:=by
 have rv:=qt hi;have lenV:=hi.length;have naT:a ∉ ts:=λh=>by have:=(hT a h).1;rw[ha] at this;cases this
 have core:∀ H:Hp,(∀ Pt∈ts,H Pt=some (.fj #[]))->(∀ b,H b=none∨b∈ts∨(b=a/\∃ xs,H b=some (.frz { cls:=.type "list",data:=.seq vs.toArray } (.lst xs))))->cJ K H a (ns.map V.int)->jr P w H s₁.heap->(H a≠none->K.lookup a=none) ->
   Qc (Ù P w) Uk (.call (.ref fa) ⟨[.ref a],[]⟩) (λr s'=>r=.ok (.ret (.bool true))/\OldK s₁.heap s'.heap/\s'.os=s₁.os/\SK s'.gens) s₁:=by
  intro H hH hO hS bx hK;have plainN:∀ {b:Ë}{o:Obj},s₁.heap.get? b=some o->(∀ xs n,o.data≠.seq xs n)->(∀ xs,o.data≠.fields xs)->H b=none:=λ{b o} e d1 d2=>by
   rcases hO b with z | z | ⟨z,_⟩
   ·exact z
   ·have:=(hT b z).1;rw[e] at this;cases this;exact absurd rfl (d2 _)
   ·rw[z,ha] at e;cases e;exact absurd rfl (d1 _ _)
  have nsK:∀ {b:Ë}{m:Str->Option Ä},s₁.heap.Ns b m->(rh s₁.heap H).Ns b m:=λ{b m} ⟨o,es,ep,e,d,r⟩=>⟨o,es,ep,nM e (plainN e (λxs n z=>by rw[d] at z;cases z) λxs z=>by rw[d] at z;cases z),d,r⟩
  have hKb:K.In (rh s₁.heap H):=λb o e=>nM (KX b o e) (by
   rcases hO b with z | z | ⟨z,xs,z2⟩
   ·exact z
   ·rw[(hT b z).2.1] at e;cases e
   ·rw[z] at e z2;rw[hK (by rw[z2];exact λy=>nomatch y)] at e;cases e)
  have hM:Mod K mg (rh s₁.heap H):=⟨hKb,nsK hns,⟨mb,nsK hb,hbb⟩,let ⟨mc,h1,h2⟩:=hlim;⟨mc,nsK h1,h2⟩⟩;have hBM:BMain mg (rh s₁.heap H):=by
   obtain⟨bm,ob,b1,b2,b3,b4,b5,b6⟩:=bmn;exact⟨bm,ob,b1,b2,nM b3 (plainN b3 (λxs n z=>by rw[b6] at z;cases z) λxs z=>by rw[b6] at z;cases z),b4,b5,b6⟩
  have e0:DZ P w K mg (rh s₁.heap H) Uk [] s₁ H:=⟨rfl,hM,λb o e=>DQ e,Vi (zf _ _),trivial,λb hb=>absurd (show b∈([]:List Ë) from hb) (by simp),bx,.of_eq hg⟩
  refine Rq ((F _ hKb (nsK hns) hBM).run Uk [] s₁ H ⟨[.ref a],[]⟩ [.ref a] [.ref a] _ _ hr e0 (hbind s₁ (.ref a)) (.cons rfl .nil) (hsp H hH hS)) λr s' h=>?_;cases r with
  |error e=>exact Qd h
  |ok fl =>
   cases fl with
   |next=>exact Qd h
   |brk=>exact Qd h|cont=>exact Qd h
   |ret u =>
    obtain⟨v,H',os,bare,un,hok',r',q⟩:=h;have q':v=.bl true:=q;subst q';obtain rfl:u=QD true:=r';refine⟨rfl,⟨λb o e=>?_,λb o e=>un.there b o e (by simp)⟩,os,bare⟩
    rcases hO b with z | z | ⟨z,xs,z2⟩
    ·exact .inl (un.keep b o e z (by intro y;exact absurd (show b∈([]:List Ë) from y) (by simp)) (by simp))
    ·obtain⟨t1,_,c,t2⟩:=hT b z;rw[e] at t1;cases t1;obtain⟨more,m1⟩:=un.tbls b _ (hH b z);have m2:s'.heap.get? b=some { cls:=.none,data:=.fields (#[]++more) }:=hok' b _ m1;have CH:=PySem.W.codeHd_of_K KX t2;exact .inr (.inl ⟨(CH.tab e).isCodeTable,rfl,#[],more,rfl,m2⟩)
    ·have z3:=un.frzs b _ _ z2;obtain⟨e1,_⟩:=bx b _ z2;obtain⟨e2,_⟩:=hok' b _ z3;rw[e] at e1;cases e1;exact .inl e2
 cases hk:K.lookup a with
 |some o =>
  have e:=KX a o hk;rw[ha] at e;cases e;refine core (λb=>if b∈ts then some (.fj #[]) else none) (λPt h=>if_pos h) (λb=>?_) (.inr ⟨vs.toArray,_,hk,by rw[ß,lenV];exact hl,by simpa using rv⟩) (λb u z=>?_) λz=>absurd (if_neg naT) z
  ·by_cases h:b∈ts
   ·exact .inr (.inl h)
   ·exact .inl (if_neg h)
  ·by_cases h:b∈ts
   ·have z':=(if_pos h).symm.trans z;cases z';exact(hT b h).1
   ·have z':=(if_neg h).symm.trans z;cases z'
 |none =>
  refine core (λb=>if b=a then some (.frz { cls:=.type "list",data:=.seq vs.toArray } (.lst (ns.map V.int))) else if b∈ts then some (.fj #[]) else none) (λPt h=>?_) (λb=>?_) (.inl (.inr ⟨{ cls:=.type "list",data:=.seq vs.toArray },if_pos rfl⟩)) (λb u z=>?_) λ_=>hk
  ·rw[if_neg (λy=>naT (by rw[← y];exact h)),if_pos h]
  ·by_cases hb:b=a
   ·exact .inr (.inr ⟨hb,_,if_pos hb⟩)
   ·by_cases h:b∈ts
    ·exact .inr (.inl h)
    ·exact .inl (by rw[if_neg hb,if_neg h])
  ·by_cases hb:b=a
   ·have z':=(if_pos hb).symm.trans z;cases z';subst hb;exact⟨ha,by rw[Ç];exact hl,vs,_,rv,ha⟩
   ·replace z:=(if_neg hb).symm.trans z
    by_cases h:b∈ts
    ·have z':=(if_pos h).symm.trans z;cases z';exact(hT b h).1
    ·have z':=(if_neg h).symm.trans z;cases z'
theorem CJ{l:V1}{n k:Nat}{q:í}{loose:List Str}{XP:(Str->Option Ä)->û->Prop}{d:DefRec}{A:kK}{x:Str}
  (hn:l.most=some n) (hn2:n<=sizeLine) (hdf:d.params.defaults=[]) (hr:iy k Uk)
  (F:∀ (w:ü) (mg:Str->Option Ä) (fa:Ë) (h:û) (K:Â),Facts A K h->K.In h->h.Ns gV mg->mg d.name=some (.ref fa) ->
   ∃ (fd:Q8) (ts:List Ë) (sp:Sp),(∀ Pt∈ts,h.get? Pt=some (T1 #[])/\K.lookup Pt=none/\∃ c,Ta K c Pt=true)/\(∀ (s:É) (u:Ä),WA s fd ⟨[u],[]⟩ [(x,u)]) /\
    (∀ base:û,K.In base->base.Ns gV mg->BMain mg base->lB l.prog w K mg base Me k fa fd [x] sp) /\
    ∀ (H:Hp) (a:Ë) (ns:List Int),ns.length<=n->(∀ Pt∈ts,H Pt=some (.fj #[]))->cJ K H a (ns.map V.int)->sp [.ref a] H (λv _=>v=.bl true) λ_ _ _=>False) :
  PySem.W.WalkO q loose XP A.hook.says l.row.toRowW d [] (λf vs=>Yd f vs):=by
 refine Att.tO hn hdf λw s₀ s₁ mg mb fa o pm cd doc a vs ns G Y ho hd hcd hmg hobj hints hlen hg=>?_;obtain⟨K,KX,FX⟩:=Y;obtain⟨fd,ts,sp,hT,hb,hF,hsp⟩:=F w mg fa _ K FX KX G.T.g hmg;exact Ak KX G.T.g G.T.b G.T.builtins G.T.nolimit hg hobj hints (ã hlen hn2) hr hT G.T.bmain hF hb λH hH hS=>hsp H a ns hlen hH hS
theorem Fx{l:V1}{rows:List Row}{nums:List (Str × Int)}{cn:List Str}{k iL n:Nat}{rL:Row}(ok:rows.all (Aj (jv rows) nums cn)=true)(bd:fv rows)(hL:rows[iL]?=some rL)(hn:rL.nm="law")(hp:rL.ps=[("_law_script":Str)])
  (pure:∀ ns:List Int,ns.length<=n->ao (tabOf rows) (k + 3) iL [.d (.lst (ns.map D.int))] none=some (.ok (.d (.bl true)) none)) (w:ü) (mg:Str->Option Ä) (fa:Ë) (h:û) (K:Â) (Q:Facts (oK rows nums cn) K h) (X:K.In h) (Gn:h.Ns gV mg) (hfa:mg "law"=some (.ref fa)) :
   ∃ (fd:Q8) (ts:List Ë) (sp:Sp),(∀ Pt∈ts,h.get? Pt=some (T1 #[])/\K.lookup Pt=none/\∃ c,Ta K c Pt=true)/\(∀ (s:É) (u:Ä),WA s fd ⟨[u],[]⟩ [("_law_script",u)]) /\
    (∀ base:û,K.In base->base.Ns gV mg->BMain mg base->lB l.prog w K mg base Me (k + 3) fa fd ["_law_script"] sp) /\
    ∀ (H:Hp) (a:Ë) (ns:List Int),ns.length<=n->(∀ Pt∈ts,H Pt=some (.fj #[]))->cJ K H a (ns.map V.int)->sp [.ref a] H (λv _=>v=.bl true) λ_ _ _=>False:=by
 have hrL:rL∈rows:=p5 hL;obtain⟨fL,fdL,aL,FL,ocL,odL,slL,lkL⟩:=Q.fn (rL.nm,rL.st) (Î.mpr ⟨rL,hrL,rfl⟩);have bL:=bd.at hrL;have e:=hfa.symm.trans (mg_of X Gn (by rw[← hn];exact aL))
 cases e;have bT:∀ (s:É) (u:Ä),WA s fdL ⟨[u],[]⟩ [("_law_script",u)]:=by
  obtain⟨_,_,kV,doc,pm,an,cdv,ct,_,e,_,_⟩:=FL.ex;subst e;intro s u;have:=bL kV doc pm an cdv ct [u] (by rw[hp];rfl)
  rw[hp] at this;exact .of_eq this
 let TB:Tb:=⟨[]⟩
 refine⟨fdL,[],λvs H Q _=>Ij K (Gx ⟨jv rows,nums,λ_ _ _=>M.no,clsAt K cn,0⟩ (tabOf rows) (k + 3)) iL 1 vs H Q λ_ _ _=>False,λp hp=>(nomatch hp),bT,λbase kb nb bm=>?_,λH a ns hl hH hS=>Jf (pure ns hl) (λp hp=>nomatch hp) hS⟩;have F:=OF (Jh (P:=l.prog) (w:=w) (base:=base) X Gn Q ok bd (λ_ _ _=>M.no) k hL FL);rw[hp] at F;exact F
end Q
namespace Q
open L2 (D)
open PySem (Paired)
def sE:Ex->Bool
 |.var _=>false|_=>true
def NR:Ex->Env->Option (Option S)
 |.var i,ρ=>ρ[i]?|_,_=>none
def LM:Option (Option S)->Option S
 |some (some s)=>EK s|_=>none
def NT:S->Option Bool
 |.d (.bl b)=>some b|_=>none
abbrev Du{α:Type}(_:α->Z->Prop)(_:Nat->Z->Prop):Type:=Unit
abbrev Dv{α:Type}(_:α->Prop):Type:=Unit
structure W{α:Type}(m:M α)(z:Z)(Q:α->Z->Prop)(E:Nat->Z->Prop)(du:Du Q E:=()):Prop where
 ex:∃ r,m z=some r/\match r with
  |.ok a z1=>Q a z1|.er c z1=>E c z1
theorem Ji{α:Type}{m:M α}{Q:α->Z->Prop}:W m z Q E↔∃ r,m z=some r/\match r with
  |.ok a z1=>Q a z1|.er c z1=>E c z1:=⟨W.ex,W.mk⟩
abbrev NE:Nat->Z->Prop:=λ_ _=>False
def bS{α:Type}(o:Option α)(P:α->Prop)(_:Dv P:=()):Prop:=match o with
 |some a=>P a|none=>False
theorem Gy{α:Type}{a:α}{P:α->Prop}:bS (some a) P↔P a:=Tv
theorem dG{α:Type}{o:Option α}{P:α->Prop}(h:bS o P):∃ a,o=some a/\P a:=by
 cases o with
 |none=>exact h.elim|some a=>exact⟨a,rfl,h⟩
theorem af{α:Type}{o:Option α}{a:α}{P:α->Prop}(h:o=some a)(hp:P a):bS o P:=by rw[h];exact hp
section
variable {α β:Type}{m:M α}{z z1:Z}{Q Q':α->Z->Prop}{E E':Nat->Z->Prop}
theorem W.mono(h:W m z Q E)(hq:∀ a z,Q a z->Q' a z)(he:∀ c z,E c z->E' c z):W m z Q' E':=by
 obtain⟨r,e,h⟩:=h;refine⟨r,e,?_⟩;cases r with
 |ok a z1=>exact hq _ _ h|er c z1=>exact he _ _ h
theorem W.imp(h:W m z Q NE)(hq:∀ a z,Q a z->Q' a z):W m z Q' E':=h.mono hq λ_ _ h=>h.elim
theorem W.ok{a:α}(h:W m z (λb z2=>b=a/\z2=z1) NE):m z=some (.ok a z1):=by
 obtain⟨r,e,h⟩:=h;cases r with
 |ok b z2=>obtain⟨rfl,rfl⟩:=h;exact e
 |er c z2=>exact h.elim
theorem LN{a:α}(h:m z=some (.ok a z1)):W m z Q E↔Q a z1:=by
 rw[Ji];constructor
 ·rintro ⟨r,e,q⟩;rw[h] at e;cases e;exact q
 ·exact λq=>⟨_,h,q⟩
theorem NU{c:Nat}(h:m z=some (.er c z1)):W m z Q E↔E c z1:=by
 rw[Ji];constructor
 ·rintro ⟨r,e,q⟩;rw[h] at e;cases e;exact q
 ·exact λq=>⟨_,h,q⟩
theorem ij{a:α}:W (M.ret a) z Q E↔Q a z:=LN rfl
theorem CK:W (M.no:M α) z Q E↔False:=⟨λ⟨_,e,_⟩=>(by cases e),Qd⟩
theorem eY{f:α->M β}{Q:β->Z->Prop}:W (M.bind m f) z Q E↔W m z (λa z1=>W (f a) z1 Q E) E:=by
 constructor
 ·rintro ⟨r,e,q⟩;unfold M.bind at e;split at e
  ·rename_i a z1 e1;exact⟨_,e1,r,e,q⟩
  ·rename_i c z1 e1;cases e;exact⟨_,e1,q⟩
  ·cases e
 ·rintro ⟨r,e,q⟩;cases r with
  |ok a z1 =>
   obtain⟨r,e2,q⟩:=q;refine⟨r,?_,q⟩;unfold M.bind;rw[e];exact e2
  |er c z1 =>
   refine⟨.er c z1,?_,q⟩;unfold M.bind;rw[e]
theorem CL:W (M.calm m) z Q E↔W m z Q NE:=by
 rw[Ji,Ji];unfold M.calm;constructor
 ·rintro ⟨r,e,q⟩;split at e
  ·rename_i a z1 e1;cases e;exact⟨_,e1,q⟩
  ·cases e
 ·rintro ⟨r,e,q⟩;cases r with
  |ok a z1=>exact⟨.ok a z1,by rw[e],q⟩|er c z1=>exact q.elim
theorem Fy(h:∀ a z,Q a z↔Q' a z):W m z Q E↔W m z Q' E:=⟨λx=>x.mono (λa z=>(h a z).mp) λ_ _ h=>h,λx=>x.mono (λa z=>(h a z).mpr) λ_ _ h=>h⟩
theorem wR{a:α}:Q a z↔W (M.ret a) z Q E:=ij.symm
theorem wN:False↔W (M.no:M α) z Q E:=CK.symm
theorem wT{c:Prop}[Decidable c]{a b:M α}{A B:Prop}(h1:A↔W a z Q E)(h2:B↔W b z Q E):(if c then A else B)↔W (if c then a else b) z Q E:=by
 split <;> assumption
theorem wG{o:Option β}{f:β->M α}{K:β->Prop}(h:∀ a,K a↔W (f a) z Q E):bS o K↔W (M.bind (M.of o) f) z Q E:=by
 cases o with
 |none=>exact CK.symm|some a=>exact h a
theorem wB{m:M β}{f:β->M α}{V:Prop}{K:β->Z->Prop}(h1:V↔W m z K E)(h2:∀ a z1,K a z1↔W (f a) z1 Q E):V↔W (M.bind m f) z Q E:=h1.trans ((Fy h2).trans eY.symm)
end
def Wm{α:Type}(o:Option (R α))(Q:α->Z->Prop)(E:Nat->Z->Prop):Prop:=match o with
 |some (.ok a z1)=>Q a z1|some (.er c z1)=>E c z1|none=>False
theorem wM{α:Type}{m:M α}{z:Z}{Q:α->Z->Prop}{E:Nat->Z->Prop}:Wm (m z) Q E↔W m z Q E:=by
 rw[Ji];unfold Wm;cases h:m z with
 |none=>exact⟨Qd,λ⟨_,e,_⟩=>by cases e⟩
 |some r =>
  refine⟨λq=>⟨r,rfl,?_⟩,λ⟨_,e,q⟩=>?_⟩
  ·cases r <;> exact q
  ·cases e;cases r <;> exact q
def Vr(o:Option (Option S))(z:Z)(Q:List S->Z->Prop)(_:Du Q NE:=()):Prop:=match o with
 |some (some s)=>Q [gA s] z|_=>False
def WV:FT->Ex->Env->Z->(List S->Z->Prop)->(Nat->Z->Prop)->Prop
 |F,.nil=>λρ z Q E=>Q [] z|F,.cons a r=>λρ z Q E=>WV F a ρ z (λx z1=>bS (one x) λs=>WV F r ρ z1 (λy z2=>Q (s::y) z2) E) E|F,.con x=>λρ z Q E=>Q [.d x] z|F,.gint g i=>λρ z Q E=>Q [.d (.int i)] z|F,.tup as=>λρ z Q E=>WV F as ρ z (λl z1=>bS (gB l) λds=>if ds.length<=most then Q [.d (.tup ds)] z1 else False) E|F,.lst as=>λρ z Q E=>WV F as ρ z (λl z1=>bS (gB l) λds=>if ds.length<=most then Q [.fr ds] z1 else False) E|F,.bin o a b=>λρ z Q E=>WV F a ρ z (λx z1=>bS (pl x) λdx=>WV F b ρ z1 (λy z2=>bS (pl y) λdy=>bS (dU o dx dy) λs=>Q [s] z2) E) E|F,.cmp o a b=>λρ z Q E=>WV F a ρ z (λx z1=>bS (pl x) λdx=>WV F b ρ z1 (λy z2=>bS (pl y) λdy=>bS (ez o dx dy) λt=>Q [.d (.bl t)] z2) E) E|F,.neg a=>λρ z Q E=>WV F a ρ z (λx z1=>bS ((pl x).bind EJ) λi=>Q [.d (.int (-i))] z1) E|F,.not a=>λρ z Q E=>WV F a ρ z (λx z1=>bS ((pl x).bind ll) λb=>Q [.d (.bl !b)] z1) E|F,.and a b=>λρ z Q E=>WV F a ρ z (λx z1=>bS ((pl x).bind ll) λc=>if c then WV F b ρ z1 (λy z2=>bS ((pl y).bind ll) λc=>Q [.d (.bl c)] z2) E else Q [.d (.bl false)] z1) E|F,.or a b=>λρ z Q E=>WV F a ρ z (λx z1=>bS ((pl x).bind ll) λc=>if c then Q [.d (.bl true)] z1 else WV F b ρ z1 (λy z2=>bS ((pl y).bind ll) λc=>Q [.d (.bl c)] z2) E) E|F,.orT a b=>λρ z Q E=>WV F a ρ z (λx z1=>bS ((pl x).bind qa) λl=>if l.isEmpty then WV F b ρ z1 (λy z2=>bS ((pl y).bind qa) λl=>Q [.d (.tup l)] z2) NE else Q [.d (.tup l)] z1) NE|F,.ite c a b=>λρ z Q E=>WV F c ρ z (λx z1=>bS ((pl x).bind ll) λc=>if c then WV F a ρ z1 Q E else WV F b ρ z1 Q E) E|F,.ch o o' a b c=>λρ z Q E=>WV F a ρ z (λx z1=>bS (pl x) λdx=>WV F b ρ z1 (λy z2=>bS (pl y) λdy=>bS (ez o dx dy) λt=>if t then WV F c ρ z2 (λw z3=>bS (pl w) λdw=>bS (ez o' dy dw) λt=>Q [.d (.bl t)] z3) E else Q [.d (.bl false)] z2) E) E|F,.bf f as=>λρ z Q E=>WV F as ρ z (λl z1=>bS (gB l) λds=>bS (mR f ds) λs=>Q [s] z1) E|F,.isi t a=>λρ z Q E=>WV F a ρ z (λx z1=>bS (pl x) λx=>Q [.d (.bl (EI t x))] z1) E|F,.idx a i=>λρ z Q E=>WV F a ρ z (λx z1=>bS (pl x) λdx=>WV F i ρ z1 (λy z2=>bS (pl y) λdy=>bS (iB dx dy) λr=>Q [.d r] z2) E) E|F,.sl a lo hi=>λρ z Q E=>WV F a ρ z (λx z1=>bS (pl x) λdx=>WV F lo ρ z1 (λu z2=>bS (uj u) λu=>WV F hi ρ z2 (λv z3=>bS (uj v) λv=>bS (Nd dx u v) λs=>Q [s] z3) E) E) E|F,.call f as=>λρ z Q E=>WV F as ρ z (λl z1=>W (F false f (l.map gA)) z1 (λs z2=>Q [s] z2) E) E|F,.comp own aB p it src cond el=>λρ z Q E=>WV F src ρ z (λl z1=>bS ((gB l).bind (qz it)) λxs=>if xs.length<=most then W (turns (d5 (ev F cond) (ev F el) p (ø own none++aB.map λi=>(ρ[i]?).getD none)) xs) z1 (λys z2=>Q [.fr ys] z2) NE else False) E|F,.lrng b as=>λρ z Q E=>WV F as ρ z (λl z1=>bS ((gB l).bind Mm) λxs=>Q [N6 b xs] z1) E|F,.flat a=>λρ z Q E=>WV F a ρ z (λl z1=>bS ((pl l).bind BF) λxs=>Q [.fr xs] z1) E|F,.nP as=>λρ z Q E=>WV F as ρ z (λl z1=>bS (gB l) λds=>bS (BG ds) λs=>Q [s] z1) E|F,.dkeys a=>λρ z Q E=>WV F a ρ z (λl z1=>bS ((pl l).bind BH) λkss=>Q [.ks kss] z1) E|F,.memk o a i=>λρ z Q E=>WV F a ρ z (λl z1=>bS ((pl l).bind zN) λk=>bS (HI ρ[i]?) λkss=>Q [.d (.bl (kss.contains k == o))] z1) E|F,.var i=>λρ z Q E=>Vr ρ[i]? z Q|F,.zget i k=>λρ z Q E=>Wm (uk k ρ[i]? z) Q E
def WE(F:FT)(e:Ex)(ρ:Env)(z:Z)(Q:List S->Z->Prop)(E:Nat->Z->Prop)(_:Du Q E:=()):Prop:=WV F e ρ z Q E
def WX(F:FT)(tp:Bool):Sm->Env->Z->(O->Z->Prop)->(Nat->Z->Prop)->Prop
 |.nil=>λρ z Q E=>Q (.nx ρ) z
 |.seq s r=>λρ z Q E=>WX F tp s ρ z (λo z1=>match o with
  |.nx ρ=>WX F tp r ρ z1 Q E
  |.rt s=>Q (.rt s) z1) E
 |.set p e=>λρ z Q E=>WE F e ρ z (λl z1=>bS (one l) λs=>bS (iC p s (cT s ρ)) λρ'=>Q (.nx ρ') z1) E|.ret e=>λρ z Q E=>if sE e then WE F e ρ z (λl z1=>bS ((one l).bind EK) λs=>Q (.rt s) z1) E else bS (LM (NR e ρ)) λs=>Q (.rt s) z|.iff c t e=>λρ z Q E=>WE F c ρ z (λx z1=>bS ((pl x).bind ll) λb=>if b then WX F tp t ρ z1 Q E else WX F tp e ρ z1 Q E) E|.exp e=>λρ z Q E=>WE F e ρ z (λl z1=>bS (one l) λ_=>Q (.nx ρ) z1) E|.rais c=>λρ z Q E=>E c z|.fr p it src b=>λρ z Q E=>WE F src ρ z (λl z1=>bS ((gB l).bind (qz it)) λxs=>W (jn (λx ρ=>M.bind (M.of (bO p x ρ)) λρ=>ex F tp b ρ) xs (uq it src l ρ)) z1 Q E) E|.whl c b=>λρ z Q E=>W (uo (ev F c) (ex F tp b) zO ρ) z Q E|.zset i e=>λρ z Q E=>WE F e ρ z (λl z1=>bS ((pl l).bind EJ) λv=>Wm (uw ρ v ρ[i]? z1) Q E) E|.app i e=>λρ z Q E=>bS (ownAt ρ i) λxs=>WE F e ρ z (λl z1=>bS (pl l) λx=>if bare x=true/\xs.length < most then Q (.nx (ρ.set i (some (.fr (xs++[x]))))) z1 else False) E|.newz i f as=>λρ z Q E=>WE F (.call f as) ρ z (λl z1=>Wm (uu tp ρ i l) Q E) E|.aug o i e=>λρ z Q E=>bS ((ρ[i]?.getD none).bind BE) λy=>WE F e ρ z (λl z1=>bS ((pl l).bind EJ) λx=>bS ((EJ y).bind λy=>dU o (.int y) (.int x)) λs=>bS (iC (.v i) s (cT s ρ)) λρ=>Q (.nx ρ) z1) E
def WS(F:FT)(tp:Bool)(s:Sm)(ρ:Env)(z:Z)(Q:O->Z->Prop)(E:Nat->Z->Prop)(_:Du Q E:=()):Prop:=WX F tp s ρ z Q E
theorem Jj:∀ (e:Ex) {F:FT}{ρ:Env}{z:Z}{Q:List S->Z->Prop}{E:Nat->Z->Prop},WV F e ρ z Q E↔W (ev F e ρ) z Q E:=by
 intro e
 induction e with
 |nil=>intros;exact wR|cons a r ha hr=>intros;exact wB ha λx z1=>wG λs=>wB hr λy z2=>wR
 |var i =>
  intro F ρ z Q E;show Vr ρ[i]? z Q↔W (match ρ[i]? with | some (some s)=>M.ret [gA s] | _=>M.no) z Q E
  generalize ρ[i]?=o
  match o with
  |some (some s)=>exact wR|some none=>exact wN|none=>exact wN
 |con x=>intros;exact wR|gint g i=>intros;exact wR|tup a ha=>intros;exact wB ha λl z1=>wG λds=>wT wR wN|lst a ha=>intros;exact wB ha λl z1=>wG λds=>wT wR wN|bin o a b ha hb=>intros;exact wB ha λx z1=>wG λdx=>wB hb λy z2=>wG λdy=>wG λs=>wR|cmp o a b ha hb=>intros;exact wB ha λx z1=>wG λdx=>wB hb λy z2=>wG λdy=>wG λs=>wR|neg a ha=>intros;exact wB ha λx z1=>wG λi=>wR|not a ha=>intros;exact wB ha λx z1=>wG λi=>wR|and a b ha hb=>intros;exact wB ha λx z1=>wG λc=>wT (wB hb λy z2=>wG λc=>wR) wR|or a b ha hb=>intros;exact wB ha λx z1=>wG λc=>wT wR (wB hb λy z2=>wG λc=>wR)|orT a b ha hb=>intros;refine Iff.trans ?_ CL.symm;exact wB ha λx z1=>wG λl=>wT (wB hb λy z2=>wG λl=>wR) wR|ite c a b hc ha hb=>intros;exact wB hc λx z1=>wG λc=>wT ha hb|ch o o' a b c ha hb hc=>intros;exact wB ha λx z1=>wG λdx=>wB hb λy z2=>wG λdy=>wG λt=>wT (wB hc λw z3=>wG λdw=>wG λt=>wR) wR|bf f a ha=>intros;exact wB ha λl z1=>wG λds=>wG λs=>wR|isi t a ha=>intros;exact wB ha λx z1=>wG λx=>wR|idx a i ha hi=>intros;exact wB ha λx z1=>wG λdx=>wB hi λy z2=>wG λdy=>wG λr=>wR|sl a l h ha hl hh=>intros;exact wB ha λx z1=>wG λdx=>wB hl λu z2=>wG λu=>wB hh λv z3=>wG λv=>wG λs=>wR|call f a ha=>intros;exact wB ha λl z1=>wB Tv λs z2=>wR|comp own aB p it src cond el hs hc he=>intros;exact wB hs λl z1=>wG λxs=>wT (wB CL.symm λys z2=>wR) wN|zget i k=>intros;exact wM (m:=uk k _)|lrng b a ha=>intros;exact wB ha λl z1=>wG λxs=>wR|flat a ha=>intros;exact wB ha λl z1=>wG λxs=>wR|nP a ha=>intros;exact wB ha λl z1=>wG λds=>wG λs=>wR|dkeys a ha=>intros;exact wB ha λl z1=>wG λxs=>wR|memk o a i ha=>intros;exact wB ha λl z1=>wG λk=>wG λxs=>wR
theorem aX{e:Ex}{F:FT}{ρ:Env}{z:Z}{Q:List S->Z->Prop}{E:Nat->Z->Prop}:WE F e ρ z Q E↔W (ev F e ρ) z Q E:=Jj e
theorem LO{F:FT}{tp:Bool}{ρ:Env}{e:Ex}(h:sE e=true):ex F tp (.ret e) ρ=M.bind (ev F e ρ) λl=>M.bind (M.of ((one l).bind EK)) λs=>M.ret (.rt s):=by
 cases e with
 |var i=>cases h
 |_=>rfl
theorem Jk{F:FT}{tp:Bool}:∀ (s:Sm) {ρ:Env}{z:Z}{Q:O->Z->Prop}{E:Nat->Z->Prop},WX F tp s ρ z Q E↔W (ex F tp s ρ) z Q E:=by
 intro s
 induction s with
 |nil=>intros;exact wR
 |seq s r hs hr =>
  intros;refine wB hs λo z1=>?_;cases o with
  |nx ρ=>exact hr|rt s=>exact wR
 |set p e=>intros;exact wB aX λl z1=>wG λs=>wG λρ'=>wR
 |ret e =>
  intro ρ z Q E;show(if sE e then _ else _)↔_;cases h:sE e with
  |true =>
   refine(iff_of_eq (if_pos rfl)).trans ?_;rw[LO h];exact wB aX λl z1=>wG λs=>wR
  |false =>
   cases e with
   |var i =>
    refine(iff_of_eq (if_neg Õ)).trans ?_;show bS (LM ρ[i]?) _↔W (match ρ[i]? with | some (some s)=>M.bind (M.of (EK s)) λs=>M.ret (O.rt s) | _=>M.no) z Q E
    generalize ρ[i]?=o
    match o with
    |some (some s)=>exact wG λs=>wR|some none=>exact wN|none=>exact wN
   |_=>cases h
 |iff c t u ht hu=>intros;exact wB aX λx z1=>wG λc=>wT ht hu|exp e=>intros;exact wB aX λl z1=>wG λs=>wR|rais c=>intros;exact(NU rfl).symm|fr p it src b ih=>intros;exact wB aX λl z1=>wG λxs=>Tv|whl c b ih=>intros;exact Tv|zset i e=>intros;exact wB aX λl z1=>wG λv=>wM (m:=uw _ v _)|app i e=>intros;exact wG λxs=>wB aX λl z1=>wG λx=>wT wR wN|newz i f as=>intros;exact wB aX λl z1=>wM (m:=λ_=>uu tp _ i l)|aug o i e=>intros;exact wG λy=>wB aX λl z1=>wG λx=>wG λs=>wG λρ=>wR
theorem oM:WS F tp s ρ z Q E↔W (ex F tp s ρ) z Q E:=Jk s
theorem WS.mono{s:Sm}{F:FT}{tp:Bool}{ρ:Env}{z:Z}{Q Q':O->Z->Prop}{E E':Nat->Z->Prop}(h:WS F tp s ρ z Q E)(hq:∀ a z,Q a z->Q' a z)(he:∀ c z,E c z->E' c z):WS F tp s ρ z Q' E':=oM.mpr (W.mono (oM.mp h) hq he)
theorem Gz(Mid:Env->Z->Prop)(h:WS F tp s ρ z (λo z1=>match o with
  |.nx ρ=>Mid ρ z1
  |.rt s=>Q (.rt s) z1) E) (h2:∀ ρ z,Mid ρ z->WS F tp r ρ z Q E):WS F tp (.seq s r) ρ z Q E:=by
 refine WS.mono (s:=s) h (λo z1 h=>?_) λ_ _ h=>h;cases o with
 |nx ρ=>exact h2 ρ z1 h|rt s=>exact h
section
variable {T:List Df}{k f ps ns:Nat}{b:Sm}{l:List S}{z:Z}{Q:S->Z->Prop}{E:Nat->Z->Prop}
theorem Jl(h:T[f]?=some (.code ps ns b))(hl:l.length=ps)(hn:ps<=ns):W (ao T (k + 3) f l) z Q E↔WS (jo T (k + 2)) z.isNone b (start ns (l.map gA)) z (λo z1=>match o with
  |.nx _=>Q (.d .bw) (gC z z1)
  |.rt s=>Q s (gC z z1)) λc z1=>E c (gC z z1):=by
 refine Iff.trans ?_ oM.symm;rw[ux,h];show W (λz=>if l.length=ps/\ps<=ns then(match ex (jo T (k + 2)) z.isNone b (start ns (l.map gA)) z with
  |some (.ok (.nx _) z1)=>some (R.ok (S.d .bw) (gC z z1))|some (.ok (.rt s) z1)=>some (.ok s (gC z z1))|some (.er c z1)=>some (.er c (gC z z1))
  |none=>none) else none) z Q E↔_
 rw[Ji,Ji];constructor
 ·rintro ⟨r,e,q⟩;rw[if_pos ⟨hl,hn⟩] at e;split at e
  ·rename_i ρ z1 e1;cases e;exact⟨_,e1,q⟩
  ·rename_i s z1 e1;cases e;exact⟨_,e1,q⟩
  ·rename_i c z1 e1;cases e;exact⟨_,e1,q⟩
  ·cases e
 ·rintro ⟨r,e,q⟩;rw[if_pos ⟨hl,hn⟩,e]
  match r,q with
  |.ok (.nx ρ) z1,q=>exact⟨_,rfl,q⟩|.ok (.rt s) z1,q=>exact⟨_,rfl,q⟩|.er c z1,q=>exact⟨_,rfl,q⟩
end
section
variable {F:FT}{tp:Bool}{ρ:Env}{z:Z}{E:Nat->Z->Prop}
theorem sF{f:D->M (Option D)}{o:D->Option D}:∀ {xs:List D}{Q:List D->Z->Prop},(∀ x∈xs,f x z=some (.ok (o x) z))->(W (turns f xs) z Q E↔Q (xs.filterMap o) z)
 |[],Q,_=>ij
 |x::r,Q,h=>by
  show W (M.bind (f x) _) z Q E↔_;rw[eY,LN (h x Å),eY,sF λy hy=>h y (Æ _ hy),ij];rw[O4];cases o x <;> rfl
theorem u7{f:D->M (Option D)}{I:Z->Prop}{P:D->D->Prop}:∀ {xs:List D}{z:Z}{Q:List D->Z->Prop},I z->(∀ x∈xs,∀ z,I z->W (f x) z (λo z1=>I z1/\∃ y,o=some y/\P x y) NE)->(∀ ys z1,I z1->Pd P xs ys->Q ys z1)->W (turns f xs) z Q E
 |[],z,Q,hi,_,q=>ij.mpr (q [] z hi .nil)
 |x::r,z,Q,hi,h,q=>by
  show W (M.bind (f x) _) z Q E;rw[eY];refine(h x Å z hi).imp λo z1 ⟨hi1,y,e,hp⟩=>?_;subst e;rw[eY];refine u7 hi1 (λx' hx'=>h x' (Æ _ hx')) λys z2 hi2 hps=>?_;exact ij.mpr (q _ _ hi2 (.cons hp hps))
theorem CM(I:List D->Env->Z->Prop):∀ (xs:List D) {ρ:Env}{z:Z},I xs ρ z->(∀ x r ρ z,I (x::r) ρ z->W (f x ρ) z (λo z1=>match o with
  |.nx ρ=>I r ρ z1
  |.rt s=>Q (.rt s) z1) E)->(∀ ρ z,I [] ρ z->Q (.nx ρ) z)->W (jn f xs ρ) z Q E
 |[],ρ,z,hi,_,q=>ij.mpr (q _ _ hi)
 |x::r,ρ,z,hi,h,q=>by
  show W (M.bind (f x ρ) _) z Q E;rw[eY];refine(h x r ρ z hi).mono (λo z1 ho=>?_) λ_ _ h=>h;cases o with
  |nx ρ1=>exact CM I r ho h q|rt s=>exact ij.mpr ho
theorem Jm{c:Env->M (List S)}{f:Env->M O}{Q:O->Z->Prop}(I:Nat->Env->Z->Prop)(step:∀ n ρ z,I n ρ z->W (c ρ) z (λx z1=>bS ((pl x).bind ll) λk=>if k then W (f ρ) z1 (λo z2=>match o with
  |.nx ρ=>∃ m,m < n/\I m ρ z2
  |.rt s=>Q (.rt s) z2) E else Q (.nx ρ) z1) E):∀ (n m:Nat) {ρ:Env}{z:Z},I n ρ z->n < m->W (uo c f m ρ) z Q E:=by
 intro n
 induction n using Xd with
 |ind n ih =>
  intro m ρ z hi hm;cases m with
  |zero=>omega
  |succ m =>
   show W (M.bind (c ρ) _) z Q E;rw[eY];refine(step n ρ z hi).mono (λx z1 h=>?_) λ_ _ h=>h;obtain⟨k,e,h⟩:=dG h;refine(wG (K:=λk=>if k=true then W (M.bind (f ρ) _) z1 Q E else W (M.ret (O.nx ρ)) z1 Q E) λk=>wT Tv Tv).mp (af e ?_);cases k with
   |true =>
    rw[if_pos rfl] at h ⊢;rw[eY];refine h.mono (λo z2 h=>?_) λ_ _ h=>h;cases o with
    |nx ρ1 =>
     obtain⟨j,hj,hi⟩:=h;exact ih j hj m hi ∅
    |rt s=>exact ij.mpr h
   |false =>
    rw[if_neg Õ] at h ⊢;exact ij.mpr h
end
mutual
noncomputable def cE:D->Ex
 |.tup l=>.tup (NV l)|.lst l=>.lst (NV l)|.int i=>if i < 0 then .neg (.con (.int (-i))) else .con (.int i)|x=>.con x
noncomputable def NV:List D->Ex
 |[]=>.nil|x::r=>.cons (cE x) (NV r)
end
mutual
noncomputable def Oc:D->Bool
 |.tup l=>decide (l.length<=most)&&Jn l|.lst l=>decide (l.length<=most)&&Jn l|_=>true
noncomputable def Jn:List D->Bool
 |[]=>true|x::r=>Oc x&&Jn r
end
def cX(d:D)(_:Oc d=true):Ex:=cE d
section
variable {F:FT}{ρ:Env}{z:Z}{Q:List S->Z->Prop}{E:Nat->Z->Prop}{a b c as:Ex}{p:fW}{ρ0:Env}{x:D}{Q1:Option D->Z->Prop}
theorem yG:W (d5 (ev F .nil) (ev F a) p ρ0 x) z Q1 E↔bS (bO p x ρ0) λρ=>WE F a ρ z (λy z1=>bS (pl y) λd=>Q1 (some d) z1) E :=
 (wG λρ=>show _↔W (M.bind (ev F a ρ) λy=>M.bind (M.of (pl y)) λy=>M.ret (some y)) z Q1 E from wB aX λy z1=>wG λd=>wR).symm
theorem Jo{l:List S}{m:M (List S)}{V:Prop}(h:V↔W (M.bind m λy=>M.bind (M.of (pl y)) λy=>M.ret (some y)) z Q1 E):(match l with | [s]=>bS (NT s) λb=>if b then V else Q1 none z | _=>l=[]/\V)↔W (match l with
  |[]=>M.bind m λy=>M.bind (M.of (pl y)) λy=>M.ret (some y)|[.d (.bl true)]=>M.bind m λy=>M.bind (M.of (pl y)) λy=>M.ret (some y)|[.d (.bl false)]=>M.ret none
  |_=>M.no) z Q1 E:=by
 match l with
 |[]=>exact⟨λx=>h.mp x.2,λx=>⟨rfl,h.mpr x⟩⟩|[.d (.bl true)]=>exact Gy.trans ((iff_of_eq (if_pos rfl)).trans h)|[.d (.bl false)]=>exact Gy.trans ((iff_of_eq (if_neg Õ)).trans wR)|[.d .bw]=>exact wN|[.d (.int _)]=>exact wN|[.d (.str _)]=>exact wN|[.d (.tup _)]=>exact wN|[.d (.lst _)]=>exact wN|[.d .dct]=>exact wN|[.fr _]=>exact wN|[.z]=>exact wN|[.ks _]=>exact wN
 |s::_::_ =>
  refine⟨λx=>(by cases x.1),λx=>?_⟩
  cases s with
  |d y =>
   cases y with
   |bl b=>cases b <;> exact(CK.mp x).elim
   |_=>exact(CK.mp x).elim
  |_=>exact(CK.mp x).elim
theorem yH:W (d5 (ev F (.cons c .nil)) (ev F a) p ρ0 x) z Q1 E↔bS (bO p x ρ0) λρ=>WE F c ρ z (λy z1=>bS (one y) λs=>bS (NT s) λb=>if b then WE F a ρ z1 (λy z2=>bS (pl y) λd=>Q1 (some d) z2) E else Q1 none z1) E:=by
 refine Iff.symm (wG λρ=>?_);refine wB (aX (F:=F) (e:=.cons c .nil) (ρ:=ρ) (Q:=λl z1=>match l with | [s]=>bS (NT s) λb=>if b then WE F a ρ z1 (λy z2=>bS (pl y) λd=>Q1 (some d) z2) E else Q1 none z1 | _=>l=[]/\WE F a ρ z1 (λy z2=>bS (pl y) λd=>Q1 (some d) z2) E)) λl z1=>?_
 exact Jo (wB aX λy z1=>wG λd=>wR)
end
section
variable {α:Type}{m:M α}{z z1:Z}{Q Q':α->Z->Prop}{E:Nat->Z->Prop}
theorem Wo(h:m z=some (.ok a z1))(q:Q a z1):W m z Q E:=⟨_,h,q⟩
end
theorem aW{T:List Df}{k f ps ns:Nat}{b:Sm}{l:List S}{z:Z}{Q:S->Z->Prop}{E:Nat->Z->Prop}(h:T[f]?=some (.code ps ns b))(hl:l.length=ps)(hn:ps<=ns)(q:WS (jo T (k + 2)) z.isNone b (start ns (l.map gA)) z (λo z1=>match o with
  |.nx _=>Q (.d .bw) (gC z z1)
  |.rt s=>Q s (gC z z1)) λc z1=>E c (gC z z1)):W (ao T (k + 3) f l) z Q E:=(Jl h hl hn).mpr q
theorem ib{b:Bool}{A B:Prop}(ht:b=true->A)(hf:b=false->B):if b=true then A else B:=by
 cases b with
 |true=>exact ht rfl|false=>exact hf rfl
theorem it{b:Bool}{A B:Prop}(h:b=true)(a:A):if b=true then A else B:=by rw[if_pos h];exact a
theorem ie{b:Bool}{A B:Prop}(h:b=false)(a:B):if b=true then A else B:=by rw[h];exact a
theorem ip{c:Prop}[Decidable c]{A B:Prop}(h:c)(a:A):if c then A else B:=by rw[if_pos h];exact a
theorem Al(z:Z):gC z z=z:=by cases z <;> rfl
theorem sd{s t:S}{z:Z}(h:s=t):s=t/\gC z z=z:=⟨h,Al z⟩
theorem sb(h:b=c):S.d (.bl b)=S.d (.bl c)/\gC z z=z:=sd (by rw[h])
section
variable {F:FT}{tp:Bool}{z:Z}{E:Nat->Z->Prop}{p:fW}
theorem kL(I:List D->Env->Z->Prop)(xs:List D)(hi:I xs ρ z)(h:∀ x r ρ z,I (x::r) ρ z->bS (bO p x ρ) λρ=>WS F tp b ρ z (λo z1=>match o with
  |.nx ρ=>I r ρ z1
  |.rt s=>Q (.rt s) z1) E) (q:∀ ρ z,I [] ρ z->Q (.nx ρ) z):W (jn (λx ρ=>M.bind (M.of (bO p x ρ)) λρ=>ex F tp b ρ) xs ρ) z Q E :=
 CM I xs hi (λx r ρ z hi=>(wG λρ=>oM).mp (h x r ρ z hi)) q
theorem GA(I:Nat->Env->Z->Prop)(n:Nat)(hi:I n ρ z)(hn:n < zO)(h:∀ n ρ z,I n ρ z->WE F c ρ z (λx z1=>bS ((pl x).bind ll) λk=>if k then WS F tp b ρ z1 (λo z2=>match o with
  |.nx ρ=>∃ m,m < n/\I m ρ z2
  |.rt s=>Q (.rt s) z2) E else Q (.nx ρ) z1) E):W (uo (ev F c) (ex F tp b) zO ρ) z Q E:=by
 refine Jm I (λn ρ z hi=>?_) n zO hi hn;refine(aX.mp (h n ρ z hi)).mono (λx z1 h=>?_) λ_ _ h=>h;obtain⟨k,e,h⟩:=dG h;refine af e ?_;cases k with
 |true=>exact oM.mp h|false=>exact h
variable {ρ0:Env}{cond el:Ex}{xs:List D}{Q:List D->Z->Prop}
theorem fF(o:D->D)(h:∀ x∈xs,bS (bO p x ρ0) λρ=>WE F el ρ z (λy z1=>bS (pl y) λd=>d=o x/\z1=z) NE)(q:Q (xs.map o) z):W (turns (d5 (ev F .nil) (ev F el) p ρ0) xs) z Q E:=by
 refine(sF (o:=λx=>some (o x)) λx hx=>?_).mpr ?_
 ·refine W.ok (yG.mpr ?_);obtain⟨ρ,e,h⟩:=dG (h x hx);refine af e (aX.mpr ((aX.mp h).imp λy z1 h=>?_));obtain⟨d,e,rfl,rfl⟩:=dG h;exact af e ⟨rfl,rfl⟩
 ·rw[show xs.filterMap (λx=>some (o x))=xs.map o from congrFun (List.filterMap_eq_map (f:=o)) xs];exact q
theorem Jp{c:D->Bool}{o:D->D}:∀ xs:List D,xs.filterMap (λx=>if c x then some (o x) else none)=(xs.filter c).map o
 |[]=>rfl
 |x::r=>by
  rw[O4,Rz];cases hc:c x with
  |false=>exact Jp r|true=>exact congrArg (o x::·) (Jp r)
theorem CN(c:D->Bool)(o:D->D)(h:∀ x∈xs,bS (bO p x ρ0) λρ=>WE F cond ρ z (λy z1=>bS (one y) λs=>s=.d (.bl (c x))/\z1=z/\(c x=true->WE F el ρ z (λy z1=>bS (pl y) λd=>d=o x/\z1=z) NE)) NE)(q:Q ((xs.filter c).map o) z):W (turns (d5 (ev F (.cons cond .nil)) (ev F el) p ρ0) xs) z Q E:=by
 refine(sF (o:=λx=>if c x then some (o x) else none) λx hx=>?_).mpr ?_
 ·refine W.ok (yH.mpr ?_);obtain⟨ρ,e,h⟩:=dG (h x hx);refine af e (aX.mpr ((aX.mp h).imp λy z1 h=>?_));obtain⟨s,e,rfl,rfl,h⟩:=dG h;refine af e ?_;show if c x=true then _ else _;cases hc:c x with
  |false=>exact⟨rfl,rfl⟩
  |true =>
   refine aX.mpr ((aX.mp (h hc)).imp λy z1 h=>?_);obtain⟨d,e,rfl,rfl⟩:=dG h;exact af e ⟨rfl,rfl⟩
 ·rw[Jp];exact q
theorem GB{I:Z->Prop}(o:D->D):∀ {xs:List D}{z:Z}{Q:List D->Z->Prop},I z->(∀ x∈xs,∀ z,I z->bS (bO p x ρ0) λρ=>WE F cond ρ z (λy z1=>bS (one y) λs=>I z1/\∃ b,s=.d (.bl b)/\(b=true->WE F el ρ z1 (λy z2=>bS (pl y) λd=>d=o x/\z2=z1) NE)) NE) ->
  (∀ ys z1,I z1->ys.Sublist (xs.map o)->Q ys z1)->W (turns (d5 (ev F (.cons cond .nil)) (ev F el) p ρ0) xs) z Q E
 |[],z,Q,hi,_,q=>ij.mpr (q [] z hi .slnil)
 |x::r,z,Q,hi,h,q=>by
  show W (M.bind (d5 _ _ p ρ0 x) _) z Q E;refine eY.mpr (yH.mpr ?_);obtain⟨ρ,e,h0⟩:=dG (h x Å z hi);refine af e (aX.mpr ((aX.mp h0).imp λy z1 h1=>?_));obtain⟨s,e,hi1,b,rfl,h2⟩:=dG h1;refine af e ?_;show if b=true then _ else _;have hr:=λ{Q:List D->Z->Prop} (q:∀ ys z1,I z1->ys.Sublist (r.map o)->Q ys z1)=>GB o (z:=z1) hi1 (λy hy=>h y (Æ _ hy)) q;cases b with
  |false=>exact eY.mpr (hr λys z2 hi2 hs=>ij.mpr (q ys z2 hi2 (hs.cons _)))
  |true =>
   refine aX.mpr ((aX.mp (h2 rfl)).imp λy z2 h3=>?_);obtain⟨d,e,rfl,rfl⟩:=dG h3;exact af e (eY.mpr (hr λys z2 hi2 hs=>ij.mpr (q _ z2 hi2 (hs.cons_cons _))))
theorem LP{I:Z->Prop}{P:D->D->Prop}(hi:I z)(h:∀ x∈xs,∀ z,I z->bS (bO p x ρ0) λρ=>WE F el ρ z (λy z1=>bS (pl y) λd=>I z1/\P x d) NE)(q:∀ ys z1,I z1->Pd P xs ys->Q ys z1):W (turns (d5 (ev F .nil) (ev F el) p ρ0) xs) z Q E:=by
 refine u7 hi (λx hx z hz=>yG.mpr ?_) q;obtain⟨ρ,e,h⟩:=dG (h x hx z hz);refine af e (aX.mpr ((aX.mp h).imp λy z1 h=>?_));obtain⟨d,e,h⟩:=dG h;exact af e ⟨h.1,d,rfl,h.2⟩
end
theorem oN{s:S}{ρ:Env}(h:oa s=true):cT s ρ=ρ:=by
 unfold cT;rw[og,h];rfl
theorem oO{F:FT}{tp:Bool}{p:fW}{e:Ex}{r:Sm}{ρ:Env}{z:Z}{Q:O->Z->Prop}{E:Nat->Z->Prop}(s:S)(ρ':Env)(he:WE F e ρ z (λl z1=>bS (one l) λt=>t=s/\z1=z) NE)(hb:iC p s (cT s ρ)=some ρ')(q:WS F tp r ρ' z Q E):WS F tp (.seq (.set p e) r) ρ z Q E:=by
 show WE F e ρ z (λl z1=>bS (one l) λs=>bS (iC p s (cT s ρ)) λρ'=>WX F tp r ρ' z1 Q E) E;refine aX.mpr ((aX.mp he).imp λl z1 h=>?_);obtain⟨t,e,rfl,rfl⟩:=dG h;exact af e (af hb q)
end Q
namespace K3
open PySem L2 Q
def top(i:Nat):Stmt:=p7.main.body.getD i (.Pass ⟨0,0,0,0⟩)
def nums:List (Str × Int):=[(("MOST_PLACES":Str),(6:Int)),(("MOST_TIES":Str),(8:Int)),(("MOST_BOTTOM":Str),(1000:Int))]
abbrev v0:Ex:=.var 0
abbrev v1:Ex:=.var 1
abbrev v2:Ex:=.var 2
abbrev v3:Ex:=.var 3
abbrev v4:Ex:=.var 4
abbrev v5:Ex:=.var 5
abbrev v6:Ex:=.var 6
abbrev v7:Ex:=.var 7
abbrev v8:Ex:=.var 8
abbrev v9:Ex:=.var 9
abbrev n0:Ex:=.con (.int 0)
abbrev n1:Ex:=.con (.int 1)
abbrev n2:Ex:=.con (.int 2)
abbrev c1(a:Ex):Ex:=.cons a .nil
abbrev c2(a b:Ex):Ex:=.cons a (.cons b .nil)
abbrev c3(a b c:Ex):Ex:=.cons a (.cons b (.cons c .nil))
abbrev c4(a b c d:Ex):Ex:=.cons a (.cons b (.cons c (.cons d .nil)))
abbrev c5(a b c d e:Ex):Ex:=.cons a (.cons b (.cons c (.cons d (.cons e .nil))))
abbrev s1(a:Sm):Sm:=.seq a .nil
abbrev p2(a b:fW):fW:=.tup (.cons a (.cons b .nil))
abbrev dH:Nat:=0
abbrev oP:Nat:=1
abbrev yI:Nat:=2
abbrev gf:Nat:=3
abbrev lZ:Nat:=4
abbrev qH:Nat:=5
abbrev dI:Nat:=6
abbrev eZ:Nat:=7
abbrev gH:Nat:=8
abbrev u9:Nat:=9
abbrev oQ:Nat:=10
abbrev va:Nat:=11
abbrev nv:Nat:=12
abbrev di:Nat:=13
abbrev vb:Nat:=14
abbrev cZ:Nat:=15
abbrev a8:Nat:=16
abbrev oR:Nat:=17
abbrev eC:Nat:=18
abbrev mD:Nat:=19
abbrev jw:Nat:=20
abbrev bK:Nat:=21
abbrev jN:Nat:=22
abbrev kM:Nat:=23
abbrev iJ:Nat:=24
abbrev jO:Nat:=25
abbrev oS:Nat:=26
abbrev iK:Nat:=27
abbrev gI:Nat:=28
abbrev CO:Nat:=29
abbrev gJ:Nat:=30
abbrev iM:Nat:=31
abbrev dJ:Nat:=32
abbrev jP:Nat:=33
abbrev jQ:Nat:=34
abbrev oT:Nat:=35
abbrev mE:Nat:=36
abbrev gK:Nat:=37
abbrev gM:Nat:=38
abbrev fG:Nat:=39
abbrev fH:Nat:=40
abbrev c6:Nat:=41
abbrev cu:Nat:=42
abbrev cv:Nat:=43
abbrev gj:Nat:=44
abbrev jx:Nat:=45
abbrev qI:Nat:=46
abbrev gN:Nat:=47
abbrev sG:Nat:=48
abbrev iN:Nat:=49
abbrev kN:Nat:=50
abbrev aE:Nat:=51
abbrev oU:Nat:=52
abbrev jy:Nat:=53
abbrev jz:Nat:=54
abbrev iO:Nat:=55
abbrev jA:Nat:=56
abbrev dW:Nat:=57
abbrev kO:Nat:=58
abbrev GC:Nat:=59
def dM:Sm:=(.seq (.whl (.cmp .gt v1 n0) (s1 (.set (p2 (.v 0) (.v 1)) (.tup (c2 v1 (.bin .mod v0 v1)))))) (s1 (.ret v0)))
def oV:Sm:=(.seq (.set (.v 2) (.call dH (c2 v0 v1))) (s1 (.ret (.tup (c2 (.bin .fdiv v0 v2) (.bin .fdiv v1 v2))))))
def sJ:Sm:=(s1 (.ret (.call oP (c2 (.bin .mul (.idx v0 n0) (.idx v1 n0)) (.bin .mul (.idx v0 n1) (.idx v1 n1))))))
def l4:Sm:=(.seq (.set (.v 1) (cX (.tup [(.int 1),(.int 1)]) (-0))) (.seq (.fr (.v 2) .seq (c1 v0) (s1 (.set (.v 1) (.call yI (c2 v1 v2))))) (s1 (.ret v1))))
def xf:Sm:=(s1 (.ret (.tup (c2 (.bin .sub (.idx v0 n1) (.idx v0 n0)) (.idx v0 n1)))))
def l5:Sm:=(s1 (.ret (.cmp .lt (.bin .mul (.idx v0 n0) (.idx v1 n1)) (.bin .mul (.idx v1 n0) (.idx v0 n1)))))
def dN:Sm:=(.seq (.set (.v 1) (.con .bw)) (.seq (.fr (p2 (.v 2) (.v 3)) .enum (c1 v0) (s1 (.iff (.or (.cmp .is v1 (.con .bw)) (.call qH (c2 (.idx v0 v1) v3))) (s1 (.set (.v 1) v2)) .nil))) (s1 (.ret v1))))
def oW:Sm:=(s1 (.ret (.and (.isi .int v0) (.not (.isi .bool v0)))))
def jR:Sm:=(s1 (.ret (.and (.call eZ (c1 v0)) (.ch .le .lt n0 v0 v1))))
def oX:Sm:=(.seq (.iff (.or (.not (.isi .tuple v0)) (.cmp .ne (.bf .len (c1 v0)) n2)) (s1 (.ret (.con (.bl false)))) .nil) (.seq (.set (p2 (.v 2) (.v 3)) v0) (s1 (.ret (.and (.call gH (c2 v2 v1)) (.and (.call gH (c2 v3 v1)) (.cmp .lt v2 v3)))))))
def jS:Sm:=(.seq (.iff (.or (.not (.isi .tuple v0)) (.cmp .gt (.bf .len (c1 v0)) (.gint "MOST_TIES" 8))) (s1 (.ret (.con (.bl false)))) .nil) (.seq (.iff (.not (.bf .all (c1 (.comp 1 [1] (.v 0) .seq (c1 v0) .nil (.call u9 (c2 v0 v1)))))) (s1 (.ret (.con (.bl false)))) .nil) (s1 (.ret (.bf .all (c1 (.comp 2 [] (p2 (.v 0) (.v 1)) .zip (c2 v0 (.sl v0 (c1 n1) .nil)) .nil (.cmp .le v0 v1))))))))
def oY:Sm:=(.seq (.iff (.or (.not (.isi .tuple v0)) (.cmp .ne (.bf .len (c1 v0)) n2)) (s1 (.ret (.con (.bl false)))) .nil) (.seq (.set (p2 (.v 1) (.v 2)) v0) (s1 (.ret (.and (.call eZ (c1 v1)) (.and (.ch .le .le n1 v1 (.gint "MOST_PLACES" 6)) (.call oQ (c2 v2 v1))))))))
def ny:Sm:=(s1 (.ret (.bf .all (c1 (.comp 2 [] (p2 (.v 0) (.v 1)) .zip (c2 v0 (.sl v0 (c1 n1) .nil)) .nil (.cmp .lt v0 v1))))))
def dk:Sm:=(.seq (.iff (.not (.isi .tuple v0)) (s1 (.ret (.con (.bl false)))) .nil) (s1 (.ret (.and (.bf .all (c1 (.comp 1 [1] (.v 0) .seq (c1 v0) .nil (.call gH (c2 v0 v1))))) (.call nv (c1 v0))))))
def oZ:Sm:=(s1 (.ret (.call di (c2 v1 (.bf .len (c1 (.idx v0 n1)))))))
def iP:Sm:=(s1 (.iff (.not (.call va (c1 v0))) (s1 (.rais 0)) .nil))
def fb:Sm:=(s1 (.iff (.or (.not (.call di (c2 v1 (.idx v0 n0)))) (.cmp .eq (.bf .len (c1 v1)) n0)) (s1 (.rais 2)) .nil))
def jT:Sm:=(.seq (.set (p2 (.v 2) (.v 3)) v0) (.seq (.set (.v 4) (.lrng false (c1 v2))) (.seq (.fr (.v 5) .seq (c1 v1) (.seq (.set (p2 (.v 6) (.v 7)) (.idx v3 v5)) (.seq (.set (.v 8) (.idx v4 v6)) (.seq (.set (.v 9) (.idx v4 v7)) (s1 (.set (.v 4) (.comp 1 [8,9] (.v 0) .seq (c1 v4) .nil (.ite (.cmp .eq v0 v2) v1 v0)))))))) (s1 (.ret v4)))))
def gO:Sm:=(.seq (.set (.v 3) (.call oR (c2 v0 v1))) (s1 (.ret (.bf .all (c1 (.comp 1 [2,3] (.v 0) .seq (c1 v2) .nil (.cmp .eq (.idx v2 v0) (.idx v2 (.idx v1 n0)))))))))
def iQ:Sm:=(.seq (.iff (.or (.not (.isi .tuple v0)) (.cmp .ne (.bf .len (c1 v0)) n2)) (s1 (.ret (.con (.bl false)))) .nil) (.seq (.set (p2 (.v 1) (.v 2)) v0) (.seq (.iff (.or (.not (.call eZ (c1 v1))) (.not (.call eZ (c1 v2)))) (s1 (.ret (.con (.bl false)))) .nil) (.seq (.iff (.or (.not (.ch .le .le n1 v2 (.gint "MOST_BOTTOM" 1000))) (.not (.ch .le .le n0 v1 v2))) (s1 (.ret (.con (.bl false)))) .nil) (s1 (.ret (.cmp .eq (.call dH (c2 v1 v2)) n1)))))))
def fI:Sm:=(.seq (.exp (.call cZ (c1 v0))) (.seq (.iff (.or (.not (.isi .tuple v1)) (.cmp .ne (.bf .len (c1 v1)) (.bf .len (c1 (.idx v0 n1))))) (s1 (.ret (.con (.bl false)))) .nil) (s1 (.ret (.bf .all (c1 (.comp 1 [] (.v 0) .seq (c1 v1) .nil (.call mD (c1 v0)))))))))
def d4:Sm:=(s1 (.iff (.not (.call jw (c2 v0 v1))) (s1 (.rais 6)) .nil))
def gQ:Sm:=(.seq (.set (.v 1) (cX (.lst [(.tup [])]) (-0))) (.seq (.fr (.v 2) .rng1 (c1 (.bf .len (c1 (.idx v0 n1)))) (s1 (.set (.v 1) (.bin .add v1 (.comp 1 [2] (.v 0) .seq (c1 v1) .nil (.bin .add v0 (.tup (c1 v1)))))))) (s1 (.ret (.bf .sorted (c1 v1))))))
def gR:Sm:=(s1 (.ret (.bf .tuple (c1 (.comp 1 [1] (.v 0) .rng1 (c1 (.bf .len (c1 (.idx v0 n1)))) (c1 (.cmp .nmem v0 v1)) v0)))))
def ff:Sm:=(s1 (.ret (.comp 1 [0] (.v 0) .rng1 (c1 (.bf .len (c1 v0))) .nil (.bin .add (.sl v1 .nil (c1 v0)) (.sl v1 (c1 (.bin .add v0 n1)) .nil)))))
def jU:Sm:=(.seq (.set (.v 1) (.dkeys v0)) (s1 (.ret (.comp 1 [1] (.v 0) .seq (c1 v0) (c1 (.not (.bf .any (c1 (.comp 1 [1] (.v 0) .seq (c1 (.call iJ (c1 v0))) .nil (.memk true v0 1)))))) v0))))
def pf:Sm:=(s1 (.ret (.not (.call eC (c3 v0 (.call kM (c2 v0 v1)) v2)))))
def iR:Sm:=(.seq (.exp (.call cZ (c1 v0))) (.seq (.exp (.call a8 (c2 v0 v1))) (s1 (.ret (.comp 1 [0,1] (.v 0) .seq (c1 (.call jN (c1 v0))) (c1 (.call eC (c3 v1 v0 v2))) v0)))))
def gS:Sm:=(s1 (.ret (.call jO (c1 (.call iK (c2 v0 v1))))))
def xg:Sm:=(.seq (.exp (.call cZ (c1 v0))) (.seq (.exp (.call a8 (c2 v0 v1))) (s1 (.ret (.comp 1 [0,1] (.v 0) .seq (c1 (.call jN (c1 v0))) (c1 (.call oS (c3 v1 v0 v2))) v0)))))
def gU:Sm:=(s1 (.ret (.call jO (c1 (.call CO (c2 v0 v1))))))
def iS:Sm:=(.seq (.set (.v 1) (.flat v0)) (s1 (.ret (.cmp .eq (.nP (c1 v1)) (.bf .len (c1 v1))))))
def dO:Sm:=(.seq (.iff (.not (.isi .tuple v1)) (s1 (.ret (.con (.bl false)))) .nil) (.seq (.iff (.not (.bf .all (c1 (.comp 1 [0] (.v 0) .seq (c1 v1) .nil (.and (.call vb (c2 v1 v0)) (.cmp .gt (.bf .len (c1 v0)) n0)))))) (s1 (.ret (.con (.bl false)))) .nil) (s1 (.ret (.and (.call nv (c1 v1)) (.call iM (c1 v1)))))))
def jV:Sm:=(.seq (.exp (.call cZ (c1 v0))) (.seq (.exp (.call a8 (c2 v0 v1))) (s1 (.ret (.and (.call dJ (c2 v0 v2)) (.bf .all (c1 (.comp 1 [0,1] (.v 0) .seq (c1 v2) .nil (.call eC (c3 v1 v0 v2))))))))))
def jW:Sm:=(.seq (.exp (.call cZ (c1 v0))) (.seq (.exp (.call a8 (c2 v0 v1))) (s1 (.ret (.and (.call dJ (c2 v0 v2)) (.bf .all (c1 (.comp 1 [0,1] (.v 0) .seq (c1 v2) .nil (.call oS (c3 v1 v0 v2))))))))))
def jX:Sm:=(s1 (.ret (.call gf (c1 (.comp 1 [0] (.v 0) .seq (c1 v1) .nil (.idx v1 v0))))))
def iT:Sm:=(s1 (.ret (.call lZ (c1 (.call gf (c1 (.comp 1 [0] (.v 0) .seq (c1 v1) .nil (.call lZ (c1 (.idx v1 v0))))))))))
def jY:Sm:=(s1 (.ret (.call lZ (c1 (.call gf (c1 (.comp 1 [0] (.v 0) .seq (c1 v1) .nil (.call lZ (c1 (.call oT (c2 v1 v0)))))))))))
def jZ:Sm:=(s1 (.ret (.call gf (c1 (.comp 1 [0] (.v 0) .seq (c1 v1) .nil (.call mE (c2 v1 v0)))))))
def fJ:Sm:=(.seq (.exp (.call bK (c2 v0 v1))) (.seq (.exp (.call a8 (c2 v0 v2))) (.seq (.iff (.not (.call jP (c3 v0 v2 v3))) (s1 (.rais 7)) .nil) (s1 (.ret (.call gK (c2 v1 v3)))))))
def fK:Sm:=(.seq (.exp (.call bK (c2 v0 v1))) (.seq (.exp (.call a8 (c2 v0 v2))) (.seq (.iff (.not (.call jQ (c3 v0 v2 v3))) (s1 (.rais 7)) .nil) (s1 (.ret (.call gM (c2 v1 v3)))))))
def iU:Sm:=(.seq (.set (.v 1) (cX (.lst [(.tup [])]) (-0))) (.seq (.fr (.v 2) .seq (c1 v0) (s1 (.iff (.cmp .gt (.bf .len (c1 v2)) n0) (s1 (.set (.v 1) (.bin .add v1 (.comp 1 [2] (.v 0) .seq (c1 v1) (c1 (.call iM (c1 (.bin .add v0 (.tup (c1 v1)))))) (.bin .add v0 (.tup (c1 v1))))))) .nil))) (s1 (.ret (.bf .sorted (c1 v1))))))
def fM:Sm:=(.seq (.exp (.call bK (c2 v0 v1))) (.seq (.set (.v 3) (.call c6 (c1 (.call gI (c2 v0 v2))))) (s1 (.ret (.idx v3 (.call dI (c1 (.comp 1 [1] (.v 0) .seq (c1 v3) .nil (.call gK (c2 v1 v0))))))))))
def fN:Sm:=(.seq (.exp (.call bK (c2 v0 v1))) (.seq (.set (.v 3) (.call c6 (c1 (.call gJ (c2 v0 v2))))) (s1 (.ret (.idx v3 (.call dI (c1 (.comp 1 [1] (.v 0) .seq (c1 v3) .nil (.call lZ (c1 (.call gM (c2 v1 v0))))))))))))
def pg:Sm:=(.seq (.set (.v 3) (.call gK (c2 v1 (.call cu (c3 v0 v1 v2))))) (s1 (.ret (.tup (c2 v3 (.call gM (c2 v1 (.call cv (c3 v0 v1 v2)))))))))
def fO:Sm:=(.seq (.set (.v 1) n1) (.seq (.fr (.v 2) .seq (c1 v0) (s1 (.aug .mul 1 (.idx v2 n1)))) (s1 (.ret v1))))
def l6:Sm:=(.seq (.set (.v 2) n1) (.seq (.fr (p2 (.v 3) (p2 (.v 4) (.v 5))) .enum (c1 v0) (s1 (.aug .mul 2 (.ite (.cmp .mem v3 v1) v4 (.bin .sub v5 v4))))) (s1 (.ret v2))))
def gW:Sm:=(s1 (.ret (.call oP (c2 (.bf .sum (c1 (.comp 1 [0] (.v 0) .seq (c1 v1) .nil (.call qI (c2 v1 v0))))) (.call jx (c1 v0))))))
def sL:Sm:=(.seq (.exp (.call bK (c2 v0 v1))) (.seq (.exp (.call a8 (c2 v0 v2))) (s1 (.ret (.call gN (c2 v1 (.call iK (c2 v0 v2))))))))
def dm:Sm:=(.seq (.iff (.cmp .lt v1 (.bf .len (c1 v0))) (s1 (.ret (.idx v0 v1))) .nil) (s1 (.ret n0)))
def eF:Sm:=(.seq (.set (.v 2) (.call iN (c2 v0 v1))) (.seq (.iff (.cmp .ge v2 (.bin .pow (.con (.int 10)) (.con (.int 18)))) (s1 (.ret (.lst (c2 (.bin .sub v2 (.bin .pow (.con (.int 10)) (.con (.int 18)))) (.con (.bl true)))))) .nil) (s1 (.ret (.lst (c2 (.bin .mod v2 (.con (.int 2147483647))) (.con (.bl false))))))))
def iV:Sm:=(.seq (.iff (.zget 0 1) (.seq (.set (.v 2) (.bin .mod (.zget 0 0) v1)) (.seq (.zset 0 (.bin .fdiv (.zget 0 0) v1)) (s1 (.ret v2)))) .nil) (.seq (.zset 0 (.bin .mod (.bin .add (.bin .mul (.zget 0 0) (.con (.int 48271))) (.con (.int 29))) (.con (.int 2147483647)))) (.seq (.set (.v 3) (.bin .mod (.bin .add (.bin .add (.bin .mul (.zget 0 0) (.zget 0 0)) (.bin .mul (.con (.int 39373)) (.zget 0 0))) (.con (.int 7))) (.con (.int 2147483629)))) (.seq (.set (.v 3) (.bin .mod (.bin .add (.bin .mul v3 v3) (.bin .mul (.con (.int 16807)) v3)) (.con (.int 2147483587)))) (s1 (.ret (.bin .mod (.bin .fdiv v3 (.con (.int 8))) v1)))))))
def j5:Sm:=(.seq (.set (.v 2) (.idx (cX (.lst [(.int 6),(.int 5),(.int 4),(.int 3),(.int 4),(.int 5),(.int 2),(.int 1)]) (-0)) (.call aE (c2 v0 (.con (.int 8)))))) (.seq (.set (.v 3) (.lst .nil)) (.seq (.iff (.and (.cmp .gt v2 n1) (.cmp .gt (.call aE (c2 v0 (.con (.int 5)))) n0)) (s1 (.set (.v 3) (.comp 1 [0] (.v 0) .rng2 (c2 n1 v2) .nil (.tup (c2 (.call aE (c2 v1 v0)) v0))))) .nil) (.seq (.fr (.v 4) .rng1 (c1 (.bin .mul (.call aE (c2 v0 (.bin .add v1 n1))) (.bf .int (c1 (.cmp .gt v2 n1))))) (.seq (.set (.v 5) (.call aE (c2 v0 v2))) (.seq (.set (.v 6) (.bin .mod (.bin .add (.bin .add v5 n1) (.call aE (c2 v0 (.bin .sub v2 n1)))) v2)) (s1 (.app 3 (.tup (c2 (.bf .min (c2 v5 v6)) (.bf .max (c2 v5 v6))))))))) (s1 (.ret (.tup (c2 v2 (.bf .tuple (c1 (.bf .sorted (c1 (.sl v3 .nil (c1 v1))))))))))))))
def fP:Sm:=(.seq (.set (p2 (.v 2) (.v 3)) (.tup (c2 v0 v1))) (.seq (.whl (.cmp .ne v3 n0) (s1 (.set (p2 (.v 2) (.v 3)) (.tup (c2 v3 (.bin .mod v2 v3)))))) (s1 (.ret (.tup (c2 (.bin .fdiv v0 v2) (.bin .fdiv v1 v2)))))))
def fQ:Sm:=(.seq (.set (.v 1) (cX (.lst [(.tup [(.int 1),(.int 2)]),(.tup [(.int 2),(.int 3)]),(.tup [(.int 1),(.int 3)]),(.tup [(.int 3),(.int 4)]),(.tup [(.int 9),(.int 10)]),(.tup [(.int 0),(.int 1)]),(.tup [(.int 1),(.int 1)]),(.tup [(.int 1),(.int 1000)]),(.tup [(.int 999),(.int 1000)])]) (-0))) (.seq (.set (.v 2) (.call aE (c2 v0 (.con (.int 16))))) (.seq (.iff (.cmp .lt v2 (.con (.int 9))) (s1 (.ret (.idx v1 v2))) .nil) (.seq (.set (.v 3) (.bin .add n1 (.call aE (c2 v0 (.idx (cX (.lst [(.int 12),(.int 1000)]) (-0)) (.call aE (c2 v0 n2))))))) (s1 (.ret (.call jy (c2 (.call aE (c2 v0 (.bin .add v3 n1))) v3))))))))
def fh:Sm:=(s1 (.ret (.bf .tuple (c1 (.comp 1 [0] (.v 0) .seq (c1 (.idx v1 n1)) .nil (.call jz (c1 v1)))))))
def fR:Sm:=(.seq (.set (.v 2) (.call aE (c2 v0 (.con (.int 4))))) (.seq (.iff (.or (.cmp .lt v2 n2) (.cmp .eq (.idx v1 n0) n1)) (s1 (.ret (.lrng true (c1 (.idx v1 n0))))) .nil) (.seq (.iff (.cmp .eq v2 n2) (.seq (.set (.v 3) (.call aE (c2 v0 (.idx v1 n0)))) (s1 (.ret (.bf .tuple (c1 (.bf .sorted (c1 (.lst (c2 v3 (.bin .mod (.bin .add (.bin .add v3 n1) (.call aE (c2 v0 (.bin .sub (.idx v1 n0) n1)))) (.idx v1 n0))))))))))) .nil) (s1 (.ret (.orT (.bf .tuple (c1 (.comp 1 [0] (.v 0) .rng1 (c1 (.idx v1 n0)) (c1 (.cmp .eq (.call aE (c2 v1 n2)) n1)) v0))) (.tup (c1 (.bin .sub (.idx v1 n0) n1)))))))))
def iW:Sm:=(s1 (.ret (.cmp .le (.bin .mul (.idx v0 n0) (.idx v1 n1)) (.bin .mul (.idx v1 n0) (.idx v0 n1)))))
def eG:Sm:=(.seq (.set (p2 (.v 4) (.v 5)) (.tup (c2 (.call cu (c3 v1 v2 v3)) (.call cv (c3 v1 v2 v3))))) (.seq (.set (p2 (.v 6) (.v 7)) (.call gj (c3 v1 v2 v3))) (.seq (.set (.v 8) (.call sG (c3 v1 v2 v3))) (.seq (.iff (.or (.cmp .isnt (.call jP (c3 v1 v3 v4)) (.con (.bl true))) (.cmp .isnt (.call jQ (c3 v1 v3 v5)) (.con (.bl true)))) (s1 (.ret (.con (.bl false)))) .nil) (.seq (.iff (.or (.cmp .ne (.call fG (c4 v1 v2 v3 v4)) v6) (.cmp .ne (.call fH (c4 v1 v2 v3 v5)) v7)) (s1 (.ret (.con (.bl false)))) .nil) (.seq (.iff (.or (.not (.call dW (c2 v6 v8))) (.not (.call dW (c2 v8 v7)))) (s1 (.ret (.con (.bl false)))) .nil) (.seq (.iff (.cmp .ne v4 (.tup .nil)) (.seq (.set (.v 9) (.call aE (c2 v0 (.bf .len (c1 v4))))) (s1 (.iff (.not (.call dW (c2 (.call fG (c4 v1 v2 v3 (.bin .add (.sl v4 .nil (c1 v9)) (.sl v4 (c1 (.bin .add v9 n1)) .nil)))) v6))) (s1 (.ret (.con (.bl false)))) .nil))) .nil) (.seq (.iff (.cmp .ne v5 (.tup .nil)) (.seq (.set (.v 9) (.call aE (c2 v0 (.bf .len (c1 v5))))) (s1 (.ret (.call dW (c2 v7 (.call fH (c4 v1 v2 v3 (.bin .add (.sl v5 .nil (c1 v9)) (.sl v5 (c1 (.bin .add v9 n1)) .nil))))))))) .nil) (s1 (.ret (.con (.bl true))))))))))))
def yJ:Sm:=(.seq (.fr (.v 1) .rng1 (c1 (.bf .max (c2 n1 (.bf .min (c2 (.bf .len (c1 v0)) (.con (.int 3))))))) (.seq (.newz 2 kN (c2 v0 v1)) (.seq (.set (.v 3) (.call oU (c2 v2 (.con (.int 7))))) (.seq (.set (p2 (.v 4) (.v 5)) (.tup (c2 (.call iO (c2 v2 v3)) (.call jA (c2 v2 v3))))) (.seq (.iff (.not (.call kO (c4 v2 v3 v4 v5))) (s1 (.ret (.con (.bl false)))) .nil) (.seq (.set (.v 6) (.call sG (c3 v3 v4 v5))) (.seq (.set (p2 (.v 7) (.v 8)) (.tup (c2 (.call gI (c2 v3 v5)) (.call gJ (c2 v3 v5))))) (.seq (.iff (.and (.cmp .eq (.bf .len (c1 v7)) n1) (.and (.cmp .ne (.idx v7 n0) (.tup .nil)) (.cmp .ne (.idx (.call gj (c3 v3 v4 v5)) n0) v6))) (s1 (.ret (.con (.bl false)))) .nil) (s1 (.iff (.and (.cmp .eq (.bf .len (c1 v8)) n1) (.and (.cmp .ne (.idx v8 n0) (.tup .nil)) (.cmp .ne (.idx (.call gj (c3 v3 v4 v5)) n1) v6))) (s1 (.ret (.con (.bl false)))) .nil)))))))))) (s1 (.ret (.con (.bl true)))))
abbrev da(nm:Str)(k i:Nat)(N:List Str)(b:Sm)(lm:Bool):Row:=⟨nm,N.take k,top i,N,b,lm⟩
def rows:List Row:=[da "common_divisor" 2 7 ["one","other"] dM false,
 da "lowest" 2 8 ["top","bottom","divisor"] oV false,
 da "times" 2 9 ["one","other"] sJ false,
 da "product" 1 10 ["fractions","found","one"] l4 false,
 da "lack" 1 11 ["one"] xf false,
 da "is_less" 2 12 ["one","other"] l5 false,
 da "first_greatest" 1 13 ["fractions","best","at","one"] dN false,
 da "is_whole" 1 17 ["thing"] oW false,
 da "is_below" 2 18 ["thing","many"] jR false,
 da "is_tie" 2 19 ["thing","many","a","b"] oX false,
 da "are_ties" 2 20 ["thing","many"] jS false,
 da "is_web" 1 21 ["thing","many","ties"] oY false,
 da "rises" 1 22 ["things"] ny false,
 da "is_rising_below" 2 23 ["thing","many"] dk false,
 da "is_lot" 2 24 ["web","thing"] oZ false,
 da "check_web" 1 25 ["thing"] iP false,
 da "check_places" 2 26 ["web","thing"] fb false,
 da "marks_by" 2 27 ["web","lot","many","ties","marks","number","a","b","kept","gone"] jT false,
 da "are_joined" 3 28 ["web","lot","places","marks"] gO false,
 da "is_chance" 1 31 ["thing","top","bottom"] iQ false,
 da "are_chances" 2 32 ["web","thing"] fI false,
 da "check_chances" 2 33 ["web","thing"] d4 false,
 da "all_lots" 1 35 ["web","lots","number"] gQ false,
 da "other_ties" 2 36 ["web","lot"] gR false,
 da "one_left_out" 1 37 ["lot"] ff false,
 da "least_of" 1 38 ["lots","known"] jU false,
 da "is_cut" 3 39 ["web","lot","places"] pf false,
 da "good_lots" 2 40 ["web","places"] iR false,
 da "least_good" 2 41 ["web","places"] gS false,
 da "cuts" 2 42 ["web","places"] xg false,
 da "least_cuts" 2 43 ["web","places"] gU false,
 da "are_apart" 1 45 ["lots","numbers"] iS false,
 da "are_lots_apart" 2 46 ["web","thing"] dO false,
 da "is_lower" 3 47 ["web","places","thing"] jV false,
 da "is_upper" 3 48 ["web","places","thing"] jW false,
 da "all_hold" 2 49 ["chances","lot"] jX false,
 da "one_holds" 2 50 ["chances","lot"] iT false,
 da "lower_by" 2 51 ["chances","paper"] jY false,
 da "upper_by" 2 52 ["chances","paper"] jZ false,
 da "lower_shows" 4 53 ["web","chances","places","paper"] fJ false,
 da "upper_shows" 4 54 ["web","chances","places","paper"] fK false,
 da "papers_of" 1 55 ["lots","papers","lot"] iU false,
 da "lower_paper" 3 56 ["web","chances","places","papers"] fM false,
 da "upper_paper" 3 57 ["web","chances","places","papers"] fN false,
 da "bounds" 3 58 ["web","chances","places","lower"] pg false,
 da "all_bottoms" 1 60 ["chances","found","chance"] fO false,
 da "lot_top" 2 61 ["chances","lot","found","number","top","bottom"] l6 false,
 da "lots_share" 2 62 ["chances","lots"] gW false,
 da "share" 3 63 ["web","chances","places"] sL false,
 da "_law_cell_at" 2 65 ["_law_script","_law_k"] dm false,
 da "_law_state" 2 66 ["_law_script","_law_k","_law_cell"] eF false,
 da "_law_take" 2 67 ["_law_state_here","_law_many","_law_found","_law_stirred"] iV false,
 da "_law_web" 2 68 ["_law_state_here","_law_most","_law_many","_law_ties","_law_turn","_law_one","_law_other"] j5 false,
 da "_law_lowest" 2 69 ["_law_top","_law_bottom","_law_one","_law_other"] fP false,
 da "_law_chance" 1 70 ["_law_state_here","_law_some","_law_way","_law_bottom"] fQ false,
 da "_law_chances" 2 71 ["_law_state_here","_law_web_here"] fh false,
 da "_law_places" 2 72 ["_law_state_here","_law_web_here","_law_way","_law_one"] fR false,
 da "_law_upto" 2 73 ["_law_one","_law_other"] iW false,
 da "_law_right" 4 74 ["_law_state_here","_law_web_here","_law_chances_here","_law_places_here","_law_low","_law_high","_law_lower","_law_upper","_law_told","_law_at"] eG false,
 da "law" 1 75 ["_law_script","_law_k","_law_state_here","_law_web_here","_law_chances_here","_law_places_here","_law_told","_law_some","_law_gone"] yJ false]
def T:List Df:=[(Df.code 2 2 dM:Df),(Df.code 2 3 oV:Df),(Df.code 2 2 sJ:Df),(Df.code 1 3 l4:Df),(Df.code 1 1 xf:Df),(Df.code 2 2 l5:Df),(Df.code 1 4 dN:Df),(Df.code 1 1 oW:Df),(Df.code 2 2 jR:Df),(Df.code 2 4 oX:Df),(Df.code 2 2 jS:Df),(Df.code 1 3 oY:Df),(Df.code 1 1 ny:Df),(Df.code 2 2 dk:Df),(Df.code 2 2 oZ:Df),(Df.code 1 1 iP:Df),(Df.code 2 2 fb:Df),(Df.code 2 10 jT:Df),(Df.code 3 4 gO:Df),(Df.code 1 3 iQ:Df),(Df.code 2 2 fI:Df),(Df.code 2 2 d4:Df),(Df.code 1 3 gQ:Df),(Df.code 2 2 gR:Df),(Df.code 1 1 ff:Df),(Df.code 1 2 jU:Df),(Df.code 3 3 pf:Df),(Df.code 2 2 iR:Df),(Df.code 2 2 gS:Df),(Df.code 2 2 xg:Df),(Df.code 2 2 gU:Df),(Df.code 1 2 iS:Df),(Df.code 2 2 dO:Df),(Df.code 3 3 jV:Df),(Df.code 3 3 jW:Df),(Df.code 2 2 jX:Df),(Df.code 2 2 iT:Df),(Df.code 2 2 jY:Df),(Df.code 2 2 jZ:Df),(Df.code 4 4 fJ:Df),(Df.code 4 4 fK:Df),(Df.code 1 3 iU:Df),(Df.code 3 4 fM:Df),(Df.code 3 4 fN:Df),(Df.code 3 4 pg:Df),(Df.code 1 3 fO:Df),(Df.code 2 6 l6:Df),(Df.code 2 2 gW:Df),(Df.code 3 3 sL:Df),(Df.code 2 2 dm:Df),(Df.code 2 3 eF:Df),(Df.code 2 4 iV:Df),(Df.code 2 7 j5:Df),(Df.code 2 4 fP:Df),(Df.code 1 4 fQ:Df),(Df.code 2 2 fh:Df),(Df.code 2 4 fR:Df),(Df.code 2 2 iW:Df),(Df.code 4 10 eG:Df),(Df.code 1 9 yJ:Df)]
theorem NW:tabOf rows=T:=rfl
def cn:List Str:=["NoWeb","NoWeb","NoPlaces","NoWeb","NoWeb","NoWeb","NoChances","NoPaper","NoWeb","NoWeb","NoWeb","NoWeb"]
end K3
namespace K3
open Q
open L2 (D)
def Jq:D->Bool
 |.int _=>true|_=>false
theorem fw(k:Nat)(x:D)(z:Z):ao T (k + 3) eZ [.d x] z=some (.ok (.d (.bl (Jq x))) z):=by
 cases z <;> cases x <;> rfl
def aY(x:D)(m:Int):Bool:=match x with
 |.int i=>decide (0<=i)&&decide (i < m)|_=>false
theorem iX(k:Nat)(x:D)(m:Int)(z:Z):ao T (k + 4) gH [.d x,.d (.int m)] z=some (.ok (.d (.bl (aY x m))) z):=by
 refine W.ok (aW (ps:=2) (ns:=2) (b:=jR) rfl rfl (-0) (Wo (fw (k:=k) x z) ?_))
 cases x with
 |int i=>exact ib (b:=decide (0<=i)) (λh=>sb (show decide (i < m)=(decide (0<=i)&&decide (i < m)) by rw[h];rfl)) λh=>sb (show false=(decide (0<=i)&&decide (i < m)) by rw[h];rfl)|_=>exact sb rfl
def ph(x:D)(m:Int):Bool:=match x with
 |.tup [a,b]=>aY a m&&(aY b m&&(match a,b with
  |.int i,.int j=>decide (i < j)
  |_,_=>false))
 |_=>false
theorem eJ(h:aY x m=true):∃ i,x=.int i/\0<=i/\i < m:=by
 cases x with
 |int i =>
  unfold aY at h;rw[Á,decide_eq_true_eq,decide_eq_true_eq] at h;exact⟨i,rfl,h⟩
 |_=>cases h
theorem Am(k:Nat)(x:D)(m:Int)(z:Z):ao T (k + 5) u9 [.d x,.d (.int m)] z=some (.ok (.d (.bl (ph x m))) z):=by
 refine W.ok (aW (ps:=2) (ns:=4) (b:=oX) rfl rfl (-0) ?_)
 cases x with
 |tup l =>
  match l with
  |[a,b] =>
   refine Wo (iX k a m z) (ib (b:=aY a m) (λh1=>Wo (iX k b m z) (ib (b:=aY b m) (λh2=>?_) λh=>?_)) λh=>?_)
   ·obtain⟨i,rfl,_⟩:=eJ h1;obtain⟨j,rfl,_⟩:=eJ h2;exact sb (show decide (i < j)=(aY (.int i) m&&(aY (.int j) m&&decide (i < j))) by rw[h1,h2];rfl)
   ·exact sb (show false=(aY a m&&(aY b m&&_)) by rw[h1,h];rfl)
   ·exact sb (show false=(aY a m&&_) by rw[h];rfl)
  |[]=>exact sb rfl|[_]=>exact sb rfl|_::_::_::_=>exact sb rfl
 |_=>exact sb rfl
theorem fS(l:List D)(p:D->Bool):mR .all [.lst (l.map λx=>D.bl (p x))]=some (.d (.bl (l.all p))):=by
 have h:(l.map λx=>D.bl (p x)).mapM ll=some (l.map p):=by
  induction l with
  |nil=>rfl
  |cons x r ih =>
   rw[Qw,RK,ih];rfl
 show((l.map λx=>D.bl (p x)).mapM ll).map _=_;rw[h];simp[all_map]
theorem gk(l:List D)(n:Nat):cutD l (some (n:Int)) none=l.drop n:=by
 have h1:HT.c9 l.length 0 (some (n:Int))=min n l.length:=HT.rB l.length 0 n;unfold cutD;rw[h1];show((l.drop (min n l.length)).take (l.length - min n l.length))=_;rcases Yi n l.length with h | h
 ·rw[QK h,Qe (by rw[OQ];omega)]
 ·rw[T4 h,R4,List.take_nil,PF h]
theorem kP:∀ a b:List D,(dB a b).length<=a.length
 |[],_=>Ô _|_::_,[]=>PQ _|_::r,_::q=>T3 (kP r q)
theorem sM:∀ {a b:List D}{d:D},d∈dB a b->∃ x∈a,∃ y∈b,d=.tup [x,y]
 |x::r,y::q,d,h=>by
  rcases Û.mp h with h | h
  ·exact⟨x,Å,y,Å,h⟩
  ·obtain⟨u,hu,v,hv,e⟩:=sM h;exact⟨u,Æ _ hu,v,Æ _ hv,e⟩
def LQ:D->Bool
 |.tup [.tup a,.tup b]=>(match fY a,fY b with
  |some ns,some ms=>HT.leB ns ms
  |_,_=>false)
 |_=>false
def pj(l:List D):Bool:=(dB l (l.drop 1)).all LQ
def mF(x:D)(m:Int):Bool:=match x with
 |.tup l=>decide (l.length<=8)&&(l.all (λt=>ph t m)&&pj l)|_=>false
theorem qJ(h:ph x m=true):∃ i j,x=.tup [.int i,.int j]/\0<=i/\i < j/\j < m:=by
 cases x with
 |tup l =>
  match l,h with
  |[a,b],h =>
   unfold ph at h;rw[Á,Á] at h;obtain⟨h1,h2,h3⟩:=h;obtain⟨i,rfl,i1,i2⟩:=eJ h1;obtain⟨j,rfl,j1,j2⟩:=eJ h2;exact⟨i,j,rfl,i1,of_decide_eq_true h3,j2⟩
 |_=>cases h
theorem cm(h:n<=1000):n<=most:=ã h (-0)
theorem vc(k:Nat)(x:D)(m:Int)(z:Z):ao T (k + 6) oQ [.d x,.d (.int m)] z=some (.ok (.d (.bl (mF x m))) z):=by
 refine W.ok (aW (ps:=2) (ns:=2) (b:=jS) rfl rfl (-0) ?_)
 cases x with
 |tup l =>
  refine ib (b:=decide ((8:Int) < (l.length:Int))) (λh=>?_) λh=>?_
  ·refine sb (show false=(decide (l.length<=8)&&_) from ?_);rw[decide_eq_true_eq] at h;rw[decide_eq_false ∅];rfl
  ·rw[decide_eq_false_iff_not] at h;have h8:l.length<=8:=by omega
   refine ip (cm ∅) (fF (λx=>.bl (ph x m)) (λx _=>Wo (Am k x m z) ⟨rfl,rfl⟩) ?_)
   refine(af (fS l λx=>ph x m) ?_ :);refine ib (b:=!l.all λx=>ph x m) (λh=>?_) λh2=>?_
   ·exact sb (show false=(decide (l.length<=8)&&(l.all (λt=>ph t m)&&pj l)) by rw[ô] at h;rw[h,Rb,Xp])
   ·rw[Sa] at h2;have ha:=á.mp h2;have e1:cutD l (some 1) none=l.drop 1:=gk l 1;refine ip (c:=(dB l (cutD l (some 1) none)).length<=most) (ã (kP _ _) (cm ∅)) (fF (λx=>.bl (LQ x)) (λx hx=>?_) (af (fS _ LQ) ?_ :))
    ·obtain⟨u,hu,v,hv,rfl⟩:=sM hx;rw[e1] at hv;obtain⟨i,j,rfl,_⟩:=qJ (ha u hu);obtain⟨i',j',rfl,_⟩:=qJ (ha v (Pm hv));exact⟨rfl,rfl⟩
    ·refine sb (b:=(dB l (cutD l (some 1) none)).all LQ) ?_;show _=(decide (l.length<=8)&&(l.all (λt=>ph t m)&&pj l));rw[e1,h2,decide_eq_true h8,Pw,Pw];rfl
 |_=>exact sb rfl
def Jr(a t:D):Bool:=match a with
 |.int m=>decide (1<=m)&&(decide (m<=6)&&mF t m)|_=>false
def sO(x:D):Bool:=match x with
 |.tup [a,t]=>Jr a t|_=>false
theorem An(k:Nat)(x:D)(z:Z):ao T (k + 7) va [.d x] z=some (.ok (.d (.bl (sO x))) z):=by
 refine W.ok (aW (ps:=1) (ns:=3) (b:=oY) rfl rfl (-0) ?_)
 cases x with
 |tup l =>
  match l with
  |[a,t] =>
   refine Wo (fw (k + 3) a _) ?_;cases a with
   |int m =>
    refine ib (b:=decide (1<=m)) (λg1=>ib (b:=decide (m<=6)) (λg2=>Wo (vc k t m _) ?_) λg2=>?_) λg1=>?_
    ·exact sb (show mF t m=(decide (1<=m)&&(decide (m<=6)&&mF t m)) by rw[g1,g2];rfl)
    ·exact sb (show false=(decide (1<=m)&&(decide (m<=6)&&mF t m)) by rw[g1,g2];rfl)
    ·exact sb (show false=(decide (1<=m)&&(decide (m<=6)&&mF t m)) by rw[g1];rfl)
   |_=>exact sb rfl
  |[]=>exact sb rfl|[_]=>exact sb rfl|_::_::_::_=>exact sb rfl
 |_=>exact sb rfl
theorem dr(k:Nat)(z:Z)(h:sO x=true):ao T (k + 8) cZ [.d x] z=some (.ok (.d .bw) z) :=
 W.ok (aW (ps:=1) (ns:=1) (b:=iP) rfl rfl (-0) (Wo (An k x z) (ie (b:=!sO x) (by rw[h];rfl) (sd rfl))))
theorem qK(hj:0 < j):dU .mod (.int i) (.int j)=some (.d (.int (i % j))):=by
 show(if 0 < j then some (S.d (.int (i % j))) else none)=_;rw[if_pos hj]
def GT(n:Nat)(a b:Int):Prop:=0<=b/\((∃ k:Nat,n=2 * k + 1/\b < 2 ^ k)∨∃ k:Nat,n=2 * k/\b < a/\a < 2 ^ k)
theorem GT.step(h:GT n a b)(hb:0 < b):∃ m,m < n/\GT m b (a % b):=by
 obtain⟨h0,h⟩:=h;have r0:=SU a (show b≠0 by omega)
 have r1:=SV a hb;rcases h with ⟨k,rfl,hk⟩ | ⟨k,rfl,hba,hk⟩
 ·exact⟨2 * k,Sq _,r0,.inr ⟨k,rfl,r1,hk⟩⟩
 ·cases k with
  |zero=>simp at hk;omega
  |succ k =>
   refine⟨2 * k + 1,by omega,r0,.inl ⟨k,rfl,?_⟩⟩
   have e:=Int.emod_add_mul_ediv a b;have q1:1<=a / b:=Int.le_ediv_of_mul_le hb ∅
   have:b * 1<=b * (a / b):=ò q1 ∅
   have h2:(2:Int) ^ (k + 1)=2 * 2 ^ k:=by rw[Int.pow_succ,kr]
   rw[h2] at hk;omega
theorem yK(a b:Int):gcd b (a % b)=gcd a b:=by
 rw[Int.emod_def,Int.gcd_sub_mul_left_right,TM]
def big(b:Int):Prop:=b < 2 ^ 4000
theorem sP(h0:0<=b)(h:big b):b.natAbs < ir:=by
 have h:b < 2 ^ 4000:=h;have e:((2 ^ 4000:Nat):Int)=2 ^ 4000:=by rw[R3];rfl
 show b.natAbs < 2 ^ 4000;omega
theorem jh(h:b<=2 ^ 64):big b:=Te h (-0)
theorem fy(k:Nat)(a b:Int)(z:Z)(h0:0 < b)(h1:big b):ao T (k + 3) dH [.d (.int a),.d (.int b)] z=some (.ok (.d (.int (gcd a b))) z):=by
 refine W.ok (aW (ps:=2) (ns:=2) (b:=dM) rfl rfl (-0) (GA (λn ρ z1=>z1=z/\∃ c d:Int,ρ=[some (.d (.int c)),some (.d (.int d))]/\GT n c d/\gcd c d=gcd a b/\(d=0->0<=c)) (2 * 4000 + 1) ⟨rfl,a,b,rfl,⟨ó h0,.inl ⟨4000,rfl,h1⟩⟩,rfl,λh=>by omega⟩ (-0) ?_))
 rintro n ρ z1 ⟨rfl,c,d,rfl,g,hg,hc⟩;refine ib (b:=decide (0 < d)) (λhd=>?_) λhd=>?_
 ·rw[decide_eq_true_eq] at hd;obtain⟨m,hm,g'⟩:=g.step hd;refine(af (qK (i:=c) hd) ?_ :);exact⟨m,hm,rfl,d,c % d,rfl,g',(yK c d).trans hg,λ_=>Int.le_of_lt hd⟩
 ·rw[decide_eq_false_iff_not] at hd;have hz:d=0:=by have:=g.1;omega
  subst hz;rw[Ww] at hg;refine sd (s:=.d (.int c)) ?_;rw[← hg,show((c.natAbs:Nat):Int)=c by have:=hc rfl;omega]
def Fz(t b:Int):Bool:=(decide (1<=b)&&decide (b<=1000))&&((decide (0<=t)&&decide (t<=b))&&(((gcd t b:Nat):Int) == 1))
def OG:D->D->Bool
 |.int t,.int b=>Fz t b|_,_=>false
def Js:D->Bool
 |.tup [d,e]=>OG d e|_=>false
theorem sQ(h:¬ (1<=u/\u<=1000/\0<=t/\t<=u)):false=Fz t u:=by
 unfold Fz;refine Eq.symm ?_;rw[PV];intro q;rw[Á,Á,Á,Á,decide_eq_true_eq,decide_eq_true_eq,decide_eq_true_eq,decide_eq_true_eq] at q;exact h ⟨q.1.1,q.1.2,q.2.1.1,q.2.1.2⟩
theorem sR(k:Nat)(x:D)(z:Z):ao T (k + 4) mD [.d x] z=some (.ok (.d (.bl (Js x))) z):=by
 refine W.ok (aW (ps:=1) (ns:=3) (b:=iQ) rfl rfl (-0) ?_)
 cases x with
 |tup l =>
  match l with
  |[a,b] =>
   refine Wo (fw k a z) ?_;cases a with
   |int t =>
    refine Wo (fw k b z) ?_;cases b with
    |int u =>
     refine ib (b:=decide (1<=u)) (λh1=>ib (b:=!decide (u<=1000)) (λh2=>?_) λh2=>ib (b:=decide (0<=t)) (λh3=>ib (b:=!decide (t<=u)) (λh4=>?_) λh4=>?_) λh3=>?_) λh1=>?_
     ·exact sb (sQ λq=>by rw[ô,decide_eq_false_iff_not] at h2;exact h2 q.2.1)
     ·exact sb (sQ λq=>by rw[ô,decide_eq_false_iff_not] at h4;exact h4 q.2.2.2)
     ·rw[Sa,decide_eq_true_eq] at h2 h4;rw[decide_eq_true_eq] at h1 h3;refine Wo (fy k t u z ∅ (jh ∅)) (sb (show(((gcd t u:Nat):Int) == 1)=Fz t u from ?_))
      unfold Fz;rw[decide_eq_true h1,decide_eq_true h2,decide_eq_true h3,decide_eq_true h4];rfl
     ·exact sb (sQ λq=>by rw[decide_eq_false_iff_not] at h3;exact h3 q.2.2.1)
     ·exact sb (sQ λq=>by rw[decide_eq_false_iff_not] at h1;exact h1 q.1)
    |_=>exact sb rfl
   |_=>exact sb rfl
  |[]=>exact sb rfl|[_]=>exact sb rfl|_::_::_::_=>exact sb rfl
 |_=>exact sb rfl
def CP(n:Nat):D->Bool
 |.tup l=>(l.length == n)&&l.all Js|_=>false
theorem Ao(h:sO x=true):∃ m ts,x=.tup [.int m,.tup ts]/\1<=m/\m<=6/\ts.length<=8/\(∀ t∈ts,ph t m=true)/\pj ts=true:=by
 cases x with
 |tup l =>
  match l,h with
  |[a,t],h =>
   unfold sO Jr at h;cases a with
   |int m =>
    rw[Á,Á,decide_eq_true_eq,decide_eq_true_eq] at h;obtain⟨h1,h2,h3⟩:=h;unfold mF at h3;cases t with
    |tup ts =>
     rw[Á,Á,decide_eq_true_eq,PZ] at h3;exact⟨m,ts,rfl,h1,h2,h3.1,h3.2.1,h3.2.2⟩
    |_=>cases h3
   |_=>cases h
 |_=>cases h
theorem pq(k:Nat)(hw:sO (.tup [.int m,.tup ts])=true)(x:D)(z:Z):ao T (k + 9) jw [.d (.tup [.int m,.tup ts]),.d x] z=some (.ok (.d (.bl (CP ts.length x))) z):=by
 obtain⟨m',ts',e,_,_,h8,_⟩:=Ao hw;cases e;refine W.ok (aW (ps:=2) (ns:=2) (b:=fI) rfl rfl (-0) (Wo (dr k z hw) ?_))
 cases x with
 |tup l =>
  have e:((l.length:Int) == (ts.length:Int))=(l.length == ts.length):=by rw[O7,beq_iff_eq,beq_iff_eq];omega
  refine ib (b:=!((l.length:Int) == (ts.length:Int))) (λh=>?_) λh=>?_
  ·rw[e,ô] at h;exact sb (show false=((l.length == ts.length)&&_) by rw[h];rfl)
  ·rw[e,Sa] at h;refine ip (cm (by rw[beq_iff_eq] at h;omega)) (fF (λx=>.bl (Js x)) (λx _=>Wo (sR (k + 4) x z) ⟨rfl,rfl⟩) (af (fS l Js) ?_ :))
   exact sb (b:=l.all Js) (show _=((l.length == ts.length)&&l.all Js) by rw[h];rfl)
 |_=>exact sb rfl
theorem bY(k:Nat)(hw:sO (.tup [.int m,.tup ts])=true)(z:Z)(h:CP ts.length x=true):ao T (k + 10) bK [.d (.tup [.int m,.tup ts]),.d x] z=some (.ok (.d .bw) z) :=
 W.ok (aW (ps:=2) (ns:=2) (b:=d4) rfl rfl (-0) (Wo (pq k hw x z) (ie (b:=!CP ts.length x) (by rw[h];rfl) (sd rfl))))
def ZI(z:Z):Prop:=∃ n b,z=some (n,b)/\0<=n/\(b=false->n < 2147483647)
theorem Ap{T:List Df}{k f ps ns:Nat}{b:Sm}{l:List S}{z:Z}{Q:S->Z->Prop}{E:Nat->Z->Prop}(hz:ZI z)(h:T[f]?=some (.code ps ns b))(hl:l.length=ps)(hn:ps<=ns)(q:WS (jo T (k + 2)) false b (start ns (l.map gA)) z (λo z1=>match o with
  |.nx _=>Q (.d .bw) z1
  |.rt s=>Q s z1) E):W (ao T (k + 3) f l) z Q E:=by
 obtain⟨n,c,rfl,_⟩:=hz;refine aW h hl hn (q.mono (λo z1 h=>?_) λ_ _ h=>h);cases o <;> exact h
theorem xh{a:Int}{n:Nat}(h:a.natAbs < n)(hn:n<=2 ^ 64:=by decide):a.natAbs < ir:=ê h (ã hn (-0))
theorem qL{i j:Int}(hi:i.natAbs < 2 ^ 64)(hj:j.natAbs < 2 ^ 64):dU .mul (.int i) (.int j)=some (.d (.int (i * j))):=by
 show(if i.natAbs < ir/\j.natAbs < ir then some (S.d (.int (i * j))) else none)=_;rw[if_pos ⟨xh hi,xh hj⟩]
theorem LR{i j:Int}(hj:0 < j)(hb:j.natAbs < 2 ^ 64):dU .fdiv (.int i) (.int j)=some (.d (.int (i / j))):=by
 show(if 0 < j/\j.natAbs < ir then some (S.d (.int (i / j))) else none)=_;rw[if_pos ⟨hj,xh hb⟩]
def Drawn(m:Int)(s:S)(z1:Z):Prop:=ZI z1/\∃ r:Nat,s=.d (.int r)/\(r:Int) < m
theorem cL(k:Nat)(m:Int)(hz:ZI z)(m0:0 < m)(m1:m < 2 ^ 32):W (ao T (k + 3) aE [.z,.d (.int m)]) z (Drawn m) NE:=by
 have fin:∀ (a:Int) (z1:Z),ZI z1->Drawn m (.d (.int (a % m))) z1:=λa z1 h=>by
  have h0:=SU a (show m≠0 by omega)
  exact⟨h,(a % m).toNat,by rw[Int.toNat_of_nonneg h0],by rw[Int.toNat_of_nonneg h0];exact emod_lt_of_pos _ m0⟩
 refine Ap hz (ps:=2) (ns:=4) (b:=iV) rfl rfl (-0) ?_
 obtain⟨n,b,rfl,n0,n1⟩:=hz;cases b with
 |true =>
  refine(af (qK (i:=n) m0) ?_ :);refine(af (LR (i:=n) m0 ∅) ?_ :)
  exact fin n _ ⟨n / m,true,rfl,Ur n0 ∅,λh=>nomatch h⟩
 |false =>
  have n1:=n1 rfl;have e1:∀ a:Int,0<=a % 2147483647/\a % 2147483647 < 2147483647:=λa=>⟨emod_nonneg _ (-0),emod_lt_of_pos _ (-0)⟩
  have e2:∀ a:Int,0<=a % 2147483629/\a % 2147483629 < 2147483629:=λa=>⟨emod_nonneg _ (-0),emod_lt_of_pos _ (-0)⟩
  have s1:∀ a:Int,(a % 2147483647).natAbs < 2 ^ 64:=λa=>by have:=e1 a;omega
  have s2:∀ a:Int,(a % 2147483629).natAbs < 2 ^ 64:=λa=>by have:=e2 a;omega
  refine(af (qL (i:=n) (j:=48271) ∅ (-0)) ?_ :)
  have a1:=e1 (n * 48271 + 29);refine(af (qL (s1 (n * 48271 + 29)) (s1 (n * 48271 + 29))) ?_ :);refine(af (qL (i:=39373) (-0) (s1 (n * 48271 + 29))) ?_ :)
  refine(af (qL (s2 _) (s2 _)) ?_ :);refine(af (qL (i:=16807) (-0) (s2 _)) ?_ :)
  refine(af (qK m0) ?_ :);exact fin _ _ ⟨_,false,rfl,a1.1,λ_=>a1.2⟩
theorem xj(k:Nat)(ns:List Int)(j:Nat)(z:Z):∃ c:Int,ao T (k + 3) iN [.d (.lst (ns.map D.int)),.d (.int j)] z=some (.ok (.d (.int c)) z):=by
 by_cases h:j < ns.length
 ·refine⟨ns[j],W.ok (aW (ps:=2) (ns:=2) (b:=dm) rfl rfl (-0) (it (b:=decide ((j:Int) < ((ns.map D.int).length:Int))) (by simp[h]) ?_))⟩
  refine(af (o:=iB (.lst (ns.map D.int)) (.int j)) (L2.rD (v:=.int ns[j]) (by simp[h])) ?_ :)
  exact sd rfl
 ·exact⟨0,W.ok (aW (ps:=2) (ns:=2) (b:=dm) rfl rfl (-0) (ie (b:=decide ((j:Int) < ((ns.map D.int).length:Int))) (by simp;omega) (sd rfl)))⟩
theorem CQ(k:Nat)(ns:List Int)(j:Nat)(z:Z):∃ (n:Int) (b:Bool),ZI (some (n,b))/\ao T (k + 4) kN [.d (.lst (ns.map D.int)),.d (.int j)] z=some (.ok (.fr [.int n,.bl b]) z):=by
 obtain⟨c,hc⟩:=xj k ns j z;by_cases h:(10 ^ 18:Int)<=c
 ·exact⟨c - 10 ^ 18,true,⟨_,_,rfl,by omega,λh=>nomatch h⟩,W.ok (aW (ps:=2) (ns:=3) (b:=eF) rfl rfl (-0) (Wo hc (it (b:=decide ((10 ^ 18:Int)<=c)) (decide_eq_true h) (sd rfl))))⟩
 ·refine⟨c % 2147483647,false,⟨_,_,rfl,emod_nonneg _ (-0),λ_=>emod_lt_of_pos _ (-0)⟩,W.ok (aW (ps:=2) (ns:=3) (b:=eF) rfl rfl (-0) (Wo hc (ie (b:=decide ((10 ^ 18:Int)<=c)) (decide_eq_false h) (sd rfl))))⟩
theorem pz(h0:0<=m)(h1:m < 100000):qz .rng1 [.int m]=some ((é m.toNat).map λ(i:Nat)=>D.int i):=by
 show(if inR m=true then _ else none)=_;rw[if_pos (kz.mpr ⟨by omega,h1⟩)]
theorem nA:∀ l:List Int,b9 (l.map D.int)=true/\cy (l.map D.int)=0
 |[]=>⟨rfl,rfl⟩
 |x::r=>by
  obtain⟨h1,h2⟩:=nA r;refine⟨h1,?_⟩;show Yg 0 (cy (r.map D.int))=0;rw[h2];rfl
theorem Aq(l:List Int):kn (.lst (l.map D.int))=true:=by
 obtain⟨h1,h2⟩:=nA l;show(b9 (l.map D.int)&&decide (cy (l.map D.int) + 1<=40))=true;rw[h1,h2];rfl
theorem CS(n:Nat):(é n).map (λ(i:Nat)=>D.int i)=((é n).map λ(i:Nat)=>(i:Int)).map D.int:=by
 rw[à];rfl
theorem FA{l:List Int}{j:Nat}(h:j < l.length):(l.map D.int)[j]?=some (.int l[j]):=by rw[è,Ø h];rfl
theorem kQ{j:Nat}(h:l[j]?=some x):iB (.lst l) (.int j)=some x:=L2.rD h
theorem CT{j:Nat}(h:l[j]?=some x):iB (.tup l) (.int j)=some x:=L2.rD h
def pr(p:Int × Int):D:=.tup [.int p.1,.int p.2]
def ky(p:Int × Int):List Int:=[p.1,p.2]
theorem NX(a b c d:Int):MySort.aN [a,b] [c,d]=if a=c then(if b=d then false else decide (b < d)) else decide (a < c):=rfl
def Ch:List (Int × Int)->Prop
 |a::b::r=>HT.leB (ky a) (ky b)=true/\Ch (b::r)|_=>True
theorem vd(h:MySort.aN (ky p) (ky q)=true):HT.leB (ky p) (ky q)=true:=by
 unfold HT.leB;unfold ky at h ⊢;rw[NX] at h ⊢;by_cases h1:p.1=q.1
 ·rw[if_pos h1] at h;rw[if_pos h1.symm];by_cases h2:p.2=q.2
  ·rw[if_pos h2] at h;cases h
  ·rw[if_neg h2] at h;rw[if_neg (OT h2)];simp only[decide_eq_true_eq] at h;simp;omega
 ·rw[if_neg h1] at h;rw[if_neg (OT h1)];simp only[decide_eq_true_eq] at h;simp;omega
def qb(k:Int × Int):List (Int × Int)->List (Int × Int)
 |[]=>[k]|y::r=>if MySort.aN (ky y) (ky k) then y::qb k r else k::y::r
def qM:List (Int × Int)->List (Int × Int)
 |[]=>[]|k::r=>qb k (qM r)
theorem qN(k:Int × Int):∀ l,(qb k l).Perm (k::l)
 |[]=>.refl _
 |y::r=>by
  unfold qb;split
  ·exact((qN k r).cons y).trans (.swap _ _ _)
  ·exact .refl _
theorem pA:∀ l,(qM l).Perm l
 |[]=>.refl _|k::r=>(qN k _).trans ((pA r).cons k)
theorem yL(k:Int × Int):∀ l,Ch l->Ch (qb k l)
 |[],_=>trivial
 |[y],_=>by
  unfold qb;split
  ·rename_i h;exact⟨vd h,trivial⟩
  ·rename_i h;refine⟨?_,trivial⟩;unfold HT.leB;simpa using h
 |y::x::r,h=>by
  obtain⟨h1,h2⟩:=h;have ih:=yL k (x::r) h2;unfold qb;split
  ·rename_i hy;unfold qb at ih ⊢;split at ih
   ·rename_i hx;rw[if_pos hx];exact⟨h1,ih⟩
   ·rename_i hx;rw[if_neg hx];exact⟨vd hy,ih⟩
  ·rename_i hy;refine⟨?_,h1,h2⟩;unfold HT.leB;simpa using hy
theorem ve:∀ l,Ch (qM l)
 |[]=>trivial|k::r=>yL k _ (ve r)
theorem vf(k:Int × Int):∀ l:List (Int × Int),rV (pr k) (l.map pr)=(qb k l).map pr
 |[]=>rfl
 |y::r=>by
  unfold qb;show(if MySort.aN (ky y) (ky k) then pr y::rV (pr k) (r.map pr) else pr k::pr y::r.map pr)=_;split
  ·rw[vf k r];rfl
  ·rfl
theorem qO:∀ l:List (Int × Int),hY (l.map pr)=(qM l).map pr
 |[]=>rfl
 |k::r=>by
  show rV (pr k) (hY (r.map pr))=_;rw[qO r,vf];rfl
theorem LS(p q:Int × Int):wA (pr p) (pr q)=some (MySort.aN (ky p) (ky q)):=by
 show(if (p.1 == q.1)=true then(if (p.2 == q.2)=true then some false else some (decide (p.2 < q.2))) else some (decide (p.1 < q.1)))=some (if p.1=q.1 then(if p.2=q.2 then false else decide (p.2 < q.2)) else decide (p.1 < q.1));simp only[beq_iff_eq];split
 ·split <;> rfl
 ·rfl
theorem FC(p q:Int × Int):cR (pr p) (pr q)=true:=by
 unfold cR;rw[LS];show(true&&((some (MySort.aN (ky p) (ky q)) == some (MySort.aN (ky p) (ky q)))&&(((p.1 == q.1)&&((p.2 == q.2)&&true)) || !([p.1,p.2] == [q.1,q.2]))))=true;rw[beq_self_eq_true,Pw,Pw,UP];by_cases h1:p.1=q.1 <;> by_cases h2:p.2=q.2 <;> simp[h1,h2]
theorem Ar(l:List (Int × Int)):dh (l.map pr)=true:=by
 refine á.mpr λx hx=>?_;obtain⟨p,_,rfl⟩:=Î.mp hx;show(true&&(true&&(l.map pr).all (cR (pr p))))=true;refine á.mpr λy hy=>?_;obtain⟨q,_,rfl⟩:=Î.mp hy;exact FC p q
theorem As(h:l.length < 64):mR .sorted [.lst (l.map pr)]=some (.fr ((qM l).map pr)):=by
 show(if (l.map pr).length < 64/\dh (l.map pr)=true then some (S.fr (hY (l.map pr))) else(ui (l.map pr)).map S.fr)=_;rw[if_pos ⟨by rw[Ç];exact h,Ar l⟩,qO]
theorem vg:∀ {l:List (Int × Int)},Ch l->pj (l.map pr)=true
 |[],_=>rfl|[_],_=>rfl
 |a::b::r,h=>by
  have ih:=vg h.2;show((dB (pr a::pr b::r.map pr) (pr b::r.map pr)).all LQ)=true;have e:dB (pr a::pr b::r.map pr) (pr b::r.map pr)=.tup [pr a,pr b]::dB (pr b::r.map pr) (r.map pr):=rfl;rw[e,O5,Á];exact⟨h.1,ih⟩
theorem iY:∀ l:List (Int × Int),cF (l.map pr)=true
 |[]=>rfl
 |_::r=>by
  show(bare _&&cF (r.map pr))=true;rw[iY r];rfl
def cB(m:Int)(ps:List (Int × Int)):D:=.tup [.int m,.tup (ps.map pr)]
structure aG(m:Int)(ps:List (Int × Int)):Prop where
 m1:1<=m
 m6:m<=6
 len:ps.length<=8
 tie:∀ p∈ps,0<=p.1/\p.1 < p.2/\p.2 < m
 ch:Ch ps
theorem aG.FD(g:aG m ps):sO (cB m ps)=true:=by
 unfold cB sO Jr mF;simp only[Á,decide_eq_true_eq,PZ,Ç];refine⟨g.m1,g.m6,g.len,λt ht=>?_,vg g.ch⟩;obtain⟨p,hp,rfl⟩:=Î.mp ht;obtain⟨h1,h2,h3⟩:=g.tie p hp;unfold pr ph aY;simp only[Á,decide_eq_true_eq];omega
theorem Jt(h1:0<=i)(hi:i < 100)(h0:-100 < m)(h:m < 100000):qz .rng2 [.int i,.int m]=some ((é (m - i).toNat).map λ(k:Nat)=>D.int (i + k)):=by
 show(if inR i=true/\inR m=true then _ else none)=_;rw[if_pos ⟨kz.mpr ∅,kz.mpr ∅⟩]
theorem sT{L:List D}{n:Nat}(f:D->Bool)(h:n < L.length)(ha:L.all f=true):∃ x,L[n]?=some x/\f x=true :=
 ⟨L[n],Ø h,á.mp ha _ (Pb h)⟩
def Mt(a b:Int):D->Bool
 |.int i=>decide (a<=i)&&decide (i<=b)|_=>false
theorem CU(h:Mt a b x=true):∃ i,x=.int i/\a<=i/\i<=b:=by
 cases x with
 |int i =>
  unfold Mt at h;rw[Á,decide_eq_true_eq,decide_eq_true_eq] at h;exact⟨i,rfl,h⟩
 |_=>cases h
theorem xk(l:List D)(h:0<=n):cutD l none (some n)=l.take n.toNat:=by
 obtain⟨k,rfl⟩:=Si h;have h1:HT.c9 l.length l.length (some (k:Int))=min k l.length:=HT.rB _ _ k;unfold cutD;rw[h1];show(l.drop 0).take (min k l.length - 0)=_;rw[List.drop_zero,Nat.sub_zero,PY];rcases Yi k l.length with h | h
 ·rw[QK h]
 ·rw[T4 h,QI,Qe h]
theorem LU{α:Type}{l:List α}{a:α}:(l++[a]).length=l.length + 1:=by rw[Ü];rfl
theorem CV(a b:Int):(if b < a then b else a)=min a b/\(if b > a then b else a)=max a b:=by
 constructor <;> (split <;> omega)
theorem l7{P:Int × Int->Prop}:∀ {xs ys:List D},PySem.Paired (λ_ y=>∃ c,y=pr c/\P c) xs ys->∃ cs:List (Int × Int),ys=cs.map pr/\cs.length=xs.length/\∀ c∈cs,P c
 |[],_,h=>by cases h;exact⟨[],rfl,rfl,λc hc=>nomatch hc⟩
 |x::r,_,h=>by
  cases h with
  |cons h1 h2 =>
   obtain⟨c,rfl,hc⟩:=h1;obtain⟨cs,rfl,hl,ha⟩:=l7 h2;refine⟨c::cs,rfl,by rw[æ,hl];rfl,λd hd=>?_⟩
   rcases Û.mp hd with rfl | hd
   ·exact hc
   ·exact ha d hd
def FE(m:Int)(p:Int × Int):Prop:=0<=p.1/\p.1 < p.2/\p.2 < m
abbrev CW(mo m:Int)(ps:List (Int × Int))(o4 o5 o6:Option S):Env:=[some .z,some (.d (.int mo)),some (.d (.int m)),some (.fr (ps.map pr)),o4,o5,o6]
theorem Ju:CW mo m (ps++[p]) o4 o5 o6=[some .z,some (.d (.int mo)),some (.d (.int m)),some (.fr (ps.map pr++[pr p])),o4,o5,o6]:=by rw[CW,OM];rfl
theorem CY{mo m:Int}{ps:List (Int × Int)}(m1:1<=m)(m6:m<=6)(h0:0<=mo)(h8:mo<=8)(hp:∀ p∈ps,FE m p)(hl:ps.length < 64):∃ qs,mR .sorted [.lst (cutD (ps.map pr) none (some mo))]=some (.fr (qs.map pr))/\aG m qs/\(qs.length:Int)<=mo:=by
 have hl':(ps.take mo.toNat).length < 64:=by rw[î];omega
 refine⟨qM (ps.take mo.toNat),by rw[xk _ h0,← SQ];exact As hl',?_⟩
 have hperm:=pA (ps.take mo.toNat);have hlen:=hperm.length_eq;rw[î] at hlen;exact⟨⟨m1,m6,by omega,λq hq=>hp q (Pl (hperm.mem_iff.mp hq)),ve _⟩,by omega⟩
theorem Au(k:Nat){mo:Int}{z:Z}(hz:ZI z)(h0:0<=mo)(h8:mo<=8):W (ao T (k + 5) oU [.z,.d (.int mo)]) z (λs z1=>ZI z1/\∃ m ps,s=.d (cB m ps)/\aG m ps/\(ps.length:Int)<=mo) NE:=by
 refine Ap hz (ps:=2) (ns:=7) (b:=j5) rfl rfl (-0) ?_
 refine(cL (k + 1) 8 hz (-0) (-0)).imp λs z1 ⟨hz1,n,e,hn⟩=>?_
 subst e;obtain⟨x,ex,hx⟩:=sT (L:=[D.int 6,.int 5,.int 4,.int 3,.int 4,.int 5,.int 2,.int 1]) (n:=n) (Mt 1 6) (by simp only[æ,PK];omega) (-0)
 obtain⟨m,rfl,m1,m6⟩:=CU hx;refine(af (kQ ex) ?_ :);refine(oO (.fr []) (CW mo m [] none none none) ?_ ?_ ?_ :)
 ·exact⟨rfl,rfl⟩
 ·rfl
 refine Gz (λρ z2=>ZI z2/\∃ ps:List (Int × Int),ρ=CW mo m ps none none none/\(∀ p∈ps,FE m p)/\ps.length<=5) ?_ ?_
 ·refine ib (b:=decide (1 < m)) (λh=>?_) λh=>⟨hz1,[],rfl,(λp hp=>nomatch hp),by simp⟩
  have h:=of_decide_eq_true h;refine(cL (k + 1) 5 hz1 (-0) (-0)).imp λs z2 ⟨hz2,v,e,hv⟩=>?_
  subst e;refine ib (b:=decide (0 < (v:Int))) (λh1=>?_) λh1=>⟨hz2,[],rfl,(λp hp=>nomatch hp),by simp⟩
  refine(af (Jt (i:=1) (m:=m) (-0) (-0) ∅ ∅) ?_ :)
  refine ip (by rw[Ç,p6];simp only[most];omega) (LP (I:=ZI) (P:=λ_ y=>∃ c,y=pr c/\FE m c) hz2 (λx hx z3 hz3=>?_) λys z3 hz3 hys=>?_)
  ·obtain⟨i,hi,rfl⟩:=Î.mp hx;have hi:=ì.mp hi;refine(cL (k + 1) (1 + (i:Int)) hz3 ∅ ∅).imp λs z4 ⟨hz4,a,e,ha⟩=>?_
   subst e;exact⟨hz4,((a:Int),1 + (i:Int)),rfl,by show(0:Int)<=a;omega,ha,by show 1 + (i:Int) < m;omega⟩
  ·obtain⟨cs,rfl,hl,ha⟩:=l7 hys;rw[Ç,p6] at hl;exact⟨hz3,cs,rfl,ha,by omega⟩
 ·rintro ρ z2 ⟨hz2,ps,rfl,hp,hl⟩;refine(cL (k + 1) (mo + 1) hz2 ∅ ∅).imp λs z3 ⟨hz3,t,e,ht⟩=>?_
  subst e;have hj:(if decide (1 < m)=true then(1:Int) else 0)=0∨((if decide (1 < m)=true then(1:Int) else 0)=1/\1 < m):=by
   by_cases h:1 < m
   ·exact .inr ⟨by rw[decide_eq_true h];rfl,h⟩
   ·exact .inl (by rw[decide_eq_false h];rfl)
  refine(af (qL (i:=(t:Int)) (j:=if decide (1 < m)=true then(1:Int) else 0) ∅ (by rcases hj with h | h <;> (first | rw[h] | rw[h.1]) <;> decide)) ?_ :)
  have hc:∃ c:Nat,(t:Int) * (if decide (1 < m)=true then(1:Int) else 0)=c/\c<=8/\(0 < c->1 < m):=by
   rcases hj with h | h
   ·exact⟨0,by rw[h,Vo];rfl,by omega,λh=>absurd h ∅⟩
   ·exact⟨t,by rw[h.1,TJ],by omega,λ_=>h.2⟩
  obtain⟨c,ec,hc8,hcm⟩:=hc;refine(af (o:=qz .rng1 [.int ((t:Int) * (if decide (1 < m)=true then(1:Int) else 0))]) (a:=(é c).map λ(i:Nat)=>D.int i) (by rw[ec,pz ∅ ∅,PY]) ?_ :)
  refine kL (λxs ρ z=>ZI z/\(0 < xs.length->1 < m)/\∃ (ps:List (Int × Int)) (o4 o5 o6:Option S),ρ=CW mo m ps o4 o5 o6/\(∀ p∈ps,FE m p)/\ps.length + xs.length<=13) _ ⟨hz3,λh=>hcm (by rw[Ç,p6] at h;exact h),ps,_,_,_,rfl,hp,by rw[Ç,p6];omega⟩ ?_ ?_
  ·rintro x r ρ z4 ⟨hz4,hm,ps,o4,o5,o6,rfl,hp,hl⟩;have hm:=hm (by simp)
   refine(cL (k + 1) m hz4 ∅ ∅).imp λs z5 ⟨hz5,a,e,ha⟩=>?_
   subst e;refine(cL (k + 1) (m - 1) hz5 ∅ ∅).imp λs z6 ⟨hz6,b,e,hb⟩=>?_
   subst e;refine(af (qK (i:=(a:Int) + 1 + b) (j:=m) ∅) ?_ :)
   have hq:0<=((a:Int) + 1 + b) % m/\((a:Int) + 1 + b) % m < m/\((a:Int) + 1 + b) % m≠a:=by
    refine⟨SU _ ∅,SV _ ∅,?_⟩
    by_cases h:(a:Int) + 1 + b < m
    ·rw[R1 ∅ h];omega
    ·rw[show(a:Int) + 1 + b=((a:Int) + 1 + b - m) + m from by omega,Wx,R1 ∅ ∅];omega
   generalize ((a:Int) + 1 + b) % m=q at hq ⊢;refine ip ⟨rfl,by rw[Ç];simp only[most,æ] at hl ⊢;omega⟩ ?_
   refine⟨hz6,λ_=>hm,ps++[(min (a:Int) q,max (a:Int) q)],some (.d x),some (.d (.int a)),some (.d (.int q)),?_,λp hp'=>?_,by rw[LU];simp only[æ] at hl;omega⟩
   ·rw[Ju,← (CV (a:Int) q).1,← (CV (a:Int) q).2];rfl
   ·rcases Ì.mp hp' with h | h
    ·exact hp p h
    ·rw[Ð.mp h];show 0<=min (a:Int) q/\min (a:Int) q < max (a:Int) q/\max (a:Int) q < m;omega
  ·rintro ρ z4 ⟨hz4,_,ps,o4,o5,o6,rfl,hp,hl⟩;obtain⟨qs,e,g,hq⟩:=CY m1 m6 h0 h8 hp (by simp only[PK] at hl;omega)
   refine(af e ?_ :);exact⟨hz4,m,qs,rfl,g,hq⟩
theorem yM(hj:0 < j)(hb:big j):dU .fdiv (.int i) (.int j)=some (.d (.int (i / j))):=by
 show(if 0 < j/\j.natAbs < ir then some (S.d (.int (i / j))) else none)=_;rw[if_pos ⟨hj,sP ∅ hb⟩]
theorem yN(i0:0<=i)(hi:big i)(j0:0<=j)(hj:big j):dU .mul (.int i) (.int j)=some (.d (.int (i * j))):=by
 show(if i.natAbs < ir/\j.natAbs < ir then some (S.d (.int (i * j))) else none)=_;rw[if_pos ⟨sP i0 hi,sP j0 hj⟩]
theorem fz(h:0 < b):0 < ((gcd t b:Nat):Int):=by
 have:=Int.gcd_pos_of_ne_zero_right (a:=t) (b:=b) ∅
 omega
theorem nB(h:0 < b)(hb:big b):big (gcd t b:Int):=Te (Ua h (WL t b)) hb
def cS(t b:Int):Int × Int:=(t / gcd t b,b / gcd t b)
theorem qP(k:Nat)(t b:Int)(z:Z)(h0:0 < b)(h1:big b):ao T (k + 4) oP [.d (.int t),.d (.int b)] z=some (.ok (.d (pr (cS t b))) z):=by
 refine W.ok (aW (ps:=2) (ns:=3) (b:=oV) rfl rfl (-0) (Wo (fy k t b z h0 h1) ?_))
 refine(af (yM (i:=t) (fz (t:=t) h0) (nB h0 h1)) ?_ :);refine(af (yM (i:=b) (fz (t:=t) h0) (nB h0 h1)) ?_ :);exact sd rfl
structure Bd(n:Nat)(c:Int × Int):Prop where
 t0:0<=c.1
 tb:c.1<=c.2
 b0:0 < c.2
 bb:c.2<=2 ^ n
theorem kR(h:n<=3999)(hi:i<=2 ^ n):big i:=by
 refine Te hi ?_;have h2:(2:Nat) ^ n < 2 ^ 4000:=VM (-0) ∅
 have e:((2 ^ n:Nat):Int) < ((2 ^ 4000:Nat):Int):=Int.ofNat_lt.mpr h2
 rwa [R3,R3] at e
theorem Bd.t(h:Bd n c)(hn:n<=3999):big c.1:=kR hn (so h.tb h.bb)
theorem Bd.b(h:Bd n c)(hn:n<=3999):big c.2:=kR hn h.bb
theorem Bd.mul(hc:Bd n c)(hd:Bd m d):Bd (n + m) (c.1 * d.1,c.2 * d.2):=⟨QJ hc.t0 hd.t0,Q5 hc.tb hd.tb hd.t0 (ó hc.b0),Rg hc.b0 hd.b0,by
 rw[UB];exact Q5 hc.bb hd.bb (ó hd.b0) (so (ó hc.b0) hc.bb)⟩
theorem CZ(k:Nat)(hc:Bd n c)(hd:Bd m d)(hn:n + m<=3999)(z:Z):ao T (k + 5) yI [.d (pr c),.d (pr d)] z=some (.ok (.d (pr (cS (c.1 * d.1) (c.2 * d.2)))) z):=by
 have hm:=hc.mul hd;refine W.ok (aW (ps:=2) (ns:=2) (b:=sJ) rfl rfl (-0) ?_)
 refine(af (yN hc.t0 (hc.t ∅) hd.t0 (hd.t ∅)) ?_ :)
 refine(af (yN (ó hc.b0) (hc.b ∅) (ó hd.b0) (hd.b ∅)) ?_ :)
 exact Wo (qP k _ _ z hm.b0 (hm.b ∅)) (sd rfl)
theorem kS(k:Nat)(c:Int × Int)(z:Z):ao T (k + 3) lZ [.d (pr c)] z=some (.ok (.d (pr (c.2 - c.1,c.2))) z) :=
 W.ok (aW (ps:=1) (ns:=1) (b:=xf) rfl rfl (-0) (sd rfl))
theorem nC(h0:0 < b):t=gcd t b * (cS t b).1/\b=gcd t b * (cS t b).2:=by
 constructor
 ·exact(VQ (Int.gcd_dvd_left t b)).symm
 ·exact(VQ (WL t b)).symm
theorem sU(h0:0 < b):gcd (cS t b).1 (cS t b).2=1:=Int.gcd_ediv_gcd_ediv_gcd_of_ne_zero_right ∅
theorem nF(h0:0 < b):0 < (cS t b).2:=by
 have g0:=fz (t:=t) h0;obtain⟨_,e⟩:=nC (t:=t) h0;refine Int.pos_of_mul_pos_right (a:=gcd t b) ?_ g0;omega
theorem FF(h0:0 < b)(h1:0<=t)(h2:t<=b):0<=(cS t b).1/\(cS t b).1<=(cS t b).2/\(cS t b).2<=b:=by
 have g0:=fz (t:=t) h0;have p0:=nF (t:=t) h0;obtain⟨e1,e2⟩:=nC (t:=t) h0;refine⟨Ur h1 (ó g0),Int.le_of_mul_le_mul_left (a:=gcd t b) ∅ g0,?_⟩
 have:1 * (cS t b).2<=(gcd t b:Int) * (cS t b).2:=O3 ∅ ∅
 omega
theorem xl(h:gcd a b=1)(hd:b∣a * d):b∣d:=by
 have h1:Nat.Coprime b.natAbs a.natAbs:=by rw[Nat.coprime_comm];exact h
 exact VB.mp (h1.dvd_of_dvd_mul_left (by rw[← UI];exact VB.mpr hd))
theorem pB(hb:0 < b)(hd:0 < d)(h1:gcd a b=1)(h2:gcd c d=1)(h:a * d=c * b):a=c/\b=d:=by
 have k1:b∣d:=xl h1 ⟨c,by rw[h,kr]⟩
 have k2:d∣b:=xl h2 ⟨a,by rw[← h,kr]⟩
 have e:b=d:=Xl (Ua hd k1) (Ua hb k2);subst e;exact⟨RQ ∅ h,rfl⟩
def cH(c:Int × Int):Prop:=1<=c.2/\c.2<=1000/\0<=c.1/\c.1<=c.2/\gcd c.1 c.2=1
theorem cH.ch(h:cH c):Js (pr c)=true:=by
 obtain⟨h1,h2,h3,h4,h5⟩:=h;show Fz c.1 c.2=true;unfold Fz;rw[h5,decide_eq_true h1,decide_eq_true h2,decide_eq_true h3,decide_eq_true h4];rfl
theorem FG(h0:0 < b)(hb:b<=1000)(h1:0<=t)(h2:t<=b):cH (cS t b):=by
 obtain⟨y0,yx,xb⟩:=FF h0 h1 h2;have:=nF (t:=t) h0;exact⟨by omega,by omega,y0,yx,sU h0⟩
theorem qc(k:Nat)(t b:Int)(z:Z)(h0:0 < b)(h1:big b):ao T (k + 3) jy [.d (.int t),.d (.int b)] z=some (.ok (.d (pr (cS t b))) z):=by
 refine W.ok (aW (ps:=2) (ns:=4) (b:=fP) rfl rfl (-0) (GA (λn ρ z1=>z1=z/\∃ c d:Int,ρ=[some (.d (.int t)),some (.d (.int b)),some (.d (.int c)),some (.d (.int d))]/\GT n c d/\gcd c d=gcd t b/\(d=0->0<=c)) (2 * 4000 + 1) ⟨rfl,_,b,rfl,⟨ó h0,.inl ⟨4000,rfl,h1⟩⟩,rfl,λh=>by omega⟩ (-0) ?_))
 rintro n ρ z1 ⟨rfl,c,d,rfl,g,hg,hc⟩;refine ib (b:=!(d == 0)) (λhd=>?_) λhd=>?_
 ·rw[ô,beq_eq_false_iff_ne] at hd;have hd':0 < d:=by have:=g.1;omega
  obtain⟨m,hm,g'⟩:=g.step hd';refine(af (qK (i:=c) hd') ?_ :);exact⟨m,hm,rfl,d,c % d,rfl,g',(yK c d).trans hg,λ_=>Int.le_of_lt hd'⟩
 ·rw[Sa,beq_iff_eq] at hd;subst hd;rw[Ww] at hg;have e:c=((gcd t b:Nat):Int):=by have:=hc rfl;omega
  subst e;refine(af (yM (i:=t) (fz (t:=t) h0) (nB h0 h1)) ?_ :);refine(af (yM (i:=b) (fz (t:=t) h0) (nB h0 h1)) ?_ :);exact sd rfl
def Jv:D->Bool
 |.tup [.int t,.int b]=>Fz t b|_=>false
theorem FH(h:Jv x=true):∃ c,x=pr c/\cH c:=by
 unfold Jv at h;split at h
 ·rename_i t b;unfold Fz at h;simp only[Á,decide_eq_true_eq,beq_iff_eq] at h;exact⟨(t,b),rfl,h.1.1,h.1.2,h.2.1.1,h.2.1.2,by have:=h.2.2;show gcd t b=1;omega⟩
 ·cases h
theorem sV(k:Nat)(hz:ZI z):W (ao T (k + 4) jz [.z]) z (λs z1=>ZI z1/\∃ c,s=.d (pr c)/\cH c) NE:=by
 refine Ap hz (ps:=1) (ns:=4) (b:=fQ) rfl rfl (-0) ?_
 refine(cL k 16 hz (-0) (-0)).imp λs z1 ⟨hz1,v,e,v1⟩=>?_
 subst e;refine ib (b:=decide ((v:Int) < 9)) (λh2=>?_) λh2=>?_
 ·have h2:=of_decide_eq_true h2;obtain⟨x,ex,hx⟩:=sT (L:=[pr (1,2),pr (2,3),pr (1,3),pr (3,4),pr (9,10),pr (0,1),pr (1,1),pr (1,1000),pr (999,1000)]) (n:=v) Jv (by simp only[æ,PK];omega) (by decide +kernel)
  obtain⟨c,rfl,hc⟩:=FH hx;refine(af (kQ ex) ?_ :);exact⟨hz1,c,rfl,hc⟩
 ·refine(cL k 2 hz1 (-0) (-0)).imp λs z2 ⟨hz2,a,e,a1⟩=>?_
  subst e;obtain⟨x,ex,hx⟩:=sT (L:=[D.int 12,.int 1000]) (n:=a) (Mt 1 1000) (by simp only[æ,PK];omega) (-0)
  obtain⟨u,rfl,u1,u2⟩:=CU hx;refine(af (kQ ex) ?_ :);refine(cL k u hz2 ∅ ∅).imp λs z3 ⟨hz3,b,e,b1⟩=>?_
  subst e;refine(cL k (1 + (b:Int) + 1) hz3 ∅ ∅).imp λs z4 ⟨hz4,t,e,t1⟩=>?_
  subst e;exact Wo (qc k _ _ _ ∅ (jh ∅)) ⟨hz4,cS t (1 + (b:Int)),rfl,FG ∅ ∅ ∅ ∅⟩
theorem qd(k:Nat){m:Int}{ts:List D}{z:Z}(hz:ZI z)(hl:ts.length<=8):W (ao T (k + 5) iO [.z,.d (.tup [.int m,.tup ts])]) z (λs z1=>ZI z1/\∃ cs:List (Int × Int),s=.d (.tup (cs.map pr))/\cs.length=ts.length/\∀ c∈cs,cH c) NE:=by
 refine Ap hz (ps:=2) (ns:=2) (b:=fh) rfl rfl (-0) (ip (cm ∅) (LP (I:=ZI) (P:=λ_ y=>∃ c,y=pr c/\cH c) hz (λx hx z1 hz1=>?_) λys z1 hz1 hp=>?_))
 ·refine(sV k hz1).imp λs z2 ⟨hz2,c,e,hc⟩=>?_;subst e;exact⟨hz2,c,rfl,hc⟩
 ·obtain⟨cs,rfl,hl,ha⟩:=l7 hp;exact⟨hz1,cs,rfl,hl,ha⟩
theorem pC{cs:List (Int × Int)}{n:Nat}(h:cs.length=n)(ha:∀ c∈cs,cH c):CP n (.tup (cs.map pr))=true:=by
 unfold CP;rw[Á,beq_iff_eq,Ç,PZ];refine⟨h,λd hd=>?_⟩;obtain⟨c,hc,rfl⟩:=Î.mp hd;exact(ha c hc).ch
def Mu:D->Bool
 |.tup [.int a,.int b]=>decide (a < b)|_=>false
def mS(l:List D):Bool:=(dB l (l.drop 1)).all Mu
def LV(m:Int):D->Bool
 |.tup l=>(l.all (λx=>aY x m)&&mS l)&&!l.isEmpty|_=>false
def short:D->Bool
 |.tup l=>decide (l.length<=1000)|_=>true
theorem C0(k:Nat)(h:∀ x∈l,aY x m=true)(hl:l.length<=1000)(z:Z):ao T (k + 3) nv [.d (.tup l)] z=some (.ok (.d (.bl (mS l))) z):=by
 have e1:cutD l (some 1) none=l.drop 1:=gk l 1;refine W.ok (aW (ps:=1) (ns:=1) (b:=ny) rfl rfl (-0) (ip (c:=(dB l (cutD l (some 1) none)).length<=most) (ã (kP _ _) (cm hl)) (fF (λx=>.bl (Mu x)) (λx hx=>?_) (af (fS _ Mu) ?_ :))))
 ·obtain⟨u,hu,v,hv,rfl⟩:=sM hx;rw[e1] at hv;obtain⟨i,rfl,_⟩:=eJ (h u hu);obtain⟨j,rfl,_⟩:=eJ (h v (Pm hv));exact⟨rfl,rfl⟩
 ·exact sb (b:=(dB l (cutD l (some 1) none)).all Mu) (by rw[e1];rfl)
theorem kT(k:Nat)(m:Int)(hs:short x=true)(z:Z):ao T (k + 5) di [.d x,.d (.int m)] z=some (.ok (.d (.bl (match x with | .tup l=>l.all (λx=>aY x m)&&mS l | _=>false))) z):=by
 refine W.ok (aW (ps:=2) (ns:=2) (b:=dk) rfl rfl (-0) ?_)
 cases x with
 |tup l =>
  have hl:l.length<=1000:=of_decide_eq_true hs;refine ip (cm hl) (fF (λx=>.bl (aY x m)) (λx _=>Wo (iX k x m z) ⟨rfl,rfl⟩) (af (fS l λx=>aY x m) ?_ :));refine ib (b:=l.all λx=>aY x m) (λh=>?_) λh=>sb (show false=(l.all (λx=>aY x m)&&mS l) by rw[h];rfl)
  exact Wo (C0 (k + 1) (á.mp h) hl z) (sb (show mS l=(l.all (λx=>aY x m)&&mS l) by rw[h];rfl))
 |_=>exact sb rfl
theorem bo(k:Nat)(z:Z)(h:LV m x=true)(hs:short x=true):ao T (k + 6) a8 [.d (.tup [.int m,t]),.d x] z=some (.ok (.d .bw) z):=by
 refine W.ok (aW (ps:=2) (ns:=2) (b:=fb) rfl rfl (-0) (Wo (kT k m hs z) ?_))
 cases x with
 |tup l =>
  have h:((l.all (λx=>aY x m)&&mS l)&&!l.isEmpty)=true:=h;rw[Á] at h;refine ie (b:=!(l.all (λx=>aY x m)&&mS l)) (by rw[h.1];rfl) ?_
  cases l with
  |nil=>cases h.2
  |cons y r=>exact sd rfl
 |_=>cases h
def ak(n:Nat):D:=.int n
structure aR(m:Int)(l:List Nat):Prop where
 ne:l≠[]
 up:l.Pairwise (· < ·)
 lt:∀ p∈l,(p:Int) < m
theorem xm:∀ {l:List Nat},l.Pairwise (· < ·)->mS (l.map ak)=true
 |[],_=>rfl|[_],_=>rfl
 |a::b::r,h=>by
  have ih:=xm (Yl h);show(decide ((a:Int) < (b:Int))&&mS ((b::r).map ak))=true;rw[ih,decide_eq_true (by have:=(ÿ.mp h).1 b Å;omega)];rfl
theorem aR.Jw(g:aR m l):LV m (.tup (l.map ak))=true:=by
 show(((l.map ak).all (λx=>aY x m)&&mS (l.map ak))&&!(l.map ak).isEmpty)=true;rw[xm g.up,UP,Á];refine⟨á.mpr λx hx=>?_,?_⟩
 ·obtain⟨p,hp,rfl⟩:=Î.mp hx;have:=g.lt p hp;show(decide (0<=(p:Int))&&decide ((p:Int) < m))=true;rw[decide_eq_true this,decide_eq_true ∅];rfl
 ·cases l with
  |nil=>exact absurd rfl g.ne|cons _ _=>rfl
theorem aR.len(g:aR m l)(h6:m<=6):l.length<=6:=by
 have:l.Sublist (é 6):=by
  have e:l=(é 6).filter λx=>l.contains x:=by
   refine RG (le:=(· < ·)) ?_ g.up (Qn _ QC) ?_
   ·intro a b _ _ h1 h2;omega
   ·refine(QE (g.up.imp λh e=>by omega) (Qn _ Ry)).mpr λa=>?_
    rw[QL,RJ,p9];exact⟨λh=>⟨by have:=g.lt a h;omega,h⟩,λh=>h.2⟩
  rw[e];exact PB
 simpa using this.length_le
theorem C1:∀ {ys:List D}{l:List Nat},ys.Sublist (l.map ak)->∃ l':List Nat,ys=l'.map ak/\l'.Sublist l:=λ{ys l} h=>by
 obtain⟨l',h1,h2⟩:=List.sublist_map_iff.mp h;exact⟨l',h2,h1⟩
theorem FI(n:Nat):((é n).map λ(i:Nat)=>D.int i)=(é n).map ak:=rfl
theorem LW(a b:Int):MySort.aN [a] [b]=decide (a < b):=by
 show(if a=b then false else decide (a < b))=_;by_cases h:a=b
 ·rw[if_pos h,h];simp
 ·rw[if_neg h]
theorem vh(a b:Nat):cR (ak a) (ak b)=true:=by
 show(true&&((some (decide ((a:Int) < b)) == some (MySort.aN [(a:Int)] [(b:Int)]))&&(((a:Int) == b) || !([(a:Int)] == [(b:Int)]))))=true;rw[LW,beq_self_eq_true,Pw,Pw];by_cases h:(a:Int)=b <;> simp[h]
theorem xn(x y:Nat):mR .sorted [.lst [ak x,ak y]]=some (.fr [ak (min x y),ak (max x y)]):=by
 have ok:dh [ak x,ak y]=true:=by
  refine á.mpr λu hu=>?_;have one:∀ a:Nat,(true&&(true&&[ak x,ak y].all (cR (ak a))))=true:=λa=>by
   show(cR (ak a) (ak x)&&(cR (ak a) (ak y)&&true))=true;rw[vh,vh];rfl
  simp only[OO,OU,or_false] at hu;rcases hu with rfl | rfl
  ·exact one x
  ·exact one y
 have e:hY [ak x,ak y]=[ak (min x y),ak (max x y)]:=by
  show(if MySort.aN [(y:Int)] [(x:Int)] then [ak y,ak x] else [ak x,ak y])=_;rw[LW];by_cases h:(y:Int) < x
  ·rw[decide_eq_true h,if_pos rfl,T4 ∅,Xe ∅]
  ·rw[decide_eq_false h,if_neg (-0),QK ∅,W3 ∅]
 show(if [ak x,ak y].length < 64/\dh [ak x,ak y]=true then some (S.fr (hY [ak x,ak y])) else _)=_;rw[if_pos ⟨by show 2 < 64;decide,ok⟩,e]
theorem sW(k:Nat)(m1:1<=m)(m6:m<=6)(hz:ZI z):W (ao T (k + 4) jA [.z,.d (.tup [.int m,t])]) z (λs z1=>ZI z1/\∃ l,s=.d (.tup (l.map ak))/\aR m l) NE:=by
 have g2:aR m (é m.toNat):=⟨by intro h;have:=congrArg Yj h;rw[p6] at this;simp at this;omega,QC,λp hp=>by have:=ì.mp hp;omega⟩
 refine Ap hz (ps:=2) (ns:=4) (b:=fR) rfl rfl (-0) ?_
 refine(cL k 4 hz (-0) (-0)).imp λs z1 ⟨hz1,v,e,v1⟩=>?_
 subst e;refine Gz (λρ z2=>z2=z1/\1 < m/\ρ=[some .z,some (.d (.tup [.int m,t])),some (.d (.int v)),none]) ?_ ?_
 ·refine ib (b:=decide ((v:Int) < 2)) (λh=>?_) λh=>?_
  ·refine(af (pz (m:=m) ∅ ∅) ?_ :)
   exact⟨hz1,_,rfl,g2⟩
  ·refine ib (b:=m == 1) (λh=>?_) λh=>?_
   ·refine(af (pz (m:=m) ∅ ∅) ?_ :)
    exact⟨hz1,_,rfl,g2⟩
   ·have h:=ne_of_beq_false h;exact⟨rfl,by omega,rfl⟩
 ·rintro ρ z2 ⟨rfl,hm,rfl⟩;refine ib (b:=(v:Int) == 2) (λh=>?_) λh=>?_
  ·refine(cL k m hz1 ∅ ∅).imp λs z3 ⟨hz3,a,e,ha⟩=>?_
   subst e;refine(cL k (m - 1) hz3 ∅ ∅).imp λs z4 ⟨hz4,b,e,hb⟩=>?_
   subst e;refine(af (qK (i:=(a:Int) + 1 + b) (j:=m) ∅) ?_ :)
   have hq:0<=((a:Int) + 1 + b) % m/\((a:Int) + 1 + b) % m < m/\((a:Int) + 1 + b) % m≠a:=by
    refine⟨SU _ ∅,SV _ ∅,?_⟩
    by_cases h:(a:Int) + 1 + b < m
    ·rw[R1 ∅ h];omega
    ·rw[show(a:Int) + 1 + b=((a:Int) + 1 + b - m) + m from by omega,Wx,R1 ∅ ∅];omega
   generalize ((a:Int) + 1 + b) % m=q at hq ⊢;obtain⟨q,rfl⟩:=Si hq.1;refine(af (xn a q) ?_ :);refine⟨hz4,[min a q,max a q],rfl,by simp,?_,λp hp=>?_⟩
   ·refine .cons (λx hx=>?_) (.cons (λ_ h=>nomatch h) .nil);rw[Ð.mp hx];omega
   ·simp only[OO,OU,or_false] at hp;rcases hp with rfl | rfl <;> omega
  ·refine(af (pz (m:=m) ∅ ∅) ?_ :)
   refine ip (by rw[Ç,p6];simp only[most];omega) (GB (I:=ZI) (λx=>x) hz1 (λx hx z3 hz3=>?_) λys z3 hz3 hs=>?_)
   ·refine(cL k 2 hz3 (-0) (-0)).imp λs z4 ⟨hz4,a,e,a1⟩=>?_
    subst e;exact⟨hz4,(a:Int) == 1,rfl,λ_=>⟨rfl,rfl⟩⟩
   ·rw[List.map_id',FI] at hs;obtain⟨l,rfl,hl⟩:=C1 hs;cases l with
    |nil =>
     refine⟨hz3,[m.toNat - 1],?_,by simp,.cons (λ_ h=>nomatch h) .nil,λq hq=>by rw[Ð.mp hq];omega⟩
     show S.d (.tup [.int (m - 1)])=S.d (.tup [.int ((m.toNat - 1:Nat):Int)]);rw[show(m - 1)=((m.toNat - 1:Nat):Int) by omega]
    |cons p r=>exact⟨hz3,p::r,rfl,by simp,Yk hl QC,λq hq=>by have:=ì.mp (hl.mem hq);omega⟩
section
variable (ps:List (Int × Int))
abbrev tA(n:Nat):Nat:=(ps.getD n (0,0)).1.toNat
abbrev tB(n:Nat):Nat:=(ps.getD n (0,0)).2.toNat
def fi(mk:List Int)(n:Nat):List Int:=mk.map λx=>if x=mk.getD (tB ps n) 0 then mk.getD (tA ps n) 0 else x
def iZ(m:Nat)(aO:List Nat):List Int:=aO.foldl (fi ps) ((é m).map λ(i:Nat)=>(i:Int))
def GD(mk:List Int)(pl:List Nat):Bool:=pl.all λp=>mk.getD p 0 == mk.getD (pl.getD 0 0) 0
def bt(m:Nat)(pl aO:List Nat):Bool:=GD (iZ ps m aO) pl
variable {ps}
theorem pD(mk:List Int)(n:Nat):(fi ps mk n).length=mk.length:=Ç _
theorem step_get(h:x < mk.length):(fi ps mk n).getD x 0=if mk.getD x 0=mk.getD (tB ps n) 0 then mk.getD (tA ps n) 0 else mk.getD x 0:=by
 unfold fi;rw[Ê,è,Ø h];simp[Ê,Ø h]
theorem Av:(iZ ps m aO).length=m:=by
 unfold iZ;have:∀ (l:List Nat) (mk:List Int),(l.foldl (fi ps) mk).length=mk.length:=by
  intro l
  induction l with
  |nil=>intro mk;rfl|cons n r ih=>intro mk;rw[W8,ih,pD]
 rw[this];simp
theorem xo(hr:∀ n < ps.length,tA ps n < m/\tB ps n < m):∀ (aO:List Nat) (mk:List Int),mk.length=m->(∀ n∈aO,n < ps.length) ->
  (∀ x y,x < m->y < m->mk.getD x 0=mk.getD y 0->(aO.foldl (fi ps) mk).getD x 0=(aO.foldl (fi ps) mk).getD y 0)/\(∀ n∈aO,(aO.foldl (fi ps) mk).getD (tA ps n) 0=(aO.foldl (fi ps) mk).getD (tB ps n) 0) /\
  ∀ f:Nat->Int,(∀ x y,x < m->y < m->mk.getD x 0=mk.getD y 0->f x=f y)->(∀ n∈aO,f (tA ps n)=f (tB ps n))->∀ x y,x < m->y < m->(aO.foldl (fi ps) mk).getD x 0=(aO.foldl (fi ps) mk).getD y 0->f x=f y:=by
 intro aO
 induction aO with
 |nil=>exact λmk _ _=>⟨λ_ _ _ _ h=>h,(λ_ h=>nomatch h),λf h _=>h⟩
 |cons n r ih =>
  intro mk hl hn;obtain⟨ha,hb⟩:=hr n (hn n Å);obtain⟨i1,i2,i3⟩:=ih (fi ps mk n) (by rw[pD];exact hl) λk hk=>hn k (Æ _ hk)
  have st:∀ x,x < m->(fi ps mk n).getD x 0=if mk.getD x 0=mk.getD (tB ps n) 0 then mk.getD (tA ps n) 0 else mk.getD x 0:=λx hx=>step_get ∅
  refine⟨λx y hx hy h=>i1 x y hx hy (by rw[st x hx,st y hy,h]),λk hk=>?_,λf h1 h2=>?_⟩
  ·rcases Û.mp hk with rfl | hk
   ·refine i1 _ _ ha hb ?_;rw[st _ ha,st _ hb,if_pos rfl];split <;> rfl
   ·exact i2 k hk
  ·refine i3 f (λx y hx hy h=>?_) λk hk=>h2 k (Æ _ hk);have e:=h2 n Å;rw[st x hx,st y hy] at h;split at h
   ·rename_i hxb;have fx:=h1 _ _ hx hb hxb;split at h
    ·rename_i hyb;rw[fx,h1 _ _ hy hb hyb]
    ·rw[fx,← e];exact h1 _ _ ha hy h
   ·split at h
    ·rename_i hyb;rw[h1 _ _ hy hb hyb,← e];exact h1 _ _ hx ha h
    ·exact h1 _ _ hx hy h
theorem qQ(h:x < m):(((é m).map λ(i:Nat)=>(i:Int))).getD x 0=(x:Int):=by
 rw[Ê,è,VN h];rfl
theorem vi{m:Nat}(hr:∀ n < ps.length,tA ps n < m/\tB ps n < m){pl aO:List Nat}(hp:∀ p∈pl,p < m)(hl:∀ n∈aO,n < ps.length):bt ps m pl aO=true↔∀ f:Nat->Int,(∀ n∈aO,f (tA ps n)=f (tB ps n))->∀ p∈pl,f p=f (pl.getD 0 0):=by
 obtain⟨_,h2,h3⟩:=xo hr aO ((é m).map λ(i:Nat)=>(i:Int)) (by simp) hl
 unfold bt GD;rw[PZ];have h0:∀ p∈pl,pl.getD 0 0 < m:=λp hp'=>by
  cases pl with
  |nil=>cases hp'
  |cons q r=>exact hp q Å
 constructor
 ·intro h f hf p hp';refine h3 f (λx y hx hy e=>?_) hf p _ (hp p hp') (h0 p hp') (beq_iff_eq.mp (h p hp'));rw[qQ hx,qQ hy] at e;rw[Int.ofNat_inj.mp e]
 ·intro h p hp';rw[beq_iff_eq];exact h (λx=>(iZ ps m aO).getD x 0) h2 p hp'
theorem good_mono{m:Nat}(hr:∀ n < ps.length,tA ps n < m/\tB ps n < m){pl a b:List Nat}(hp:∀ p∈pl,p < m)(hb:∀ n∈b,n < ps.length)(hab:∀ n∈a,n∈b)(h:bt ps m pl a=true):bt ps m pl b=true :=
 (vi hr hp hb).mpr λf hf=>(vi hr hp λn hn=>hb n (hab n hn)).mp h f λn hn=>hf n (hab n hn)
end
section
variable (g:List Nat->Bool) (c:Nat->Int × Int)
def cj:List Nat->List Nat->Int
 |[],h=>if g h then 1 else 0|n::r,h=>(c n).1 * cj r (n::h) + ((c n).2 - (c n).1) * cj r h
def aU(ns:List Nat):Int:=(ns.map λn=>(c n).2).foldr (· * ·) 1
variable {g c}
theorem c7(n:Nat)(r:List Nat):aU c (n::r)=(c n).2 * aU c r:=rfl
theorem Aw(h:a.Perm b):aU c a=aU c b:=by
 induction h with
 |nil=>rfl|cons x _ ih=>rw[c7,c7,ih]|swap x y l=>rw[c7,c7,c7,c7,← P0,← P0,kr (c y).2]|trans _ _ h1 h2=>rw[h1,h2]
def FJ(N:Nat)(g:List Nat->Bool):Prop:=∀ a b:List Nat,(∀ n∈a,n < N)->(∀ n∈b,n < N)->(∀ n,n∈a↔n∈b)->g a=g b
theorem pE(hg:FJ N g):∀ (ns a b:List Nat),(∀ n∈ns,n < N)->(∀ n∈a,n < N)->(∀ n∈b,n < N)->(∀ n,n∈a↔n∈b)->cj g c ns a=cj g c ns b
 |[],a,b,_,ha,hb,h=>by unfold cj;rw[hg a b ha hb h]
 |n::r,a,b,hn,ha,hb,h=>by
  have hr:∀ k∈r,k < N:=λk hk=>hn k (Æ _ hk);have hc:∀ {l:List Nat},(∀ n∈l,n < N)->∀ k∈n::l,k < N:=λhl k hk=>by
   rcases Û.mp hk with rfl | hk
   ·exact hn _ Å
   ·exact hl k hk
  unfold cj;rw[pE hg r a b hr ha hb h,pE hg r (n::a) (n::b) hr (hc ha) (hc hb) λk=>by rw[OO,OO,h k]]
theorem C2(hg:FJ N g)(h:a.Perm b):∀ held:List Nat,(∀ n∈a,n < N)->(∀ n∈held,n < N)->cj g c a held=cj g c b held:=by
 induction h with
 |nil=>exact λ_ _ _=>rfl
 |cons x h ih =>
  intro held ha hh;have hr:=λk hk=>ha k (Æ _ hk);unfold cj;rw[ih held hr hh,ih (x::held) hr λk hk=>by
   rcases Û.mp hk with rfl | hk
   ·exact ha _ Å
   ·exact hh k hk]
 |swap x y l =>
  intro held ha hh;have hl:∀ k∈l,k < N:=λk hk=>ha k (Æ _ (Æ _ hk));have hx:=ha x (Æ _ Å);have hy:=ha y Å;have hxy:∀ k∈[x,y]++held,k < N:=λk hk=>by
   simp only[R5,RU,OO] at hk;rcases hk with rfl | rfl | hk
   ·exact hx
   ·exact hy
   ·exact hh k hk
  have e:=pE (c:=c) hg l (x::y::held) (y::x::held) hl hxy (λk hk=>hxy k (by simp only[R5,RU,OO] at hk ⊢;rcases hk with h | h | h <;> simp[h])) λk=>by simp only[OO];constructor <;> (rintro (h | h | h) <;> simp[h])
  simp only[cj];rw[e];generalize cj g c l (y::x::held)=t1;generalize cj g c l (y::held)=t2;generalize cj g c l (x::held)=t3;generalize cj g c l held=t4;generalize (c x).1=p;generalize (c x).2=q;generalize (c y).1=u;generalize (c y).2=v
  grind
 |trans h1 h2 i1 i2=>exact λheld ha hh=>(i1 held ha hh).trans (i2 held (λk hk=>ha k (h1.mem_iff.mpr hk)) hh)
def aI:Nat->List (List Nat)
 |0=>[[]]|j + 1=>aI j++(aI j).map (·++[j])
def vj(c:Nat->Int × Int)(j:Nat)(aO:List Nat):Int:=(é j).foldl (λa n=>a * (if n∈aO then(c n).1 else(c n).2 - (c n).1)) 1
theorem gm:vj c (j + 1) aO=vj c j aO * (if j∈aO then(c j).1 else(c j).2 - (c j).1):=by
 unfold vj;rw[Th,Ts];rfl
theorem FK(h:j<=k):vj c j (aO++[k])=vj c j aO:=by
 induction j with
 |zero=>rfl
 |succ j ih =>
  rw[gm,gm,ih ∅]
  have:j∈aO++[k]↔j∈aO:=by rw[Ì,Sb];constructor <;> (intro h;first | (rcases h with h | h;exact h;omega) | exact .inl h)
  simp only[this]
theorem aD:∀ {j:Nat}{aO:List Nat},aO∈aI j->∀ n∈aO,n < j
 |0,aO,h,n,hn=>by rw[Ð.mp h] at hn;cases hn
 |j + 1,aO,h,n,hn=>by
  rcases Ì.mp h with h | h
  ·exact Qz (aD h n hn)
  ·obtain⟨l,hl,rfl⟩:=Î.mp h;rcases Ì.mp hn with hn | hn
   ·exact Qz (aD hl n hn)
   ·rw[Ð.mp hn];exact Sq j
def desc:Nat->List Nat
 |0=>[]|j + 1=>j::desc j
def fo(l:List (List Nat))(f:List Nat->Int):Int:=(l.map f).foldr (· + ·) 0
theorem C3:fo (a++b) f=fo a f + fo b f:=by
 unfold fo;rw[OM]
 induction a with
 |nil=>simp|cons x r ih=>simp only[Qw,R5,W7,ih,Int.add_assoc]
theorem vk(e:∀ x∈a,h x=k * f x):fo a h=k * fo a f:=by
 unfold fo
 induction a with
 |nil=>simp|cons x r ih=>simp only[Qw,W7,ih λy hy=>e y (Æ _ hy),e x Å,Int.mul_add]
theorem C4:fo (a.map t) f=fo a λx=>f (t x):=by
 unfold fo;rw[à];rfl
theorem pF(hg:FJ N g):∀ (j:Nat) (held:List Nat),j<=N->(∀ n∈held,n < N)->fo (aI j) (λaO=>if g (aO++held) then vj c j aO else 0)=cj g c (desc j) held
 |0,held,_,_=>by
  show(if g ([]++held) then vj c 0 [] else 0) + 0=_;rw[Int.add_zero];rfl
 |j + 1,held,hj,hh=>by
  have hc:∀ k∈j::held,k < N:=λk hk=>by
   rcases Û.mp hk with rfl | hk
   ·omega
   ·exact hh k hk
  show fo (aI j++(aI j).map (·++[j])) _=(c j).1 * cj g c (desc j) (j::held) + ((c j).2 - (c j).1) * cj g c (desc j) held;rw[C3,C4,← pF hg j held ∅ hh,← pF hg j (j::held) ∅ hc,Int.add_comm]
  congr 1
  ·refine vk λaO hl=>?_;have lt:=aD hl;have e:g (aO++[j]++held)=g (aO++j::held):=by rw[Ý];rfl
   rw[e];split
   ·rw[gm,FK (Ô j),if_pos (by simp),kr]
   ·rw[Vo]
  ·refine vk λaO hl=>?_;have lt:=aD hl;split
   ·rw[gm,if_neg (λh=>O1 _ (lt j h)),kr]
   ·rw[Vo]
theorem qR:∀ n:Nat,(desc n).Perm (é n)
 |0=>.refl _
 |n + 1=>by
  rw[Th];exact((qR n).cons n).trans (List.perm_append_singleton n (é n)).symm
end
theorem JJ{it:It}{e:Ex}{l:List S}{ρ:Env}(h:mw l=true):uq it e l ρ=oh it e l ρ:=by unfold uq;rw[h,og];rfl
theorem gZ:∀ l:List Nat,cF (l.map ak)=true
 |[]=>rfl|_::r=>gZ r
structure Row(x:D)(aO:List Nat):Prop where
 sq:jG x=some (aO.map ak)
 br:BI x=true
theorem Row.t(aO:List Nat):Row (.tup (aO.map ak)) aO:=⟨rfl,gZ aO⟩
theorem Row.ba(h:Row x aO):mw [.d x]=true:=by
 show(BI x&&true)=true;rw[h.br];rfl
theorem xp{mk:List Int}{a:Int}(h0:0<=a)(h:a.toNat < mk.length):iB (.lst (mk.map D.int)) (.int a)=some (.int (mk.getD a.toNat 0)):=by
 obtain⟨n,rfl⟩:=Si h0;rw[PY] at h ⊢;rw[Ê,Ø h];exact kQ (FA h)
theorem Jx{ps:List (Int × Int)}{n:Nat}(h:n < ps.length):iB (.tup (ps.map pr)) (.int n)=some (pr (ps.getD n (0,0))):=by
 rw[Ê,Ø h];exact CT (by rw[è,Ø h];rfl)
theorem getD_mem{ps:List (Int × Int)}{n:Nat}(h:n < ps.length):ps.getD n (0,0)∈ps:=by
 rw[Ê,Ø h];exact Pb h
theorem aG.GF{m:Int}{ps:List (Int × Int)}(g:aG m ps):∀ n < ps.length,tA ps n < m.toNat/\tB ps n < m.toNat:=λn hn=>by
 have:=g.tie _ (getD_mem hn);unfold tA tB;omega
def LX(a b:Int):D->D
 |.int v=>.int (if v=b then a else v)|x=>x
theorem FN{F:FT}{z:Z}{mk:List Int}(a b:Int){Q:List D->Z->Prop}{E:Nat->Z->Prop}(q:Q ((mk.map λx=>if x=b then a else x).map D.int) z):W (turns (d5 (ev F .nil) (ev F (.ite (.cmp .eq (.var 0) (.var 2)) (.var 1) (.var 0))) (.v 0) [none,some (.d (.int a)),some (.d (.int b))]) (mk.map D.int)) z Q E:=by
 refine fF (LX a b) (λx hx=>?_) ?_
 ·obtain⟨v,_,rfl⟩:=Î.mp hx;refine ib (b:=v == b) (λh=>⟨?_,rfl⟩) λh=>⟨?_,rfl⟩
  ·show D.int a=.int (if v=b then a else v);rw[if_pos (beq_iff_eq.mp h)]
  ·show D.int v=.int (if v=b then a else v);rw[if_neg (by simpa using h)]
 ·have e:(mk.map D.int).map (LX a b)=(mk.map λx=>if x=b then a else x).map D.int:=by rw[à,à];rfl
  rw[e];exact q
theorem vm(k:Nat){m:Int}{ps:List (Int × Int)}(g:aG m ps){x:D}{aO:List Nat}(hx:Row x aO)(hl:∀ n∈aO,n < ps.length)(z:Z):ao T (k + 3) oR [.d (cB m ps),.d x] z=some (.ok (.fr ((iZ ps m.toNat aO).map D.int)) z):=by
 have m6:=g.m6;have m1:=g.m1;refine W.ok (aW (ps:=2) (ns:=10) (b:=jT) rfl rfl (-0) ?_)
 refine(af (o:=Mm [.int m]) (pz ∅ ∅) ?_ :)
 refine af (o:=jG x) hx.sq ?_;refine kL (λxs ρ z1=>z1=z/\∃ (rest:List Nat) (mk:List Int) (o5 o6 o7 o8 o9:Option S),xs=rest.map ak/\(∀ n∈rest,n < ps.length)/\mk.length=m.toNat/\rest.foldl (fi ps) mk=iZ ps m.toNat aO/\ρ=[some (.d (cB m ps)),some (.d x),some (.d (.int m)),some (.d (.tup (ps.map pr))),some (.fr (mk.map D.int)),o5,o6,o7,o8,o9]) _ ⟨rfl,aO,(é m.toNat).map λ(i:Nat)=>(i:Int),none,none,none,none,none,rfl,hl,by simp,rfl,(JJ hx.ba).trans ?_⟩ ?_ ?_
 ·rw[← CS];rfl
 ·rintro y r ρ z1 ⟨rfl,rest,mk,o5,o6,o7,o8,o9,e,hr,hm,hf,rfl⟩;cases rest with
  |nil=>cases e
  |cons n rest =>
   cases e;have hn:=hr n Å;have ht:=g.tie _ (getD_mem hn);refine(af (Jx hn) ?_ :);refine(af (xp (mk:=mk) ht.1 ∅) ?_ :)
   refine(af (xp (mk:=mk) (a:=(ps.getD n (0,0)).2) ∅ ∅) ?_ :)
   refine ip (by rw[Ç];simp only[most];omega) (FN _ _ ?_)
   exact⟨rfl,rest,fi ps mk n,_,_,_,_,_,rfl,λk hk=>hr k (Æ _ hk),by rw[pD];exact hm,hf,rfl⟩
 ·rintro ρ z1 ⟨rfl,rest,mk,o5,o6,o7,o8,o9,e,hr,hm,hf,rfl⟩;cases rest with
  |nil=>exact sd (by rw[← hf];rfl)|cons _ _=>cases e
section
variable {m:Int}{ps:List (Int × Int)}{pl aO:List Nat}
theorem GG{mk:List Int}{p:Nat}(h:p < mk.length):iB (.lst (mk.map D.int)) (.int p)=some (.int (mk.getD p 0)):=xp (a:=(p:Int)) ∅ (by rw[PY];exact h)
theorem Jy(h:pl≠[]):iB (.tup (pl.map ak)) (.int 0)=some (ak (pl.getD 0 0)):=by
 cases pl with
 |nil=>exact absurd rfl h|cons p r=>exact CT (j:=0) rfl
theorem aR.p0(hp:aR m pl):pl.getD 0 0 < m.toNat:=by
 have h:=hp.ne;have h2:=hp.lt;cases pl with
 |nil=>exact absurd rfl h|cons p r=>have:=h2 p Å;show p < _;omega
def Mv(mk:List Int)(p0:Nat):D->Bool
 |.int p=>mk.getD p.toNat 0 == mk.getD p0 0|_=>false
theorem FO(l:List Nat):(l.map ak).all (Mv mk p0)=l.all λp=>mk.getD p 0 == mk.getD p0 0:=by rw[all_map];rfl
theorem fU(k:Nat)(g:aG m ps)(hp:aR m pl){x:D}(hx:Row x aO)(hl:∀ n∈aO,n < ps.length)(z:Z):ao T (k + 4) eC [.d (cB m ps),.d x,.d (.tup (pl.map ak))] z=some (.ok (.d (.bl (bt ps m.toNat pl aO))) z):=by
 have hlen:=hp.len g.m6;refine W.ok (aW (ps:=3) (ns:=4) (b:=gO) rfl rfl (-0) (Wo (vm k g hx hl z) ?_))
 have ml:(iZ ps m.toNat aO).length=m.toNat:=Av;generalize hmk:iZ ps m.toNat aO=mk at ml;refine ip (by rw[Ç];simp only[most];omega) (fF (λx=>.bl (Mv mk (pl.getD 0 0) x)) (λy hy=>?_) (af (fS _ (Mv mk (pl.getD 0 0))) ?_ :))
 ·obtain⟨p,hp',rfl⟩:=Î.mp hy;have:=hp.lt p hp';refine(af (GG (mk:=mk) (p:=p) ∅) ?_ :)
  refine(af (Jy hp.ne) ?_ :);refine(af (GG (mk:=mk) (by rw[ml];exact hp.p0)) ?_ :)
  exact⟨rfl,rfl⟩
 ·refine sb (b:=(pl.map ak).all (Mv mk (pl.getD 0 0))) ?_;rw[FO,← hmk];rfl
theorem C5(l:List Nat):kn (.lst (l.map ak))=true:=by
 have e:l.map ak=(l.map λ(n:Nat)=>(n:Int)).map D.int:=by rw[à];rfl
 rw[e];exact Aq _
end
def aj(l:List Nat):D:=.tup (l.map ak)
theorem dZ:∀ {j:Nat}{aO:List Nat},aO∈aI j->aO.length<=j
 |0,aO,h=>by rw[Ð.mp h];exact Ô _
 |j + 1,aO,h=>by
  rcases Ì.mp h with h | h
  ·exact Nat.le_succ_of_le (dZ h)
  ·obtain⟨l,hl,rfl⟩:=Î.mp h;rw[LU];exact T3 (dZ hl)
theorem kU:∀ j:Nat,(aI j).length=2 ^ j
 |0=>rfl
 |j + 1=>by
  show(aI j++(aI j).map (·++[j])).length=_;rw[Ü,Ç,kU j,Nat.pow_succ];omega
theorem yO(h:j<=8):2 ^ j<=256:=QQ (n:=2) (-0) h
theorem add_l(h:a.length + b.length<=1000):dU .add (.lst a) (.lst b)=some (.fr (a++b)):=by
 show(if a.length + b.length<=most then some (S.fr (a++b)) else none)=_;rw[if_pos (cm h)]
theorem C6(h:a.length + b.length<=1000):dU .add (.tup a) (.tup b)=some (.d (.tup (a++b))):=by
 show(if a.length + b.length<=most then some (S.d (.tup (a++b))) else none)=_;rw[if_pos (cm h)]
def LY(j:Nat):D->D
 |.tup l=>.tup (l++[ak j])|x=>x
theorem C7:((aI j).map aj).map (LY j)=((aI j).map (·++[j])).map aj:=by
 rw[à,à];refine O0 λl _=>?_;show D.tup (l.map ak++[ak j])=.tup ((l++[j]).map ak);rw[OM];rfl
theorem sX{n:Nat}(h:n < 100000):qz .rng1 [.int n]=some ((range' 0 n).map ak):=by
 rw[pz ∅ ∅,PY,Q3];rfl
abbrev cf(cs:List (Int × Int))(n:Nat):Int × Int:=cs.getD n (0,1)
def d7(cs:List (Int × Int)):Int:=(cs.map (·.2)).foldr (· * ·) 1
theorem FP:aU (cf cs) (é cs.length)=d7 cs:=by
 unfold aU d7
 congr 1
 refine WK (by simp) λi h1 h2=>?_
 have hi:i < cs.length:=by simpa using h1
 simp[Ê,Ø hi]
theorem nG:∀ {cs:List (Int × Int)},(∀ c∈cs,cH c)->0 < d7 cs/\d7 cs<=2 ^ (10 * cs.length)
 |[],_=>by decide
 |c::r,h=>by
  obtain⟨h1,h2⟩:=nG λd hd=>h d (Æ _ hd);obtain⟨c1,c2,_⟩:=h c Å;refine⟨Rg (show(0:Int) < c.2 by omega) h1,?_⟩
  show c.2 * d7 r<=_;rw[æ,Vx,UB,kr];exact Q5 h2 ∅ ∅ (by have:=so (ó h1) h2;exact this)
theorem cH.w(h:cH c)(b:Prop)[Decidable b]:0<=(if b then c.1 else c.2 - c.1)/\(if b then c.1 else c.2 - c.1)<=1000:=by
 obtain⟨c1,c2,c3,c4,_⟩:=h;split <;> omega
theorem mG(ha:∀ c∈cs,cH c)(h:n < cs.length):cH (cf cs n):=ha _ (by rw[cf,Ê,Ø h];exact Pb h)
theorem C8(ha:∀ c∈cs,cH c):∀ {j:Nat},j<=cs.length->0<=vj (cf cs) j aO/\vj (cf cs) j aO<=2 ^ (10 * j)
 |0,_=>by show(0:Int)<=1/\(1:Int)<=1;omega
 |j + 1,h=>by
  obtain⟨h1,h2⟩:=C8 (aO:=aO) ha (j:=j) ∅
  obtain⟨w1,w2⟩:=(mG ha (n:=j) ∅).w (j∈aO)
  rw[gm];refine⟨QJ h1 w1,?_⟩;rw[Vx,UB];exact Q5 h2 ∅ w1 (by have:=so h1 h2;exact this)
theorem vn(n:Nat):∀ l:List Nat,memD (ak n) (l.map ak)=decide (n∈l)
 |[]=>rfl
 |x::r=>by
  show((x:Int) == (n:Int) || memD (ak n) (r.map ak))=_;rw[vn n r,O7,Ph,beq_iff_eq,decide_eq_true_eq,decide_eq_true_eq,OO];constructor
  ·rintro (h | h)
   ·exact .inl ∅
   ·exact .inr h
  ·rintro (h | h)
   ·exact .inl ∅
   ·exact .inr h
theorem Ax(l:List Nat):zL (l.map ak)=true:=by
 have e:l.map ak=(l.map λ(n:Nat)=>(n:Int)).map D.int:=by rw[à];rfl
 obtain⟨h1,h2⟩:=nA (l.map λ(n:Nat)=>(n:Int));unfold zL;rw[e,h1,h2];rfl
theorem yP{n:Nat}{l:List Nat}:rT (ak n) (l.map ak)=some (decide (n∈l)):=by
 unfold rT;rw[Ax,vn];rfl
theorem C9{n:Nat}(h:n < cs.length):iB (.tup (cs.map pr)) (.int n)=some (pr (cf cs n)):=by
 rw[cf,Ê,Ø h];exact CT (by rw[è,Ø h];rfl)
section
variable {m:Int}{ps cs:List (Int × Int)}{pl:List Nat}
theorem pG(g:aG m ps)(hp:aR m pl):FJ ps.length (bt ps m.toNat pl):=λa b ha hb h=>by
 have hm:∀ p∈pl,p < m.toNat:=λp q=>by have:=hp.lt p q;omega
 rw[O7];exact⟨good_mono g.GF hm hb λn hn=>(h n).mp hn,good_mono g.GF hm ha λn hn=>(h n).mpr hn⟩
theorem yQ(g:aG m ps)(hp:aR m pl):∀ a b:List Nat,(∀ n∈b,n < ps.length)->(∀ n∈a,n∈b)->bt ps m.toNat pl a=true->bt ps m.toNat pl b=true:=λ_ _ hb hab h=>good_mono g.GF (λp q=>by have:=hp.lt p q;omega) hb hab h
def ck(m:Int)(ps cs:List (Int × Int))(pl:List Nat):Int × Int:=cS (fo (aI ps.length) λaO=>if bt ps m.toNat pl aO then vj (cf cs) ps.length aO else 0) (d7 cs)
theorem qS(g:aG m ps)(hp:aR m pl)(hc:cs.length=ps.length):ck m ps cs pl=cS (cj (bt ps m.toNat pl) (cf cs) (é ps.length) []) (aU (cf cs) (é ps.length)):=by
 have hg:=pG g hp;have h1:=pF (c:=cf cs) hg ps.length [] (Ô _) (λ_ h=>nomatch h);simp only[ö] at h1;have hd:=qR ps.length;unfold ck;rw[h1,C2 hg hd [] (λn hn=>ì.mp (hd.mem_iff.mp hn)) (λ_ h=>nomatch h),← hc,FP]
end
section
variable {g:List Nat->Bool}{c:Nat->Int × Int}
theorem xq:∀ (ns held:List Nat),(∀ n∈ns,cH (c n))->0<=cj g c ns held/\cj g c ns held<=aU c ns
 |[],held,_=>by
  unfold cj;show _/\_<=1;split <;> decide
 |n::r,held,h=>by
  obtain⟨c1,c2,c3,c4,_⟩:=h n Å;have hr:=λk hk=>h k (Æ _ hk);obtain⟨a0,a1⟩:=xq r (n::held) hr;obtain⟨b0,b1⟩:=xq r held hr;unfold cj;rw[c7];have p1:=QJ c3 a0;have p2:=QJ (show 0<=(c n).2 - (c n).1 by omega) b0
  have q1:=ò a1 c3;have q2:=ò b1 (show 0<=(c n).2 - (c n).1 by omega)
  refine⟨by omega,?_⟩
  have e:(c n).2 * aU c r=(c n).1 * aU c r + ((c n).2 - (c n).1) * aU c r:=by rw[← add_mul];congr 1;omega
  omega
theorem eH:∀ {ns:List Nat},(∀ n∈ns,cH (c n))->0 < aU c ns/\aU c ns<=2 ^ (10 * ns.length)
 |[],_=>by show(0:Int) < 1/\(1:Int)<=1;omega
 |n::r,h=>by
  obtain⟨h1,h2⟩:=eH λk hk=>h k (Æ _ hk);obtain⟨c1,c2,_⟩:=h n Å;rw[c7];refine⟨Rg ∅ h1,?_⟩
  rw[æ,Vx,UB,kr];exact Q5 h2 ∅ ∅ (so (ó h1) h2)
end
structure Fr(v:Int × Int)(t b:Int):Prop where
 t0:0<=v.1
 b0:0 < v.2
 one:gcd v.1 v.2=1
 eq:v.1 * b=v.2 * t
theorem Fr.bd(h:Fr v t b)(hb:0 < b)(ht:t<=b)(hn:b<=2 ^ n):Bd n v:=by
 refine⟨h.t0,?_,h.b0,?_⟩
 ·refine RP (a:=b) ?_ hb;rw[h.eq];exact ò ht (ó h.b0)
 ·exact so (Ua hb (xl h.one ⟨t,h.eq⟩)) hn
theorem qT(h0:0 < b):(cS t b).1 * b=(cS t b).2 * t:=by
 obtain⟨e1,e2⟩:=nC (t:=t) h0;generalize (cS t b).1=x at *
 generalize (cS t b).2=y at *
 generalize ((gcd t b:Nat):Int)=k at *
 rw[e1,e2]
 grind
theorem Fr.low(hb:0 < b)(ht:0<=t):Fr (cS t b) t b:=⟨Ur ht (ó (fz hb)),nF hb,sU hb,qT hb⟩
def d8(k:Nat):List (List Nat):=(TS.sN k).map (TS.qy k 0)
theorem qU(h:k<=8):aI k=(é (2 ^ k)).map (TS.qy k 0):=by
 have:∀ k,k < 9->aI k=(é (2 ^ k)).map (TS.qy k 0):=by decide +kernel
 exact this k ∅
theorem gn(h:k<=8):(d8 k).Perm (aI k):=by
 have:∀ k,k < 9->(TS.sN k).isPerm (é (2 ^ k))=true:=by decide +kernel
 rw[qU h];exact(W6.mp (this k ∅)).map _
theorem Jz(h:k<=8):(aI k).map aj=kq k:=by
 rw[qU h];unfold kq;rw[à];rfl
theorem vo(h:k<=8):mR .sorted [.lst ((aI k).map aj)]=some (.fr ((d8 k).map aj)):=by
 have h1:∀ k,k < 9->dh (kq k)=false:=by decide +kernel
 have h2:∀ k,k < 9->zM (kq k)=true:=by decide +kernel
 have h3:∀ k,k < 9->lN (ic (kq k)) (Gi k)=true:=by decide +kernel
 rw[Jz h];show(if (kq k).length < 64/\dh (kq k)=true then some (S.fr (hY (kq k))) else(ui (kq k)).map S.fr)=_;rw[if_neg (λq=>by rw[h1 k ∅] at q;cases q.2)]
 unfold ui;rw[if_pos (h2 k ∅),r9 _ _ (h3 k ∅)]
 show some (S.fr (Gi k))=some (S.fr ((d8 k).map aj));rw[d8,à];rfl
theorem Dc{i:Nat}(hi:T[i]?=some (.code 1 3 gQ))(k:Nat){m:Int}{ts:List D}(h8:ts.length<=8)(z:Z):ao T (k + 3) i [.d (.tup [.int m,.tup ts])] z=some (.ok (.fr ((d8 ts.length).map aj)) z):=by
 refine W.ok (aW (ps:=1) (ns:=3) (b:=gQ) hi rfl (-0) ?_)
 refine(af (sX (n:=ts.length) ∅) ?_ :)
 refine kL (λxs ρ z1=>z1=z/\∃ (j r:Nat) (o2:Option S),j + r=ts.length/\xs=(range' j r).map ak/\ρ=[some (.d (.tup [.int m,.tup ts])),some (.fr ((aI j).map aj)),o2]) _ ⟨rfl,0,ts.length,none,RS _,rfl,rfl⟩ ?_ ?_
 ·rintro x r ρ z1 ⟨rfl,j,r',o2,hj,e,rfl⟩;cases r' with
  |zero=>cases e
  |succ r' =>
   rw[TR] at e;cases e;have hp:=yO (j:=j) ∅
   refine ip (by rw[Ç,kU];simp only[most];omega) (fF (LY j) (λy hy=>?_) ?_)
   ·obtain⟨l,hl,rfl⟩:=Î.mp hy;have:=dZ hl;refine(af (C6 (a:=l.map ak) (b:=[ak j]) (by rw[Ç];show _ + 1<=_;omega)) ?_ :)
    exact⟨rfl,rfl⟩
   ·rw[C7];refine(af (add_l (a:=(aI j).map aj) (b:=((aI j).map (·++[j])).map aj) (by rw[Ç,Ç,Ç,kU];omega)) ?_ :)
    refine⟨rfl,j + 1,r',some (.d (ak j)),by omega,rfl,?_⟩
    exact congrArg (λl=>[some (S.d (.tup [.int m,.tup ts])),some (.fr l),some (.d (ak j))]) List.map_append.symm
 ·rintro ρ z1 ⟨rfl,j,r',o2,hj,e,rfl⟩;cases r' with
  |zero =>
   have hj:j=ts.length:=hj;subst hj;refine(af (vo h8) ?_ :);exact sd rfl
  |succ r'=>rw[TR] at e;cases e
theorem mH(k:Nat){m:Int}{ts:List D}(h8:ts.length<=8)(z:Z):ao T (k + 3) jN [.d (.tup [.int m,.tup ts])] z=some (.ok (.fr ((d8 ts.length).map aj)) z):=Dc rfl k h8 z
def cq:D->List Nat
 |.tup l=>l.map λx=>match x with | .int i=>i.toNat | _=>0
 |_=>[]
theorem bE(l:List Nat):cq (aj l)=l:=by
 show(l.map ak).map _=l;rw[à];exact Tj l
theorem FQ(h:k<=8)(hl:aO∈d8 k):∀ n∈aO,n < k:=aD ((gn h).mem_iff.mp hl)
theorem i4(h:k<=8):(d8 k).length<=256:=by rw[(gn h).length_eq,kU];exact yO h
section
variable {m:Int}{ps cs:List (Int × Int)}{pl:List Nat}
abbrev aZ(m:Int)(ps:List (Int × Int))(pl:List Nat):List (List Nat):=(d8 ps.length).filter (bt ps m.toNat pl)
theorem kW(k:Nat)(g:aG m ps)(hp:aR m pl)(z:Z):ao T (k + 9) iK [.d (cB m ps),.d (.tup (pl.map ak))] z=some (.ok (.fr ((aZ m ps pl).map aj)) z):=by
 have h8:=g.len;have h6:=hp.len g.m6;refine W.ok (aW (ps:=2) (ns:=2) (b:=iR) rfl rfl (-0) (Wo (dr k z g.FD) (Wo (bo (k + 2) (t:=.tup (ps.map pr)) z hp.Jw (decide_eq_true (by rw[Ç];omega))) (Wo (mH (k + 5) (m:=m) (ts:=ps.map pr) (by rw[Ç];exact h8) z) ?_))))
 rw[Ç];refine ip (by rw[Ç];exact cm (ã (i4 h8) (-0))) (CN (λx=>bt ps m.toNat pl (cq x)) id (λx hx=>?_) ?_)
 ·obtain⟨l,hl,rfl⟩:=Î.mp hx;refine Wo (fU (k + 4) g hp (Row.t l) (FQ h8 hl) z) ⟨?_,rfl,λ_=>⟨rfl,rfl⟩⟩;rw[bE]
 ·refine sd ?_;rw[Tj,Sr];have:(d8 ps.length).filter ((λx=>bt ps m.toNat pl (cq x)) ∘ aj)=aZ m ps pl:=QR λl _=>by show bt ps m.toNat pl (cq (aj l))=_;rw[bE]
  rw[this]
theorem xt(k:Nat)(hl:cs.length<=8)(ha:∀ c∈cs,cH c)(aO:List Nat)(z:Z):ao T (k + 3) qI [.d (.tup (cs.map pr)),.d (aj aO)] z=some (.ok (.d (.int (vj (cf cs) cs.length aO))) z):=by
 refine W.ok (aW (ps:=2) (ns:=6) (b:=l6) rfl rfl (-0) ?_)
 refine kL (λxs ρ z1=>z1=z/\∃ (j:Nat) (o3 o4 o5:Option S),j<=cs.length/\xs=ig ((cs.drop j).map pr) j/\ρ=[some (.d (.tup (cs.map pr))),some (.d (aj aO)),some (.d (.int (vj (cf cs) j aO))),o3,o4,o5]) _ ⟨rfl,0,none,none,none,PQ _,rfl,(JJ (by show(cF _&&true)=true;rw[iY];rfl)).trans rfl⟩ ?_ ?_
 ·rintro x r ρ z1 ⟨rfl,j,o3,o4,o5,hj,e,rfl⟩;by_cases h:j < cs.length
  ·rw[tv h] at e;cases e;have ec:cs[j]=cf cs j:=by rw[cf,Ê,Ø h];rfl
   rw[ec];obtain⟨a1,a2⟩:=C8 (aO:=aO) ha (j:=j) ∅
   refine(af (yP (n:=j) (l:=aO)) ?_ :);have fin:∀ w:Int,0<=w->w<=1000->w=(if j∈aO then(cf cs j).1 else(cf cs j).2 - (cf cs j).1)->dU .mul (.int (vj (cf cs) j aO)) (.int w)=some (.d (.int (vj (cf cs) (j + 1) aO))):=λw w0 w1 e=>by
    rw[yN a1 (kR (n:=10 * j) ∅ a2) w0 (jh ∅),gm,e]
   obtain⟨w1,w2⟩:=(mG ha h).w (j∈aO);refine ib (b:=decide (j∈aO)) (λhm=>?_) λhm=>?_
   ·rw[decide_eq_true_eq] at hm;rw[if_pos hm] at w1 w2;refine(af (fin _ w1 w2 (by rw[if_pos hm])) ?_ :)
    exact⟨rfl,j + 1,_,_,_,h,rfl,rfl⟩
   ·rw[decide_eq_false_iff_not] at hm;rw[if_neg hm] at w1 w2;refine(af (fin _ w1 w2 (by rw[if_neg hm])) ?_ :)
    exact⟨rfl,j + 1,_,_,_,h,rfl,rfl⟩
  ·rw[UZ ∅] at e;cases e
 ·rintro ρ z1 ⟨rfl,j,o3,o4,o5,hj,e,rfl⟩;by_cases h:j < cs.length
  ·rw[tv h] at e;cases e
  ·have hj:j=cs.length:=by omega
   subst hj;exact sd rfl
theorem pH(k:Nat)(hl:cs.length<=8)(ha:∀ c∈cs,cH c)(z:Z):ao T (k + 3) jx [.d (.tup (cs.map pr))] z=some (.ok (.d (.int (d7 cs))) z):=by
 obtain⟨b0,b1⟩:=nG ha;refine W.ok (aW (ps:=1) (ns:=3) (b:=fO) rfl rfl (-0) ?_)
 refine kL (λxs ρ z2=>z2=z/\∃ (rest:List (Int × Int)) (b:Int) (o:Option S),xs=rest.map pr/\(∀ c∈rest,cH c)/\0 < b/\b * d7 rest=d7 cs/\ρ=[some (.d (.tup (cs.map pr))),some (.d (.int b)),o]) _ ⟨rfl,cs,1,none,rfl,ha,by decide,Vw _,(JJ (by show(cF _&&true)=true;rw[iY];rfl)).trans rfl⟩ ?_ ?_
 ·rintro x r ρ z2 ⟨rfl,rest,b,o,e,hr,hb,ht,rfl⟩;cases rest with
  |nil=>cases e
  |cons c rest =>
   cases e;have hc':=hr c Å;have hr':∀ c∈rest,cH c:=λd hd=>hr d (Æ _ hd);have ht':b * (c.2 * d7 rest)=d7 cs:=ht;have p0:=(nG hr').1;have hle:b<=d7 cs:=by
    rw[← ht'];have h1:0 < c.2 * d7 rest:=Rg (by have:=hc'.1;omega) p0
    have:b * 1<=b * (c.2 * d7 rest):=ò ∅ ∅
    omega
   refine(af (yN (i:=b) (j:=c.2) ∅ (kR (n:=10 * cs.length) ∅ (so hle b1)) (by have:=hc'.1;omega) (jh (by have:=hc'.2.1;omega))) ?_ :)
   exact⟨rfl,rest,b * c.2,_,rfl,hr',Rg hb (by have:=hc'.1;omega),by rw[P0];exact ht',rfl⟩
 ·rintro ρ z2 ⟨rfl,rest,b,o,e,hr,hb,ht,rfl⟩;cases rest with
  |cons _ _=>cases e
  |nil =>
   have ht:b * 1=d7 cs:=ht;rw[TJ] at ht;subst ht;exact sd rfl
theorem sum_ints(f:List Nat->Int):∀ ls:List (List Nat),rW ((ls.map aj).map λx=>.int (f (cq x)))=some (fo ls f)
 |[]=>rfl
 |l::r=>by
  show(rW ((r.map aj).map λx=>.int (f (cq x)))).map (f (cq (aj l)) + ·)=_;rw[sum_ints f r,bE];rfl
theorem qe(k:Nat)(hl:cs.length<=8)(ha:∀ c∈cs,cH c)(hls:ls.length<=256)(z:Z):ao T (k + 5) gN [.d (.tup (cs.map pr)),.d (.lst (ls.map aj))] z=some (.ok (.d (pr (cS (fo ls (vj (cf cs) cs.length)) (d7 cs)))) z):=by
 obtain⟨b0,b1⟩:=nG ha;refine W.ok (aW (ps:=2) (ns:=2) (b:=gW) rfl rfl (-0) ?_)
 refine ip (by rw[Ç];exact cm ∅) (fF (λx=>.int (vj (cf cs) cs.length (cq x))) (λx hx=>?_) ?_)
 ·obtain⟨l,_,rfl⟩:=Î.mp hx;refine Wo (xt (k + 1) hl ha l z) ⟨?_,rfl⟩;rw[bE]
 ·refine(af (o:=mR .sum [.lst _]) (a:=.d (.int (fo ls (vj (cf cs) cs.length)))) (by show(((jG (.lst _)).bind rW).map _)=_;show(rW _).map _=_;rw[sum_ints];rfl) ?_ :)
  exact Wo (pH (k + 1) hl ha z) (Wo (qP k _ _ z b0 (kR (n:=10 * cs.length) ∅ b1)) (sd rfl))
theorem Ay(h:a.Perm b):fo a f=fo b f:=by
 unfold fo;exact(h.map f).foldr_eq' (λx _ y _ z=>by omega) 0
theorem qV(g:List Nat->Bool)(f:List Nat->Int):∀ a:List (List Nat),fo (a.filter g) f=fo a λl=>if g l then f l else 0
 |[]=>rfl
 |x::r=>by
  have ih:=qV g f r;show _=(if g x=true then f x else 0) + fo r _;rw[Rz,← ih];cases g x with
  |true=>rfl|false=>show _=0 + _;rw[Int.zero_add];rfl
theorem qf(k:Nat)(g:aG m ps)(hc:cs.length=ps.length)(ha:∀ c∈cs,cH c)(z:Z):ao T (k + 5) gN [.d (.tup (cs.map pr)),.d (.lst ((aZ m ps pl).map aj))] z=some (.ok (.d (pr (ck m ps cs pl))) z):=by
 have h8:=g.len;rw[qe k ∅ ha (ã (Qk _ _) (i4 h8)) z,qV,Ay (gn h8),hc]
 rfl
theorem Dd(g:aG m ps)(hp:aR m pl)(hc:cs.length=ps.length)(ha:∀ c∈cs,cH c):Bd 80 (ck m ps cs pl):=by
 have h8:=g.len;have hcf:∀ n∈é ps.length,cH (cf cs n):=λn hn=>mG ha (by rw[hc];exact ì.mp hn)
 obtain⟨b0,b1⟩:=eH hcf;obtain⟨t0,t1⟩:=xq (g:=bt ps m.toNat pl) _ [] hcf;rw[qS g hp hc];refine(Fr.low b0 t0).bd b0 t1 (so b1 ?_);rw[p6]
 exact_mod_cast QQ (n:=2) (-0) (show 10 * ps.length<=80 by omega)
theorem vt(k:Nat)(g:aG m ps)(hp:aR m pl)(hc:cs.length=ps.length)(ha:∀ c∈cs,cH c)(z:Z):ao T (k + 11) sG [.d (cB m ps),.d (.tup (cs.map pr)),.d (.tup (pl.map ak))] z=some (.ok (.d (pr (ck m ps cs pl))) z):=by
 have h6:=hp.len g.m6;exact W.ok (aW (ps:=3) (ns:=3) (b:=sL) rfl rfl (-0) (Wo (bY k (m:=m) (ts:=ps.map pr) g.FD z (pC (by rw[Ç];exact hc) ha)) (Wo (bo (k + 4) (t:=.tup (ps.map pr)) z hp.Jw (decide_eq_true (by rw[Ç];omega))) (Wo (kW (k + 1) g hp z) (Wo (qf (k + 5) g hc ha z) (sd rfl))))))
end
def tl:Sm->Sm
 |.seq _ r=>r|s=>s
structure Bs(n:Nat)(c:Int × Int):Prop where
 t:c.1.natAbs<=2 ^ n
 b0:0 < c.2
 b:c.2.natAbs<=2 ^ n
theorem vv(h:n<=3999)(hi:i<=2 ^ n):i < ir:=Q4 hi (VM (-0) ∅)
theorem yR(h:n<=3999)(hi:i.natAbs<=2 ^ n)(hj:j.natAbs<=2 ^ n):dU .mul (.int i) (.int j)=some (.d (.int (i * j))):=by
 show(if i.natAbs < ir/\j.natAbs < ir then some (S.d (.int (i * j))) else none)=_;rw[if_pos ⟨vv h hi,vv h hj⟩]
theorem Bd.s(h:Bd n c):Bs n c:=by
 have e:((2 ^ n:Nat):Int)=2 ^ n:=R3 2 n;have h1:=h.t0;have h2:=h.tb;have h3:=h.b0;have h4:=h.bb;rw[← e] at h4;exact⟨by omega,h3,by omega⟩
theorem FR(h0:0 < b):(cS t b).1.natAbs<=t.natAbs/\(cS t b).2.natAbs<=b.natAbs:=by
 obtain⟨e1,e2⟩:=nC (t:=t) h0;have g0:=fz (t:=t) h0;generalize cS t b=v at *
 generalize hg:gcd t b=g at *
 have g1:1<=g:=by omega
 constructor
 ·rw[e1,UI,Wv];exact Vj _ g1
 ·rw[e2,UI,Wv];exact Vj _ g1
theorem xu(k:Nat)(hc:Bs n c)(hd:Bs n d)(hn:n<=3999)(z:Z):ao T (k + 3) qH [.d (pr c),.d (pr d)] z=some (.ok (.d (.bl (decide (c.1 * d.2 < d.1 * c.2)))) z):=by
 refine W.ok (aW (ps:=2) (ns:=2) (b:=l5) rfl rfl (-0) ?_)
 refine(af (yR hn hc.t hd.b) ?_ :);refine(af (yR hn hd.t hc.b) ?_ :);exact sd rfl
def LZ:Option Nat->D
 |none=>.bw|some i=>ak i
abbrev lf(l:List (Int × Int))(i:Nat):Int × Int:=l.getD i (0,1)
def fg(l:List (Int × Int)):Nat->Option Nat
 |0=>none
 |j + 1=>match fg l j with
  |none=>some j|some i=>if (lf l i).1 * (lf l j).2 < (lf l j).1 * (lf l i).2 then some j else some i
theorem yS:∀ {j i:Nat},fg l j=some i->i < j
 |j + 1,i,h=>by
  unfold fg at h;split at h
  ·cases h;omega
  ·rename_i i' e;have:=yS e;split at h <;> (cases h;omega)
theorem xv(h:i < l.length):lf l i∈l:=by rw[lf,Ê,Ø h];exact Pb h
theorem JA{i:Nat}(h:i < l.length):iB (.lst (l.map pr)) (.int i)=some (pr (lf l i)):=by
 rw[lf,Ê,Ø h];exact kQ (by rw[è,Ø h];rfl)
theorem yT(h:j < l.length):(l.drop j).map pr=pr (lf l j)::(l.drop (j + 1)).map pr:=by
 rw[tv h,lf,Ê,Ø h];rfl
theorem fA(k:Nat){n:Nat}(hb:∀ c∈l,Bs n c)(hn:n<=3999)(z:Z):ao T (k + 4) dI [.d (.lst (l.map pr))] z=some (.ok (.d (LZ (fg l l.length))) z):=by
 refine W.ok (aW (ps:=1) (ns:=4) (b:=dN) rfl rfl (-0) ?_)
 refine kL (λxs ρ z1=>z1=z/\∃ (j:Nat) (o2 o3:Option S),j<=l.length/\xs=ig ((l.drop j).map pr) j/\ρ=[some (.d (.lst (l.map pr))),some (.d (LZ (fg l j))),o2,o3]) _ ⟨rfl,0,none,none,PQ _,rfl,(JJ (by show(cF _&&true)=true;rw[iY];rfl)).trans rfl⟩ ?_ ?_
 ·rintro x r ρ z1 ⟨rfl,j,o2,o3,hj,e,rfl⟩;by_cases h:j < l.length
  ·rw[yT h] at e;cases e;cases hf:fg l j with
   |none=>exact⟨rfl,j + 1,_,_,h,rfl,by rw[fg,hf];rfl⟩
   |some i =>
    have hi:=yS hf;refine(af (JA (l:=l) (i:=i) ∅) ?_ :)
    refine Wo (xu k (hb _ (xv ∅)) (hb _ (xv h)) hn z1) (ib (b:=decide _) (λhd=>?_) λhd=>?_)
    ·rw[decide_eq_true_eq] at hd;exact⟨rfl,j + 1,_,_,h,rfl,by rw[fg,hf];simp only[if_pos hd];rfl⟩
    ·rw[decide_eq_false_iff_not] at hd;exact⟨rfl,j + 1,_,_,h,rfl,by rw[fg,hf];simp only[if_neg hd];rfl⟩
  ·rw[UZ ∅] at e;cases e
 ·rintro ρ z1 ⟨rfl,j,o2,o3,hj,e,rfl⟩;by_cases h:j < l.length
  ·rw[yT h] at e;cases e
  ·have hj:j=l.length:=by omega
   subst hj;exact sd rfl
structure Rt(v:Int × Int)(t b:Int):Prop where
 b0:0 < v.2
 one:gcd v.1 v.2=1
 eq:v.1 * b=t * v.2
theorem Rt.low{t b:Int}(hb:0 < b):Rt (cS t b) t b:=⟨nF hb,sU hb,by rw[qT hb,kr]⟩
theorem Rt.conv{v:Int × Int}{t b t' b':Int}(h:Rt v t b)(hb:0 < b)(e:t * b'=t' * b):Rt v t' b':=by
 refine⟨h.b0,h.one,RQ (a:=b) ∅ ?_⟩
 have:=h.eq
 calc v.1 * b' * b=(v.1 * b) * b':=by grind
  _=(t * b') * v.2:=by rw[this];grind
  _=t' * v.2 * b:=by rw[e];grind
theorem Rt.eqv{v w:Int × Int}{t b:Int}(hv:Rt v t b)(hw:Rt w t b)(hb:0 < b):v=w:=by
 have e:v.1 * w.2=w.1 * v.2:=by
  have h1:=hv.eq;have h2:=hw.eq;refine RQ (a:=b) ∅ ?_
  calc v.1 * w.2 * b=(v.1 * b) * w.2:=by grind
   _=(t * w.2) * v.2:=by rw[h1];grind
   _=w.1 * v.2 * b:=by rw[← h2];grind
 obtain⟨a,b'⟩:=pB hv.b0 hw.b0 hv.one hw.one e;exact Vz a b'
theorem Rt.mul{v w:Int × Int}{t b t' b':Int}(hv:Rt v t b)(hw:Rt w t' b'):Rt (cS (v.1 * w.1) (v.2 * w.2)) (t * t') (b * b'):=by
 have y:=Rg hv.b0 hw.b0;refine(Rt.low y).conv y ?_;have h1:=hv.eq;have h2:=hw.eq
 calc v.1 * w.1 * (b * b')=(v.1 * b) * (w.1 * b'):=by grind
  _=t * t' * (v.2 * w.2):=by rw[h1,h2];grind
theorem cH.rt{c:Int × Int}(h:cH c):Rt c c.1 c.2:=⟨by have:=h.1;omega,h.2.2.2.2,rfl⟩
theorem Rt.pos{v:Int × Int}{t b:Int}(h:Rt v t b)(hb:0 < b)(ht:0<=t):0<=v.1:=by
 have:=QJ ht (ó h.b0);rw[← h.eq] at this;exact Int.nonneg_of_mul_nonneg_left this hb
def qW(a b:Int × Int):Prop:=a.1 * b.2<=b.1 * a.2
theorem l9{a b c:Int × Int}(ha:0 < a.2)(hb:0 < b.2)(hc:0 < c.2)(h1:qW a b)(h2:qW b c):qW a c:=by
 unfold qW at *
 refine RP (a:=b.2) ?_ hb;have k1:=O3 h1 (ó hc);have k2:=O3 h2 (ó ha);have e1:a.1 * c.2 * b.2=a.1 * b.2 * c.2:=by grind
 have e2:b.1 * a.2 * c.2=b.1 * c.2 * a.2:=by grind
 have e3:c.1 * b.2 * a.2=c.1 * a.2 * b.2:=by grind
 omega
theorem De{n:Nat}{l:List (Int × Int)}(hb:∀ c∈l,Bs n c):∀ {j i:Nat},j<=l.length->fg l j=some i->∀ k < j,qW (lf l k) (lf l i)
 |j + 1,i,hj,h,k,hk=>by
  have b:=λx (hx:x < l.length)=>(hb _ (xv hx)).b0;unfold fg at h;split at h
  ·rename_i e;cases h;have:j=0:=by
    cases j with
    |zero=>rfl|succ j=>unfold fg at e;split at e <;> first | (cases e;done) | (split at e <;> cases e)
   subst this;rw[show k=0 by omega]
   exact VR _
  ·rename_i i' e;have lt:=yS e;have ih:=λk hk=>De hb (j:=j) (i:=i') ∅ e k hk
   split at h
   ·rename_i c;cases h;by_cases hkj:k=j
    ·subst hkj;exact VR _
    ·exact l9 (b k ∅) (b i' ∅) (b j ∅) (ih k ∅) (ó c)
   ·rename_i c;cases h;by_cases hkj:k=j
    ·subst hkj;exact Int.not_lt.mp c
    ·exact ih k ∅
theorem FU{l:List (Int × Int)}:∀ {j:Nat},0 < j->∃ i,fg l j=some i
 |j + 1,_=>by
  unfold fg;split
  ·exact⟨_,rfl⟩
  ·split <;> exact⟨_,rfl⟩
section
variable {g:List Nat->Bool}{c:Nat->Int × Int}
def Az(n:Nat)(p:List (List Nat)):List (List Nat):=p.map λL=>L.filter (· != n)
def AL(n:Nat)(p:List (List Nat)):List (List Nat):=p.filter λL=>!L.contains n
def WF(c:Nat->Int × Int):List Nat->List (List Nat)->Int
 |[],p=>if p.any (·.isEmpty) then 0 else 1|n::r,p=>(c n).1 * WF c r (Az n p) + ((c n).2 - (c n).1) * WF c r (AL n p)
theorem any_nil{p:List (List Nat)}:p.any (·.isEmpty)=true↔[]∈p:=by
 rw[SX];exact⟨λ⟨x,hx,e⟩=>by rw[SR] at e;exact e ▸ hx,λh=>⟨[],h,rfl⟩⟩
theorem xw{N:Nat}:∀ (ns h:List Nat) (p:List (List Nat)),(∀ n∈ns,n < N/\cH (c n))->(∀ n∈h,n < N)->(∀ L∈p,∀ h',(∀ n∈h',n < N)->(∀ n∈h,n∈h')->(∀ n∈L,n∈h')->g h'=true)->aU c ns - WF c ns p<=cj g c ns h
 |[],h,p,_,hh,up=>by
  show 1 - (if p.any (·.isEmpty)=true then(0:Int) else 1)<=if g h=true then 1 else 0;by_cases e:p.any (·.isEmpty)=true
  ·rw[if_pos e,if_pos (up [] (any_nil.mp e) h hh (λ_ q=>q) λ_ q=>nomatch q)];decide
  ·rw[if_neg e];split <;> decide
 |n::r,h,p,hn,hh,up=>by
  obtain⟨n1,c1,c2,c3,c4,_⟩:=hn n Å;have hr:=λk hk=>hn k (Æ _ hk);have hh':∀ k∈n::h,k < N:=λk hk=>by
   rcases Û.mp hk with rfl | hk
   ·exact n1
   ·exact hh k hk
  have i1:=xw r (n::h) (Az n p) hr hh' λL hL h' a b d=>by
   obtain⟨M,hM,rfl⟩:=Î.mp hL;refine up M hM h' a (λk hk=>b k (Æ _ hk)) λk hk=>?_;by_cases e:k=n
   ·rw[e];exact b n Å
   ·exact d k (õ.mpr ⟨hk,by simpa using e⟩)
  have i2:=xw r h (AL n p) hr hh λL hL=>up L (õ.mp hL).1;have k1:=ò i1 c3;have k2:=ò i2 (show 0<=(c n).2 - (c n).1 by omega)
  rw[Yy] at k1 k2;show(c n).2 * aU c r - ((c n).1 * WF c r (Az n p) + ((c n).2 - (c n).1) * WF c r (AL n p))<=(c n).1 * cj g c r (n::h) + ((c n).2 - (c n).1) * cj g c r h;have e:(c n).2 * aU c r=(c n).1 * aU c r + ((c n).2 - (c n).1) * aU c r:=by rw[← add_mul];congr 1;omega
  omega
theorem sY:∀ (ns h:List Nat) (p:List (List Nat)),ns.Nodup->(∀ n∈ns,cH (c n))->(∀ s:List Nat,(∀ n∈s,n∈ns)->g (s++h)=true->∃ L∈p,∀ n∈L,n∈s)->cj g c ns h<=aU c ns - WF c ns p
 |[],h,p,_,_,dn=>by
  show(if g h=true then(1:Int) else 0)<=1 - (if p.any (·.isEmpty)=true then(0:Int) else 1);cases e:g h with
  |false =>
   rw[if_neg Õ];split <;> decide
  |true =>
   obtain⟨L,hL,hs⟩:=dn [] (λ_ q=>nomatch q) e;have:L=[]:=TU.mpr λn hn=>nomatch hs n hn;rw[if_pos (any_nil.mpr (this ▸ hL))];decide
 |n::r,h,p,nd,hn,dn=>by
  obtain⟨c1,c2,c3,c4,_⟩:=hn n Å;have hr:=λk hk=>hn k (Æ _ hk);obtain⟨d1,d2⟩:=O6.mp nd;have i1:=sY r (n::h) (Az n p) d2 hr λs hs hg=>by
   obtain⟨L,hL,hl⟩:=dn (s++[n]) (λk hk=>by
    rcases Ì.mp hk with q | q
    ·exact Æ _ (hs k q)
    ·rw[Ð.mp q];exact Å) (by rw[Ý];exact hg)
   refine⟨_,Î.mpr ⟨L,hL,rfl⟩,λk hk=>?_⟩;obtain⟨q1,q2⟩:=õ.mp hk;rcases Ì.mp (hl k q1) with q | q
   ·exact q
   ·rw[Ð.mp q] at q2;simp at q2
  have i2:=sY r h (AL n p) d2 hr λs hs hg=>by
   obtain⟨L,hL,hl⟩:=dn s (λk hk=>Æ _ (hs k hk)) hg;refine⟨L,õ.mpr ⟨hL,?_⟩,hl⟩;rw[ô,PV];exact λq=>d1 (hs n (hl n (þ.mp q)))
  have k1:=ò i1 c3;have k2:=ò i2 (show 0<=(c n).2 - (c n).1 by omega)
  rw[Yy] at k1 k2;show(c n).1 * cj g c r (n::h) + ((c n).2 - (c n).1) * cj g c r h<=(c n).2 * aU c r - ((c n).1 * WF c r (Az n p) + ((c n).2 - (c n).1) * WF c r (AL n p));have e:(c n).2 * aU c r=(c n).1 * aU c r + ((c n).2 - (c n).1) * aU c r:=by rw[← add_mul];congr 1;omega
  omega
def fm(l:List Int):Int:=l.foldr (· * ·) 1
theorem eI:∀ a b:List Int,fm (a++b)=fm a * fm b
 |[],b=>(Vw _).symm|x::a,b=>by show x * fm (a++b)=x * fm a * fm b;rw[eI a b,P0]
def jq(c:Nat->Int × Int)(L:List Nat):Int:=fm (L.map λn=>(c n).1)
def bU(c:Nat->Int × Int)(p:List (List Nat)):Int:=fm (p.map (aU c))
def dA(c:Nat->Int × Int)(p:List (List Nat)):Int:=fm (p.map λL=>aU c L - jq c L)
theorem vw{n:Nat}{L:List Nat}(h:n ∉ L):L.filter (· != n)=L:=VP.mpr λk hk=>by
 have:k≠n:=λe=>h (e ▸ hk);simpa using this
theorem sZ{n:Nat}:∀ {p:List (List Nat)},(∀ L∈p,n ∉ L)->Az n p=p
 |[],_=>rfl
 |L::p,h=>by
  show L.filter (· != n)::Az n p=L::p;rw[vw (h L Å),sZ λM hM=>h M (Æ _ hM)]
theorem xx{n:Nat}{p:List (List Nat)}(h:∀ L∈p,n ∉ L):AL n p=p:=VP.mpr λL hL=>by
 rw[ô,PV];exact λq=>h L hL (þ.mp q)
def Dj(p:List (List Nat)):Prop:=p.Pairwise (λL M=>∀ n∈L,n ∉ M)/\∀ L∈p,L.Nodup
theorem yU{n:Nat}{L:List Nat}(nd:L.Nodup)(h:n∈L):L.Perm (n::L.filter (· != n)) :=
 (QE nd (O6.mpr ⟨λq=>by have:=(õ.mp q).2;simp at this,nd.sublist PB⟩)).mpr λk=>by
  rw[OO,QL];constructor
  ·intro hk;by_cases e:k=n
   ·exact .inl e
   ·exact .inr ⟨hk,by simpa using e⟩
  ·rintro (rfl | ⟨hk,_⟩)
   ·exact h
   ·exact hk
theorem Dg{a b:List Int}(h:a.Perm b):fm a=fm b:=by
 induction h with
 |nil=>rfl|cons x _ ih=>exact congrArg (x * ·) ih|swap x y l=>show y * (x * fm l)=x * (y * fm l);rw[← P0,← P0,kr y]|trans _ _ h1 h2=>rw[h1,h2]
theorem pI:∀ (ns:List Nat) (p:List (List Nat)),ns.Nodup->Dj p->(∀ L∈p,∀ n∈L,n∈ns)->WF c ns p * bU c p=dA c p * aU c ns
 |[],p,_,_,hs=>by
  have nil:∀ L∈p,L=[]:=λL hL=>TU.mpr λn hn=>nomatch hs L hL n hn
  match p,nil with
  |[],_=>rfl
  |L::r,nil =>
   have e:=nil L Å;subst e;show(if true=true then(0:Int) else 1) * _=(1 - 1) * _ * _;rw[if_pos rfl,Int.sub_self,zero_mul,zero_mul,zero_mul]
 |n::r,p,nd,dj,hs=>by
  obtain⟨d1,d2⟩:=O6.mp nd;have in_r:∀ {L:List Nat},L∈p->n ∉ L->∀ k∈L,k∈r:=λhL hn k hk=>by
   rcases Û.mp (hs _ hL k hk) with rfl | q
   ·exact absurd hk hn
   ·exact q
  show((c n).1 * WF c r (Az n p) + ((c n).2 - (c n).1) * WF c r (AL n p)) * _=_ * ((c n).2 * aU c r);by_cases ex:∃ L∈p,n∈L
  ·obtain⟨L,hL,hn⟩:=ex;obtain⟨p1,p2,rfl⟩:=V4 hL;obtain⟨w1,w2,w3⟩:=å.mp dj.1;obtain⟨w4,w5⟩:=ÿ.mp w2;have o1:∀ M∈p1,n ∉ M:=λM hM q=>w3 M hM L Å n q hn;have o2:∀ M∈p2,n ∉ M:=λM hM=>w4 M hM n hn;have ndL:=dj.2 L hL;have eE:Az n (p1++L::p2)=p1++L.filter (· != n)::p2:=by
    have:Az n (p1++L::p2)=Az n p1++L.filter (· != n)::Az n p2:=by unfold Az;rw[OM];rfl
    rw[this,sZ o1,sZ o2]
   have eD:AL n (p1++L::p2)=p1++p2:=by
    have:AL n (p1++L::p2)=AL n p1++AL n p2:=by
     unfold AL;rw[List.filter_append,Rz,if_neg (by simp[hn])]
    rw[this,xx o1,xx o2]
   have sub:∀ k∈L.filter (· != n),k∈L:=λk hk=>(õ.mp hk).1;have nE:n ∉ L.filter (· != n):=λq=>by have:=(õ.mp q).2;simp at this
   have djE:Dj (p1++L.filter (· != n)::p2):=⟨å.mpr ⟨w1,ÿ.mpr ⟨λM hM k hk=>w4 M hM k (sub k hk),w5⟩,λM hM M' hM' k hk hk'=>by
    rcases Û.mp hM' with rfl | q
    ·exact w3 M hM L Å k hk (sub k hk')
    ·exact w3 M hM M' (Æ _ q) k hk hk'⟩,λM hM=>by
    rcases Ì.mp hM with q | q
    ·exact dj.2 M (ç _ q)
    ·rcases Û.mp q with rfl | q
     ·exact ndL.sublist PB
     ·exact dj.2 M (Ò _ (Æ _ q))⟩
   have djD:Dj (p1++p2):=⟨å.mpr ⟨w1,w5,λM hM M' hM'=>w3 M hM M' (Æ _ hM')⟩,λM hM=>dj.2 M (by
    rcases Ì.mp hM with q | q
    ·exact ç _ q
    ·exact Ò _ (Æ _ q))⟩
   have iE:=pI r _ d2 djE λM hM k hk=>by
    rcases Ì.mp hM with q | q
    ·exact in_r (ç _ q) (o1 M q) k hk
    ·rcases Û.mp q with rfl | q
     ·rcases Û.mp (hs L hL k (sub k hk)) with rfl | z
      ·exact absurd hk nE
      ·exact z
     ·exact in_r (Ò _ (Æ _ q)) (o2 M q) k hk
   have iD:=pI r _ d2 djD λM hM k hk=>by
    rcases Ì.mp hM with q | q
    ·exact in_r (ç _ q) (o1 M q) k hk
    ·exact in_r (Ò _ (Æ _ q)) (o2 M q) k hk
   rw[eE,eD];have pm:=yU ndL hn;have bL:aU c L=(c n).2 * aU c (L.filter (· != n)):=by rw[Aw pm];rfl
   have tL:jq c L=(c n).1 * jq c (L.filter (· != n)):=by unfold jq;rw[Dg (pm.map _)];rfl
   have sB:∀ M:List Nat,bU c (p1++M::p2)=bU c p1 * (aU c M * bU c p2):=λM=>by unfold bU;rw[OM,eI];rfl
   have sN:∀ M:List Nat,dA c (p1++M::p2)=dA c p1 * ((aU c M - jq c M) * dA c p2):=λM=>by unfold dA;rw[OM,eI];rfl
   have sB0:bU c (p1++p2)=bU c p1 * bU c p2:=by unfold bU;rw[OM,eI]
   have sN0:dA c (p1++p2)=dA c p1 * dA c p2:=by unfold dA;rw[OM,eI]
   rw[sB,sN] at iE;rw[sB0,sN0] at iD;rw[sB,sN,bL,tL];generalize WF c r (p1++L.filter (· != n)::p2)=we at *
   generalize WF c r (p1++p2)=wd at *
   generalize aU c (L.filter (· != n))=bl at *
   generalize jq c (L.filter (· != n))=tl at *
   generalize bU c p1=b1 at *
   generalize bU c p2=b2 at *
   generalize dA c p1=n1 at *
   generalize dA c p2=n2 at *
   generalize aU c r=B at *
   generalize (c n).1=t;generalize (c n).2=b
   calc (t * we + (b - t) * wd) * (b1 * (b * bl * b2))=t * b * (we * (b1 * (bl * b2))) + (b - t) * b * bl * (wd * (b1 * b2)):=by grind
    _=t * b * (n1 * ((bl - tl) * n2) * B) + (b - t) * b * bl * (n1 * n2 * B):=by rw[iE,iD]
    _=n1 * ((b * bl - t * tl) * n2) * (b * B):=by grind
  ·have off:∀ L∈p,n ∉ L:=λL hL q=>ex ⟨L,hL,q⟩;have i:=pI r p d2 dj λL hL=>in_r hL (off L hL);rw[sZ off,xx off]
   calc ((c n).1 * WF c r p + ((c n).2 - (c n).1) * WF c r p) * bU c p=(c n).2 * (WF c r p * bU c p):=by grind
    _=dA c p * ((c n).2 * aU c r):=by rw[i];grind
def c8(c:Nat->Int × Int)(n:Nat):Int × Int:=((c n).2 - (c n).1,(c n).2)
theorem s9{N:Nat}{g':List Nat->Bool}(hg:∀ h h':List Nat,(∀ n∈h,n < N)->(∀ n∈h',n < N)->(∀ n,n < N->(n∈h↔n ∉ h'))->g' h'=!g h):∀ (ns h h':List Nat),ns.Nodup->(∀ n∈ns,n < N/\n ∉ h/\n ∉ h')->(∀ n∈h,n < N)->(∀ n∈h',n < N)->(∀ n,n < N->n ∉ ns->(n∈h↔n ∉ h'))->cj g' (c8 c) ns h'=aU c ns - cj g c ns h
 |[],h,h',_,_,a,b,e=>by
  have:=hg h h' a b λn hn=>e n hn (λq=>nomatch q);show(if g' h'=true then(1:Int) else 0)=1 - if g h=true then(1:Int) else 0;rw[this];cases g h <;> rfl
 |n::r,h,h',nd,hn,a,b,e=>by
  obtain⟨d1,d2⟩:=O6.mp nd;obtain⟨n1,n2,n3⟩:=hn n Å;have ne:∀ k∈r,k≠n:=λk hk q=>d1 (q ▸ hk);have i1:=s9 hg r h (n::h') d2 (λk hk=>by
   obtain⟨q1,q2,q3⟩:=hn k (Æ _ hk);exact⟨q1,q2,λq=>(Û.mp q).elim (ne k hk) q3⟩) a (λk hk=>by
   rcases Û.mp hk with rfl | q
   ·exact n1
   ·exact b k q) λk hk hr=>by
   by_cases q:k=n
   ·subst q;exact⟨λz=>absurd z n2,λz=>absurd Å z⟩
   ·rw[e k hk λz=>(Û.mp z).elim q hr,OO];exact⟨λz=>λy=>y.elim q z,λz y=>z (.inr y)⟩
  have i2:=s9 hg r (n::h) h' d2 (λk hk=>by
   obtain⟨q1,q2,q3⟩:=hn k (Æ _ hk);exact⟨q1,λq=>(Û.mp q).elim (ne k hk) q2,q3⟩) (λk hk=>by
   rcases Û.mp hk with rfl | q
   ·exact n1
   ·exact a k q) b λk hk hr=>by
   by_cases q:k=n
   ·subst q;exact⟨λ_=>n3,λ_=>Å⟩
   ·rw[OO,← e k hk λz=>(Û.mp z).elim q hr];exact⟨λz=>z.resolve_left q,.inr⟩
  show((c n).2 - (c n).1) * cj g' (c8 c) r (n::h') + ((c n).2 - ((c n).2 - (c n).1)) * cj g' (c8 c) r h'=(c n).2 * aU c r - ((c n).1 * cj g c r (n::h) + ((c n).2 - (c n).1) * cj g c r h);rw[i1,i2]
  grind
theorem yV(ns:List Nat):aU (c8 c) ns=aU c ns:=rfl
end
def gp(j:Nat)(aO:List Nat):List Nat:=(é j).filter λn=>!aO.contains n
theorem AA{n K:Nat}(h:n < K):aY (.int n) K=true:=by
 show(decide (0<=(n:Int))&&decide ((n:Int) < (K:Int)))=true;rw[decide_eq_true ∅,decide_eq_true ∅];rfl
theorem Bs.up{n m:Nat}{c:Int × Int}(h:Bs n c)(hm:n<=m):Bs m c :=
 have e:=QQ (n:=2) (-0) hm
 ⟨ã h.t e,h.b0,ã h.b e⟩
theorem FV(a:Int × Int):(!((a.1 == a.1)&&((a.2 == a.2)&&true)))=false:=by rw[beq_self_eq_true,beq_self_eq_true];rfl
section
variable {m:Int}{ps cs:List (Int × Int)}{pl:List Nat}
theorem td{j n:Nat}{aO:List Nat}(h:n∈gp j aO):n < j:=ì.mp (õ.mp h).1
theorem qg(k:Nat)(h8:ps.length<=8)(aO:List Nat)(z:Z):ao T (k + 3) kM [.d (cB m ps),.d (aj aO)] z=some (.ok (.d (aj (gp ps.length aO))) z):=by
 refine W.ok (aW (ps:=2) (ns:=2) (b:=gR) rfl rfl (-0) ?_)
 refine(af (o:=qz .rng1 [.int ((ps.map pr).length:Nat)]) (sX (n:=(ps.map pr).length) (by rw[Ç];omega)) ?_ :)
 rw[Ç];refine ip (by rw[Ç,V3];exact cm ∅) (CN (λx=>match x with | .int i=>!aO.contains i.toNat | _=>false) id (λx hx=>?_) ?_)
 ·obtain⟨n,hn,rfl⟩:=Î.mp hx;refine(af (o:=(rT (ak n) (aO.map ak)).map (!·)) (a:=!aO.contains n) (by rw[yP,List.contains_eq_mem];rfl) ?_ :)
  exact⟨rfl,rfl,λ_=>⟨rfl,rfl⟩⟩
 ·rw[Tj,Sr];refine sd ?_;rw[Ç,← Q3];rfl
theorem qX(k:Nat)(g:aG m ps)(hp:aR m pl)(aO:List Nat)(z:Z):ao T (k + 5) oS [.d (cB m ps),.d (aj aO),.d (.tup (pl.map ak))] z=some (.ok (.d (.bl (!bt ps m.toNat pl (gp ps.length aO)))) z):=by
 refine W.ok (aW (ps:=3) (ns:=3) (b:=pf) rfl rfl (-0) (Wo (qg (k + 1) g.len aO z) (Wo (fU k g hp (Row.t _) (λn hn=>td hn) z) ?_)))
 exact sd rfl
abbrev bZ(m:Int)(ps:List (Int × Int))(pl:List Nat):List (List Nat):=(d8 ps.length).filter λl=>!bt ps m.toNat pl (gp ps.length l)
theorem FW(k:Nat)(g:aG m ps)(hp:aR m pl)(z:Z):ao T (k + 9) CO [.d (cB m ps),.d (.tup (pl.map ak))] z=some (.ok (.fr ((bZ m ps pl).map aj)) z):=by
 have h8:=g.len;have h6:=hp.len g.m6;refine W.ok (aW (ps:=2) (ns:=2) (b:=xg) rfl rfl (-0) (Wo (dr k z g.FD) (Wo (bo (k + 2) (t:=.tup (ps.map pr)) z hp.Jw (decide_eq_true (by rw[Ç];omega))) (Wo (mH (k + 5) (m:=m) (ts:=ps.map pr) (by rw[Ç];exact h8) z) ?_))))
 rw[Ç];refine ip (by rw[Ç];exact cm (ã (i4 h8) (-0))) (CN (λx=>!bt ps m.toNat pl (gp ps.length (cq x))) id (λx hx=>?_) ?_)
 ·obtain⟨l,hl,rfl⟩:=Î.mp hx;refine Wo (qX (k + 3) g hp l z) ⟨?_,rfl,λ_=>⟨rfl,rfl⟩⟩;rw[bE]
 ·refine sd ?_;rw[Tj,Sr];have:(d8 ps.length).filter ((λx=>!bt ps m.toNat pl (gp ps.length (cq x))) ∘ aj)=bZ m ps pl:=QR λl _=>by show(!bt ps m.toNat pl (gp ps.length (cq (aj l))))=_;rw[bE]
  rw[this]
end
theorem b7:∀ {j:Nat}{aO:List Nat},aO∈aI j->aO.Pairwise (· < ·)
 |0,aO,h=>by
  have:aO=[]:=by simpa [aI] using h
  subst this;exact .nil
 |j + 1,aO,h=>by
  rcases Ì.mp (show aO∈aI j++(aI j).map (·++[j]) from h) with h | h
  ·exact b7 h
  ·obtain⟨x,hx,rfl⟩:=Î.mp h;rw[å];refine⟨b7 hx,OZ _ _,λa ha b hb=>?_⟩;rw[Sb] at hb;subst hb;exact aD hx a ha
theorem vx:∀ ns:List Int,fY (ns.map D.int)=some ns
 |[]=>rfl
 |n::r=>by
  show(fY (r.map D.int)).map (n::·)=_;rw[vx r];rfl
section
variable {m:Int}{ps cs:List (Int × Int)}
theorem g6:∀ ls:List (List Nat),cF (ls.map aj)=true
 |[]=>rfl
 |l::r=>by
  show(cF (l.map ak)&&cF (r.map aj))=true;rw[g6 r,gZ l];rfl
end
theorem kX:∀ {K:Nat}{l:List Nat},l.Pairwise (· < ·)->(∀ n∈l,n < K)->l∈aI K
 |0,l,_,h=>by
  cases l with
  |nil=>exact Ð.mpr rfl|cons a r=>exact absurd (h a Å) (Uo _)
 |K + 1,l,hp,h=>by
  show l∈aI K++(aI K).map (·++[K]);by_cases hk:K∈l
  ·obtain⟨s,t,rfl⟩:=V4 hk;rw[å] at hp;obtain⟨p1,p2,p3⟩:=hp;have ht:t=[]:=by
    cases t with
    |nil=>rfl
    |cons b r =>
     have h1:=List.rel_of_pairwise_cons p2 Å;have h2:=h b (Ò _ (Æ _ Å));omega
   subst ht;refine Ò _ (Î.mpr ⟨s,kX p1 λn hn=>p3 n hn K Å,rfl⟩)
  ·refine ç _ (kX hp λn hn=>?_);have:=h n hn;have:n≠K:=λe=>hk (e ▸ hn);omega
def vy(l:List Nat):List (List Nat):=(é l.length).map l.eraseIdx
def aA(ls:List (List Nat)):List (List Nat):=ls.filter λl=>!(vy l).any λx=>ls.contains x
theorem eK{ls:List (List Nat)}{x:List Nat}(h:x∈aA ls):x∈ls:=(õ.mp h).1
theorem mI{ls:List (List Nat)}:∀ (k:Nat) {l:List Nat},l.length<=k->l∈ls->∃ x∈aA ls,∀ n∈x,n∈l:=λk=>by
 induction k with
 |zero =>
  intro l hk hl;have:l=[]:=Px ∅
  subst this;exact⟨[],õ.mpr ⟨hl,rfl⟩,λn hn=>nomatch hn⟩
 |succ k ih =>
  intro l hk hl;by_cases h:(vy l).any (λx=>ls.contains x)=true
  ·obtain⟨x,hx,hc⟩:=List.any_eq_true.mp h;obtain⟨i,hi,rfl⟩:=Î.mp hx;have hi:=ì.mp hi;obtain⟨y,hy,hs⟩:=ih (l:=l.eraseIdx i) (by rw[List.length_eraseIdx_of_lt hi];omega) (þ.mp hc)
   exact⟨y,hy,λn hn=>(List.eraseIdx_sublist ..).mem (hs n hn)⟩
  ·exact⟨l,õ.mpr ⟨hl,by rw[Bool.not_eq_true] at h;rw[h];rfl⟩,λn hn=>hn⟩
section
variable {m:Int}{ps cs:List (Int × Int)}{pl:List Nat}
theorem i5(g:aG m ps){l:List Nat}:l∈aZ m ps pl↔l∈aI ps.length/\bt ps m.toNat pl l=true:=by
 rw[QL,(gn g.len).mem_iff]
theorem kY(g:aG m ps){l:List Nat}:l∈bZ m ps pl↔l∈aI ps.length/\bt ps m.toNat pl (gp ps.length l)=false:=by
 rw[QL,(gn g.len).mem_iff,ô]
end
theorem FY{a b:List Nat}(ha:a.Pairwise (· < ·))(hb:b.Pairwise (· < ·))(h1:∀ n∈a,n∈b)(h2:∀ n∈b,n∈a):a=b:=by
 have na:a.Nodup:=ha.imp λh=>â h;have nb:b.Nodup:=hb.imp λh=>â h;have p:=(QE na nb).mpr λn=>⟨h1 n,h2 n⟩;exact p.eq_of_pairwise (le:=(· < ·)) (λx y _ _ h1 h2=>absurd h1 (Wn.mpr (RF h2))) ha hb
def AB(p:List (List Nat)):Bool:=decide p.flatten.Nodup
def tf(P:List (List (List Nat)))(L:List Nat):List (List (List Nat)):=if L.isEmpty then P else P++(P.filter λp=>AB (p++[L])).map (·++[L])
def dt(ls:List (List Nat)):List (List (List Nat)):=ls.foldl tf [[]]
structure Pa(ls p:List (List Nat)):Prop where
 sub:p.Sublist ls
 ne:[] ∉ p
 nd:p.flatten.Nodup
theorem g9{p:List (List Nat)}:p.flatten.Nodup↔Dj p:=by
 unfold V5 Dj;rw[List.pairwise_flatten];constructor
 ·rintro ⟨a,b⟩;exact⟨b.imp λh n h1 h2=>h n h1 n h2 rfl,a⟩
 ·rintro ⟨a,b⟩;exact⟨b,a.imp λh n h1 k h2 e=>by subst e;exact h n h1 h2⟩
theorem GH{dn:List (List Nat)}{L:List Nat}{P:List (List (List Nat))}(h:∀ p∈P,Pa dn p):∀ p∈tf P L,Pa (dn++[L]) p:=λp hp=>by
 have up:∀ p∈P,Pa (dn++[L]) p:=λp hp=>⟨(h p hp).sub.trans (R0 _ _),(h p hp).ne,(h p hp).nd⟩;unfold tf at hp;split at hp
 ·exact up p hp
 ·rename_i hne;rcases Ì.mp hp with q | q
  ·exact up p q
  ·obtain⟨p',h1,rfl⟩:=Î.mp q;obtain⟨h2,h3⟩:=õ.mp h1;refine⟨(h p' h2).sub.append (Yw _),λz=>?_,of_decide_eq_true h3⟩;rcases Ì.mp z with z | z
   ·exact(h p' h2).ne z
   ·rw[Sb] at z;exact hne (by rw[← z];rfl)
theorem yW:∀ (rest dn:List (List Nat)) (P:List (List (List Nat))),(∀ p∈P,Pa dn p)->∀ p∈rest.foldl tf P,Pa (dn++rest) p
 |[],dn,P,h,p,hp=>by rw[ö];exact h p hp
 |L::rest,dn,P,h,p,hp=>by
  have:=yW rest (dn++[L]) (tf P L) (GH h) p hp
  rwa [Ý] at this
theorem hG{ls p:List (List Nat)}(h:p∈dt ls):Pa ls p:=yW ls [] [[]] (λp hp=>by rw[Ð.mp hp];exact⟨.refl _,(λq=>nomatch q),.nil⟩) p h
theorem L0{dn:List (List Nat)}{L:List Nat}{P:List (List (List Nat))}(h:∀ p∈P,Pa dn p)(hL:L ∉ dn)(nd:P.Nodup):(tf P L).Nodup:=by
 unfold tf;split
 ·exact nd
 ·refine Wr.mpr ⟨nd,?_,λa ha b hb e=>?_⟩
  ·unfold V5;rw[RI];exact(nd.sublist PB).imp λh e=>h (List.append_cancel_right e)
  ·obtain⟨p',h1,rfl⟩:=Î.mp hb;subst e;exact hL ((h _ ha).sub.subset (Ò _ Å))
theorem yX:∀ (rest dn:List (List Nat)) (P:List (List (List Nat))),(∀ p∈P,Pa dn p)->(dn++rest).Nodup->P.Nodup->(rest.foldl tf P).Nodup
 |[],_,_,_,_,nd=>nd
 |L::rest,dn,P,h,hn,nd=>by
  refine yX rest (dn++[L]) (tf P L) (GH h) (by rwa [Ý]) (L0 h (λq=>?_) nd)
  exact(Wr.mp hn).2.2 L q L Å rfl
theorem JB{ls:List (List Nat)}(h:ls.Nodup):(dt ls).Nodup:=yX ls [] [[]] (λp hp=>by rw[Ð.mp hp];exact⟨.refl _,(λq=>nomatch q),.nil⟩) h (by simp)
theorem ma:∀ (ls:List (List Nat)) (t:List (List (List Nat))),∃ t',ls.foldl tf ([]::t)=[]::t'
 |[],t=>⟨t,rfl⟩
 |L::ls,t=>by
  show ∃ t',ls.foldl tf (tf ([]::t) L)=_;unfold tf;split
  ·exact ma ls t
  ·exact ma ls _
theorem pJ(ls:List (List Nat)):∃ t,dt ls=[]::t:=ma ls []
theorem yY{L:List Nat}(h:L≠[])(nd:L.Nodup):[L]∈dt [L]:=by
 show [L]∈tf [[]] L;unfold tf;have e:AB ([]++[L])=true:=decide_eq_true (by simpa using nd)
 rw[if_neg (by rw[SR];exact h),Rz,if_pos e]
 exact Ò _ Å
def L4:Nat->List (List Nat)
 |0=>[[]]|n + 1=>(L4 n).flatMap λl=>((é (n + 2)).filter λv=>v == 0 || (v == n + 1 || l.contains v)).map λv=>l++[v]
theorem L5{n:Nat}(h:n<=8):(L4 n).length<=21147:=by
 have:∀ n,n < 9->(L4 n).length<=21147:=by decide +kernel
 exact this n ∅
theorem Dh(f:Nat->Nat):∀ n:Nat,(∀ i < n,f i<=i + 1/\(f i=0∨f i=i + 1∨∃ j < i,f j=f i))->(é n).map f∈L4 n
 |0,_=>Å
 |n + 1,h=>by
  rw[Th,OM];obtain⟨h1,h2⟩:=h n ∅
  refine List.mem_flatMap.mpr ⟨_,Dh f n λi hi=>h i ∅,Î.mpr ⟨f n,õ.mpr ⟨ì.mpr ∅,?_⟩,rfl⟩⟩
  rw[Ph,Ph,beq_iff_eq,beq_iff_eq,p9];refine h2.imp id (.imp id λ⟨j,hj,e⟩=>?_);rw[← e];exact Î.mpr ⟨j,ì.mpr hj,rfl⟩
def d9(p:List (List Nat))(i:Nat):Nat:=match p.find? (·.contains i) with
 |some L=>L.headD 0 + 1|none=>0
theorem tm{p:List (List Nat)}(d:Dj p){L M:List Nat}(hL:L∈p)(hM:M∈p){i:Nat}(h1:i∈L)(h2:i∈M):L=M:=by
 obtain⟨a,ha,rfl⟩:=O9.mp hL;obtain⟨b,hb,rfl⟩:=O9.mp hM;have pw:=UH.mp d.1;rcases Nat.lt_trichotomy a b with q | q | q
 ·exact absurd h2 (pw a b ha hb q i h1)
 ·subst q;rfl
 ·exact absurd h1 (pw b a hb ha q i h2)
theorem code_at{p:List (List Nat)}(d:Dj p){L:List Nat}(hL:L∈p){i:Nat}(hi:i∈L):d9 p i=L.headD 0 + 1:=by
 unfold d9;cases e:p.find? (·.contains i) with
 |none=>have:=List.find?_eq_none.mp e L hL;simp[hi] at this
 |some M =>
  have h1:=P8 e;have h2:M.contains i=true:=RB (p:=λL:List Nat=>L.contains i) e;rw[tm d h1 hL (þ.mp h2) hi]
theorem tq{L:List Nat}(h:L.Pairwise (· < ·)){i:Nat}(hi:i∈L):L.headD 0<=i/\L.headD 0∈L:=by
 cases L with
 |nil=>cases hi
 |cons x r =>
  refine⟨?_,Å⟩;rcases Û.mp hi with rfl | q
  ·exact Ô _
  ·exact RF ((ÿ.mp h).1 i q)
theorem kZ{α:Type}[BEq α][LawfulBEq α]:∀ {ls p:List α},p.Sublist ls->ls.Nodup->ls.filter (λx=>p.contains x)=p
 |_,_,.slnil,_=>rfl
 |_,_,.cons a (l₁:=p) (l₂:=r) h,nd=>by
  obtain⟨d1,d2⟩:=O6.mp nd;rw[Rz,if_neg (by simpa using λq=>d1 (h.subset q))]
  exact kZ h d2
 |_,_,.cons_cons a (l₁:=p) (l₂:=r) h,nd=>by
  obtain⟨d1,d2⟩:=O6.mp nd;rw[Rz,if_pos (by simp)]
  congr 1
  have e:r.filter (λx=>(a::p).contains x)=r.filter λx=>p.contains x:=QR λx hx=>by
   rw[O7,p9,p9,OO];exact⟨λq=>q.resolve_left λz=>d1 (z ▸ hx),.inr⟩
  rw[e];exact kZ h d2
theorem code_inj{K:Nat}{ls p q:List (List Nat)}(hl:∀ L∈ls,L∈aI K)(nd:ls.Nodup)(hp:Pa ls p)(hq:Pa ls q)(e:(é K).map (d9 p)=(é K).map (d9 q)):p=q:=by
 have e':∀ i < K,d9 p i=d9 q i:=λi hi=>by
  have:=congrArg (λl=>l[i]?) e;simp only[è,VN hi] at this;exact OV this
 have one:∀ {p q:List (List Nat)},Pa ls p->Pa ls q->(∀ i < K,d9 p i=d9 q i)->∀ L∈p,L∈q:=λ{p q} hp hq e' L hL=>by
  have dp:=g9.mp hp.nd;have dq:=g9.mp hq.nd;have lL:=hl L (hp.sub.subset hL);obtain⟨x,r,rfl⟩:∃ x r,L=x::r:=by
   cases L with
   |nil=>exact absurd hL hp.ne|cons x r=>exact⟨x,r,rfl⟩
  have hx:x < K:=aD lL x Å;have c1:=code_at dp hL (i:=x) Å;have c2:d9 q x=x + 1:=by rw[← e' x hx,c1];rfl
  unfold d9 at c2;cases ef:q.find? (·.contains x) with
  |none=>rw[ef] at c2;cases c2
  |some M =>
   rw[ef] at c2;have c2:M.headD 0 + 1=x + 1:=c2;have h1:=P8 ef;have h2:x∈M:=þ.mp (RB (p:=λL:List Nat=>L.contains x) ef);have lM:=hl M (hq.sub.subset h1);have same:M=x::r:=FY (b7 lM) (b7 lL) (λn hn=>?_) λn hn=>?_
   ·exact same ▸ h1
   ·have a:=code_at dq h1 hn;rw[← e' n (aD lM n hn),c2] at a;unfold d9 at a;cases eg:p.find? (·.contains n) with
    |none=>rw[eg] at a;cases a
    |some O =>
     rw[eg] at a;have a:O.headD 0 + 1=x + 1:=a;have g1:=P8 eg;have g2:n∈O:=þ.mp (RB (p:=λL:List Nat=>L.contains n) eg);have hO:=(tq (b7 (hl O (hp.sub.subset g1))) g2).2;rw[show O.headD 0=x by omega] at hO
     exact tm dp g1 hL hO Å ▸ g2
   ·have a:=code_at dp hL hn;rw[e' n (aD lL n hn)] at a;have a:d9 q n=x + 1:=a;unfold d9 at a;cases eg:q.find? (·.contains n) with
    |none=>rw[eg] at a;cases a
    |some O =>
     rw[eg] at a;have a:O.headD 0 + 1=x + 1:=a;have g1:=P8 eg;have g2:n∈O:=þ.mp (RB (p:=λL:List Nat=>L.contains n) eg);have hO:=(tq (b7 (hl O (hq.sub.subset g1))) g2).2;rw[show O.headD 0=x by omega] at hO
     exact tm dq g1 h1 hO h2 ▸ g2
 rw[← kZ hp.sub nd,← kZ hq.sub nd];refine QR λL _=>?_;rw[O7,p9,p9];exact⟨one hp hq e' L,one hq hp (λi hi=>(e' i hi).symm) L⟩
theorem vz{K:Nat}{ls:List (List Nat)}(h8:K<=8)(hl:∀ L∈ls,L∈aI K)(nd:ls.Nodup):(dt ls).length<=21147:=by
 have h:((dt ls).map λp=>(é K).map (d9 p)).length<=(L4 K).length:=by
  refine Pk ?_ λx hx=>?_
  ·unfold V5;rw[RI];exact(JB nd).imp_of_mem λha hb n e=>n (code_inj hl nd (hG ha) (hG hb) e)
  ·obtain⟨p,hp,rfl⟩:=Î.mp hx;refine Dh _ K λi _=>?_;have dp:=g9.mp (hG hp).nd;cases eg:p.find? (·.contains i) with
   |none =>
    have e:d9 p i=0:=by unfold d9;rw[eg]
    exact⟨by omega,.inl e⟩
   |some O =>
    have g1:=P8 eg;have g2:i∈O:=þ.mp (RB (p:=λL:List Nat=>L.contains i) eg);obtain⟨l1,l2⟩:=tq (b7 (hl O ((hG hp).sub.subset g1))) g2;have e:=code_at dp g1 g2;refine⟨by omega,.inr ?_⟩
    by_cases q:O.headD 0=i
    ·exact .inl ∅
    ·exact .inr ⟨O.headD 0,by omega,by rw[e,code_at dp g1 l2]⟩
 rw[Ç] at h;exact ã h (L5 h8)
def Di:D->Nat
 |.int i=>i.toNat|_=>0
theorem JC(l:List D)(p:D->Bool):mR .any [.lst (l.map λx=>D.bl (p x))]=some (.d (.bl (l.any p))):=by
 have:∀ l:List D,(l.map λx=>D.bl (p x)).mapM ll=some (l.map p):=λl=>by
  induction l with
  |nil=>rfl
  |cons x r ih =>
   rw[Qw,RK,ih];rfl
 show((l.map λx=>D.bl (p x)).mapM ll).map _=_;rw[this];show some (S.d (.bl ((l.map p).any id)))=_;rw[XQ];rfl
theorem FZ{l:List Nat}{i:Nat}(h:i < l.length):cutD (l.map ak) none (some (i:Int))++cutD (l.map ak) (some ((i:Int) + 1)) none=(l.eraseIdx i).map ak:=by
 rw[xk _ ∅,PY,show((i:Int) + 1)=((i + 1:Nat):Int) by omega,gk,List.eraseIdx_eq_take_drop_succ,OM,SQ,TK]
theorem F2{l:List Nat}{i:Nat}(hl:l.length<=8)(h:i < l.length):dU .add (.tup (cutD (l.map ak) none (some (i:Int)))) (.tup (cutD (l.map ak) (some ((i:Int) + 1)) none))=some (.d (aj (l.eraseIdx i))):=by
 have e1:(cutD (l.map ak) none (some (i:Int))).length<=8:=by rw[xk _ ∅,î,Ç];omega
 have e2:(cutD (l.map ak) (some ((i:Int) + 1)) none).length<=8:=by rw[show((i:Int) + 1)=((i + 1:Nat):Int) by omega,gk,OQ,Ç];omega
 rw[C6 ∅,FZ h];rfl
theorem mT(k:Nat){l:List Nat}(hl:l.length<=8)(z:Z):ao T (k + 3) iJ [.d (aj l)] z=some (.ok (.fr ((vy l).map aj)) z):=by
 refine W.ok (aW (ps:=1) (ns:=1) (b:=ff) rfl rfl (-0) ?_)
 refine(af (o:=qz .rng1 [.int ((l.map ak).length:Nat)]) (sX (n:=(l.map ak).length) (by rw[Ç];omega)) ?_ :)
 rw[show(l.map ak).length=l.length from Ç _];refine ip (by rw[Ç,V3];exact cm ∅) (fF (λx=>aj (l.eraseIdx (Di x))) (λx hx=>?_) ?_)
 ·obtain⟨i,hi,rfl⟩:=Î.mp hx;have hi:i < l.length:=by rw[← Q3] at hi;exact ì.mp hi
  refine(af (F2 hl hi) ?_ :);exact⟨rfl,rfl⟩
 ·refine sd ?_;rw[à,← Q3];unfold vy;rw[à];rfl
def i6(l:List Nat):List Int:=l.map λ(n:Nat)=>(n:Int)
theorem vA(l:List Nat):zN (aj l)=some (i6 l):=by
 show fY (l.map ak)=_;have e:l.map ak=(i6 l).map D.int:=by unfold i6;rw[à];rfl
 rw[e,vx]
theorem qY:∀ ls:List (List Nat),um (ls.map aj)=some (ls.map i6)
 |[]=>rfl
 |l::r=>by
  show(zN (aj l)).bind (λk=>(um (r.map aj)).map (k::·))=_;rw[vA,qY r];rfl
theorem Dk{a b:List Nat}(h:i6 a=i6 b):a=b:=by
 have:∀ l:List Nat,(i6 l).map Int.toNat=l:=λl=>by
  unfold i6;rw[à];exact Tj l
 rw[← this a,h,this b]
theorem Dl(ls:List (List Nat))(l:List Nat):(ls.map i6).contains (i6 l)=ls.contains l:=by
 rw[O7,p9,p9,Î];exact⟨λ⟨x,hx,e⟩=>Dk e ▸ hx,λh=>⟨l,h,rfl⟩⟩
theorem mJ(k:Nat){ls:List (List Nat)}(hn:ls.length<=256)(h8:∀ l∈ls,l.length<=8)(z:Z):ao T (k + 4) jO [.d (.lst (ls.map aj))] z=some (.ok (.fr ((aA ls).map aj)) z):=by
 refine W.ok (aW (ps:=1) (ns:=2) (b:=jU) rfl rfl (-0) ?_)
 refine(af (o:=BH (.lst (ls.map aj))) (a:=ls.map i6) (qY ls) ?_ :);refine ip (by rw[Ç];exact cm ∅) (CN (λx=>!(vy (cq x)).any λy=>ls.contains y) id (λx hx=>?_) ?_)
 ·obtain⟨l,hl,rfl⟩:=Î.mp hx;have hl8:=h8 l hl;refine Wo (mT k hl8 z) ?_;refine ip (by rw[Ç];unfold vy;rw[Ç,p6];exact cm ∅) (fF (λy=>.bl (ls.contains (cq y))) (λy hy=>?_) ?_)
  ·obtain⟨x,_,rfl⟩:=Î.mp hy;refine(af (vA x) ?_ :);refine⟨?_,rfl⟩;rw[Dl,bE];cases ls.contains x <;> rfl
  ·refine(af (JC _ λy=>ls.contains (cq y)) ?_ :);refine⟨?_,rfl,λ_=>⟨rfl,rfl⟩⟩;rw[XQ,bE]
   congr 4
   funext y
   show ls.contains (cq (aj y))=_;rw[bE]
 ·refine sd ?_;rw[Tj,Sr];have:ls.filter ((λx=>!(vy (cq x)).any λy=>ls.contains y) ∘ aj)=aA ls:=QR λl _=>by show(!(vy (cq (aj l))).any λy=>ls.contains y)=_;rw[bE]
  rw[this]
section
variable {m:Int}{ps:List (Int × Int)}{pl aO:List Nat}
theorem JD(g:aG m ps):(aZ m ps pl).length<=256:=ã (Qk _ _) (i4 g.len)
theorem L6(g:aG m ps):(bZ m ps pl).length<=256:=ã (Qk _ _) (i4 g.len)
theorem Dm(g:aG m ps){l:List Nat}(h:l∈aI ps.length):l.length<=8:=ã (dZ h) g.len
theorem jB(k:Nat)(g:aG m ps)(hp:aR m pl)(z:Z):ao T (k + 10) gI [.d (cB m ps),.d (.tup (pl.map ak))] z=some (.ok (.fr ((aA (aZ m ps pl)).map aj)) z) :=
 W.ok (aW (ps:=2) (ns:=2) (b:=gS) rfl rfl (-0) (Wo (kW k g hp z) (Wo (mJ (k + 5) (JD g) (λl hl=>Dm g ((i5 g).mp hl).1) z) (sd rfl))))
theorem jC(k:Nat)(g:aG m ps)(hp:aR m pl)(z:Z):ao T (k + 10) gJ [.d (cB m ps),.d (.tup (pl.map ak))] z=some (.ok (.fr ((aA (bZ m ps pl)).map aj)) z) :=
 W.ok (aW (ps:=2) (ns:=2) (b:=gU) rfl rfl (-0) (Wo (FW k g hp z) (Wo (mJ (k + 5) (L6 g) (λl hl=>Dm g ((kY g).mp hl).1) z) (sd rfl))))
end
abbrev F3(l:List (Int × Int)):Int × Int:=cS (fm (l.map (·.1))) (fm (l.map (·.2)))
def AM(v:Int × Int):Int × Int:=(v.2 - v.1,v.2)
def ik(c:Nat->Int × Int)(L:List Nat):Int × Int:=F3 (L.map c)
def k9(c:Nat->Int × Int)(p:List (List Nat)):List (Int × Int):=p.map λL=>AM (ik c L)
def cb(c:Nat->Int × Int)(p:List (List Nat)):Int × Int:=F3 (k9 c p)
def bh(c:Nat->Int × Int)(p:List (List Nat)):Int × Int:=AM (cb c p)
theorem nH:∀ {l:List Int},(∀ x∈l,0 < x)->0 < fm l
 |[],_=>by decide|x::r,h=>Rg (h x Å) (nH λy hy=>h y (Æ _ hy))
theorem tu{α:Type}{f g:α->Int}:∀ {l:List α},(∀ x∈l,0<=f x/\f x<=g x)->0<=fm (l.map f)/\fm (l.map f)<=fm (l.map g)
 |[],_=>⟨show(0:Int)<=1 by decide,VR _⟩
 |x::r,h=>by
  obtain⟨h1,h2⟩:=h x Å;obtain⟨i1,i2⟩:=tu (f:=f) (g:=g) λy hy=>h y (Æ _ hy);exact⟨QJ h1 i1,Q5 h2 i2 i1 (so h1 h2)⟩
theorem Rt.lk{v:Int × Int}{t b:Int}(h:Rt v t b):Rt (AM v) (b - t) b:=⟨h.b0,by show gcd (v.2 - v.1) v.2=1;rw[TM,Vp,TM];exact h.one,by show(v.2 - v.1) * b=(b - t) * v.2;rw[QP,QP,h.eq,kr v.2]⟩
theorem Rt.JK{v:Int × Int}{t b:Int}{n:Nat}(h:Rt v t b)(hb:0 < b)(h0:0<=t)(ht:t<=b)(hn:b<=2 ^ n):Bd n v :=
 Fr.bd (t:=t) (b:=b) ⟨h.pos hb h0,h.b0,h.one,by rw[h.eq,kr]⟩ hb ht hn
theorem Rt.small{v:Int × Int}{t b:Int}(h:Rt v t b)(hb:0 < b):v.2<=b:=by
 have e:=Rt.eqv h (Rt.low hb) hb;have:=(FR (t:=t) hb).2;have h0:=h.b0;rw[e] at h0 ⊢;omega
theorem Dp{α:Type}{f:α->Int × Int}{t b:α->Int}{l:List α}(h:∀ x∈l,Rt (f x) (t x) (b x)/\0 < b x):Rt (F3 (l.map f)) (fm (l.map t)) (fm (l.map b)):=by
 have p0:0 < fm ((l.map f).map (·.2)):=nH λy hy=>by
  rw[à] at hy;obtain⟨x,hx,rfl⟩:=Î.mp hy;exact(h x hx).1.b0
 refine(Rt.low p0).conv p0 ?_;rw[à,à];clear p0
 induction l with
 |nil=>rfl
 |cons x r ih =>
  have i:=ih λy hy=>h y (Æ _ hy);have e:=(h x Å).1.eq;show(f x).1 * _ * (b x * _)=t x * _ * ((f x).2 * _)
  calc (f x).1 * fm (r.map ((·.1) ∘ f)) * (b x * fm (r.map b))=((f x).1 * b x) * (fm (r.map ((·.1) ∘ f)) * fm (r.map b)):=by grind
   _=t x * fm (r.map t) * ((f x).2 * fm (r.map ((·.2) ∘ f))):=by rw[e,i];grind
section
variable {c:Nat->Int × Int}{K:Nat}{p:List (List Nat)}{L:List Nat}
def On(c:Nat->Int × Int)(p:List (List Nat)):Prop:=∀ L∈p,∀ n∈L,cH (c n)
theorem tw(h:∀ n∈L,cH (c n)):0<=jq c L/\jq c L<=aU c L:=tu (f:=λn=>(c n).1) (g:=λn=>(c n).2) λn hn=>⟨(h n hn).2.2.1,(h n hn).2.2.2.1⟩
theorem nJ(h:∀ n∈L,cH (c n)):Rt (ik c L) (jq c L) (aU c L):=Dp (f:=c) (t:=λn=>(c n).1) (b:=λn=>(c n).2) λn hn=>⟨(h n hn).rt,by have:=(h n hn).1;omega⟩
theorem dR(h:On c p):Rt (cb c p) (dA c p) (bU c p):=Dp (f:=λL=>AM (ik c L)) (t:=λL=>aU c L - jq c L) (b:=aU c) λL hL=>⟨(nJ (h L hL)).lk,(eH (h L hL)).1⟩
theorem hU(h:On c p):Rt (bh c p) (bU c p - dA c p) (bU c p):=(dR h).lk
theorem fV(h:On c p):0<=dA c p/\dA c p<=bU c p/\0 < bU c p:=by
 obtain⟨a,b⟩:=tu (f:=λL=>aU c L - jq c L) (g:=aU c) (l:=p) λL hL=>by have:=tw (h L hL);omega
 exact⟨a,b,nH λy hy=>by obtain⟨L,hL,rfl⟩:=Î.mp hy;exact(eH (h L hL)).1⟩
theorem Dq:∀ {p:List (List Nat)},On c p->bU c p<=2 ^ (10 * p.flatten.length)
 |[],_=>by show(1:Int)<=2 ^ 0;decide
 |L::r,h=>by
  have i:=Dq (p:=r) λM hM=>h M (Æ _ hM);have b:=eH (h L Å);have n0:=(fV (p:=r) λM hM=>h M (Æ _ hM)).2.2;show aU c L * bU c r<=_;rw[Pj,Ü,Vx,UB];exact Q5 b.2 i (ó n0) (so (ó b.1) b.2)
theorem Dr(h8:K<=8)(h:On c p)(nd:p.flatten.Nodup)(hK:∀ L∈p,∀ n∈L,n < K):bU c p<=2 ^ 80:=by
 have hl:p.flatten.length<=K:=by
  have:=Pk nd (λn hn=>by
   obtain⟨L,hL,hn⟩:=Sd.mp hn;exact ì.mpr (hK L hL n hn):p.flatten ⊆ é K)
  rwa [p6] at this
 refine so (Dq h) ?_;have:(2:Nat) ^ (10 * p.flatten.length)<=2 ^ 80:=QQ (-0) ∅
 exact_mod_cast this
theorem md{v w:Int × Int}{t b t' b':Int}(hv:Rt v t b)(hw:Rt w t' b')(hb:0 < b)(hb':0 < b')(h:t * b'<=t' * b):qW v w:=by
 unfold qW;refine RP (a:=b * b') ?_ (Rg hb hb');have k:=O3 h (ó (Rg hv.b0 hw.b0));have e1:v.1 * w.2 * (b * b')=t * b' * (v.2 * w.2):=by rw[show v.1 * w.2 * (b * b')=(v.1 * b) * (w.2 * b') by grind,hv.eq];grind
 have e2:w.1 * v.2 * (b * b')=t' * b * (v.2 * w.2):=by rw[show w.1 * v.2 * (b * b')=(w.1 * b') * (v.2 * b) by grind,hw.eq];grind
 rw[e1,e2];exact k
theorem vB{v w:Int × Int}{t b t' b':Int}(hv:Rt v t b)(hw:Rt w t' b')(h1:qW v w)(h2:qW w v):v=w:=by
 obtain⟨a,b'⟩:=pB hv.b0 hw.b0 hv.one hw.one (Xl h1 h2);exact Vz a b'
theorem less_none{p1 p2:List (List Nat)}(h:On c (p1++L::p2)):On c (p1++p2)/\qW (cb c (p1++L::p2)) (cb c (p1++p2))/\qW (bh c (p1++p2)) (bh c (p1++L::p2)):=by
 have h':On c (p1++p2):=λM hM=>h M (by
  rcases Ì.mp hM with q | q
  ·exact ç _ q
  ·exact Ò _ (Æ _ q))
 obtain⟨n0,nb,b0⟩:=fV h';obtain⟨_,_,b0'⟩:=fV h;have hL:=h L (Ò _ Å);obtain⟨t0,tb⟩:=tw hL;have eB:bU c (p1++L::p2)=aU c L * bU c (p1++p2):=by
  unfold bU;rw[OM,OM,eI,eI];show _ * (aU c L * _)=_;rw[← P0,kr _ (aU c L),P0];rfl
 have eN:dA c (p1++L::p2)=(aU c L - jq c L) * dA c (p1++p2):=by
  unfold dA;rw[OM,OM,eI,eI];show _ * ((aU c L - jq c L) * _)=_;rw[← P0,kr _ (aU c L - jq c L),P0];rfl
 have key:dA c (p1++L::p2) * bU c (p1++p2)<=dA c (p1++p2) * bU c (p1++L::p2):=by
  rw[eB,eN];have:=QJ (QJ t0 n0) (ó b0);have e:(aU c L - jq c L) * dA c (p1++p2) * bU c (p1++p2)=dA c (p1++p2) * (aU c L * bU c (p1++p2)) - jq c L * dA c (p1++p2) * bU c (p1++p2):=by grind
  omega
 refine⟨h',md (dR h) (dR h') b0' b0 key,md (hU h') (hU h) b0 b0' ?_⟩;rw[QP,QP,kr (bU c (p1++L::p2)) (bU c (p1++p2))];omega
theorem yZ{g:List Nat->Bool}(hc:∀ n < K,cH (c n))(up:∀ a b:List Nat,(∀ n∈b,n < K)->(∀ n∈a,n∈b)->g a=true->g b=true)(nd:p.flatten.Nodup)(hK:∀ L∈p,∀ n∈L,n < K)(hg:∀ L∈p,g L=true):(bU c p - dA c p) * aU c (é K)<=cj g c (é K) [] * bU c p:=by
 have hr:∀ n∈é K,n < K:=λn hn=>ì.mp hn;have t:=xw (g:=g) (c:=c) (N:=K) (é K) [] p (λn hn=>⟨hr n hn,hc n (hr n hn)⟩) (λ_ q=>nomatch q) λL hL h' a _ d=>up L h' a d (hg L hL);have w:=pI (c:=c) (é K) p Ry (g9.mp nd) λL hL n hn=>ì.mpr (hK L hL n hn);have b0:=(fV (c:=c) (p:=p) λL hL n hn=>hc n (hK L hL n hn)).2.2;have k:=O3 t (ó b0);rw[QP,w] at k;rw[QP,kr (bU c p)];exact k
theorem y3{g:List Nat->Bool}(hc:∀ n < K,cH (c n))(nd:p.flatten.Nodup)(hK:∀ L∈p,∀ n∈L,n < K)(dn:∀ s:List Nat,(∀ n∈s,n < K)->g s=true->∃ L∈p,∀ n∈L,n∈s):cj g c (é K) [] * bU c p<=(bU c p - dA c p) * aU c (é K):=by
 have hr:∀ n∈é K,n < K:=λn hn=>ì.mp hn;have t:=sY (g:=g) (c:=c) (é K) [] p Ry (λn hn=>hc n (hr n hn)) λs hs h=>dn s (λn hn=>hr n (hs n hn)) (by rwa [ö] at h)
 have w:=pI (c:=c) (é K) p Ry (g9.mp nd) λL hL n hn=>ì.mpr (hK L hL n hn);have b0:=(fV (c:=c) (p:=p) λL hL n hn=>hc n (hK L hL n hn)).2.2;have k:=O3 t (ó b0);rw[QP,w] at k;rw[QP,kr (bU c p)];exact k
end
section
variable {m:Int}{ps cs:List (Int × Int)}{pl:List Nat}{p:List (List Nat)}
theorem i7(hc:cs.length=ps.length)(ha:∀ c∈cs,cH c):∀ n < ps.length,cH (cf cs n):=λn hn=>mG ha ∅
theorem Ds{c:Int × Int}(h:cH c):cH (c.2 - c.1,c.2):=by
 obtain⟨c1,c2,c3,c4,c5⟩:=h;refine⟨c1,c2,by show 0<=c.2 - c.1;omega,by show c.2 - c.1<=c.2;omega,?_⟩
 show gcd (c.2 - c.1) c.2=1;rw[TM,Vp,TM];exact c5
theorem me(hc:cs.length=ps.length)(ha:∀ c∈cs,cH c):∀ n < ps.length,cH (c8 (cf cs) n):=λn hn=>Ds (i7 hc ha n hn)
theorem gq(g:aG m ps)(hp:aR m pl)(hc:cs.length=ps.length)(ha:∀ c∈cs,cH c):Rt (ck m ps cs pl) (cj (bt ps m.toNat pl) (cf cs) (é ps.length) []) (aU (cf cs) (é ps.length))/\0 < aU (cf cs) (é ps.length):=by
 have b0:=(eH (c:=cf cs) (ns:=é ps.length) λn hn=>i7 hc ha n (ì.mp hn)).1;rw[qS g hp hc];exact⟨Rt.low b0,b0⟩
abbrev mf(m:Int)(ps:List (Int × Int))(pl l:List Nat):Bool:=!bt ps m.toNat pl (gp ps.length l)
theorem Dt(g:aG m ps)(hp:aR m pl):∀ a b:List Nat,(∀ n∈b,n < ps.length)->(∀ n∈a,n∈b)->mf m ps pl a=true->mf m ps pl b=true:=λa b hb hab h=>by
 unfold mf at *
 cases e:bt ps m.toNat pl (gp ps.length b) with
 |false=>rfl
 |true =>
  rw[yQ g hp _ (gp ps.length a) (λn hn=>td hn) (λn hn=>?_) e] at h
  ·cases h
  ·obtain⟨n1,n2⟩:=õ.mp hn;refine õ.mpr ⟨n1,?_⟩;rw[ô,PV] at n2 ⊢;exact λq=>n2 (þ.mpr (hab n (þ.mp q)))
theorem y4(g:aG m ps)(hp:aR m pl):cj (mf m ps pl) (c8 (cf cs)) (é ps.length) []=aU (cf cs) (é ps.length) - cj (bt ps m.toNat pl) (cf cs) (é ps.length) [] :=
 s9 (N:=ps.length) (λh h' a b e=>by
  unfold mf
  congr 1
  refine pG g hp _ _ (λn hn=>td hn) a λn=>?_;unfold gp;rw[QL,RJ,ô,PV];constructor
  ·rintro ⟨n1,n2⟩;exact(e n n1).mpr λq=>n2 (þ.mpr q)
  ·intro q;exact⟨a n q,λz=>(e n (a n q)).mp q (þ.mp z)⟩) _ _ _ Ry (λn hn=>⟨ì.mp hn,OU,OU⟩) (λ_ q=>nomatch q) (λ_ q=>nomatch q) λn hn q=>absurd (ì.mpr hn) q
theorem qZ(g:aG m ps)(hp:aR m pl)(hc:cs.length=ps.length)(ha:∀ c∈cs,cH c)(nd:p.flatten.Nodup)(hK:∀ L∈p,∀ n∈L,n < ps.length)(hg:∀ L∈p,bt ps m.toNat pl L=true):qW (bh (cf cs) p) (ck m ps cs pl):=by
 have on:On (cf cs) p:=λL hL n hn=>i7 hc ha n (hK L hL n hn);obtain⟨s,b0⟩:=gq g hp hc ha;exact md (hU on) s (fV on).2.2 b0 (yZ (i7 hc ha) (yQ g hp) nd hK hg)
theorem vC(g:aG m ps)(hp:aR m pl)(hc:cs.length=ps.length)(ha:∀ c∈cs,cH c)(nd:p.flatten.Nodup)(hK:∀ L∈p,∀ n∈L,n < ps.length)(hg:∀ L∈p,mf m ps pl L=true):qW (ck m ps cs pl) (cb (c8 (cf cs)) p):=by
 have on:On (c8 (cf cs)) p:=λL hL n hn=>me hc ha n (hK L hL n hn);obtain⟨s,b0⟩:=gq g hp hc ha;have t:=yZ (c:=c8 (cf cs)) (me hc ha) (Dt g hp) nd hK hg;rw[y4 g hp,yV] at t;refine md s (dR on) b0 (fV on).2.2 ?_;generalize cj (bt ps m.toNat pl) (cf cs) (é ps.length) []=T at *
 generalize aU (cf cs) (é ps.length)=B at *
 generalize bU (c8 (cf cs)) p=b at *
 generalize dA (c8 (cf cs)) p=n at *
 rw[QP,QP,kr b B] at t;omega
theorem vD(g:aG m ps)(hp:aR m pl)(hc:cs.length=ps.length)(ha:∀ c∈cs,cH c){L:List Nat}(hL:aA (aZ m ps pl)=[L]):qW (ck m ps cs pl) (bh (cf cs) [L]):=by
 have hm:L∈aA (aZ m ps pl):=by rw[hL];exact Å
 have l1:=((i5 g).mp (eK hm)).1;have hK:∀ M∈[L],∀ n∈M,n < ps.length:=λM hM=>by rw[Ð.mp hM];exact aD l1
 have nd:[L].flatten.Nodup:=by rw[Pj,Uj,ö];exact(b7 l1).imp λh=>â h
 have on:On (cf cs) [L]:=λM hM n hn=>i7 hc ha n (hK M hM n hn);obtain⟨s,b0⟩:=gq g hp hc ha;refine md s (hU on) b0 (fV on).2.2 (y3 (i7 hc ha) nd hK λq hq hgq=>?_);have q2:(é ps.length).filter (λn=>q.contains n)∈aI ps.length:=kX (Qn _ QC) λn hn=>ì.mp (õ.mp hn).1;have sm:∀ n,n∈(é ps.length).filter (λn=>q.contains n)↔n∈q:=λn=>by
  rw[QL,RJ,p9];exact⟨λh=>h.2,λh=>⟨hq n h,h⟩⟩
 obtain⟨x,hx,hs⟩:=mI _ (Ô _) ((i5 g).mpr ⟨q2,by rw[pG g hp _ q (aD q2) hq sm];exact hgq⟩)
 rw[hL] at hx;exact⟨x,hx,λn hn=>(sm n).mp (hs n hn)⟩
theorem xy(g:aG m ps)(hp:aR m pl)(hc:cs.length=ps.length)(ha:∀ c∈cs,cH c){L:List Nat}(hL:aA (bZ m ps pl)=[L]):qW (cb (c8 (cf cs)) [L]) (ck m ps cs pl):=by
 have hm:L∈aA (bZ m ps pl):=by rw[hL];exact Å
 have l1:=((kY g).mp (eK hm)).1;have hK:∀ M∈[L],∀ n∈M,n < ps.length:=λM hM=>by rw[Ð.mp hM];exact aD l1
 have nd:[L].flatten.Nodup:=by rw[Pj,Uj,ö];exact(b7 l1).imp λh=>â h
 have on:On (c8 (cf cs)) [L]:=λM hM n hn=>me hc ha n (hK M hM n hn);obtain⟨s,b0⟩:=gq g hp hc ha;have t:=y3 (c:=c8 (cf cs)) (g:=mf m ps pl) (me hc ha) nd hK λq hq hgq=>by
  have q2:(é ps.length).filter (λn=>q.contains n)∈aI ps.length:=kX (Qn _ QC) λn hn=>ì.mp (õ.mp hn).1;have sm:∀ n,n∈(é ps.length).filter (λn=>q.contains n)↔n∈q:=λn=>by
   rw[QL,RJ,p9];exact⟨λh=>h.2,λh=>⟨hq n h,h⟩⟩
  have up:=Dt g hp q _ (aD q2) (λn hn=>(sm n).mpr hn) hgq;obtain⟨x,hx,hs⟩:=mI _ (Ô _) ((kY g).mpr ⟨q2,by simpa [mf] using up⟩)
  rw[hL] at hx;exact⟨x,hx,λn hn=>(sm n).mp (hs n hn)⟩
 rw[y4 g hp,yV] at t;refine md (dR on) s (fV on).2.2 b0 ?_;generalize cj (bt ps m.toNat pl) (cf cs) (é ps.length) []=T at *
 generalize aU (cf cs) (é ps.length)=B at *
 generalize bU (c8 (cf cs)) [L]=b at *
 generalize dA (c8 (cf cs)) [L]=n at *
 rw[QP,QP,kr b B] at t;omega
end
structure Un(c:Int × Int):Prop where
 t0:0<=c.1
 tb:c.1<=c.2
 b0:0 < c.2
 one:gcd c.1 c.2=1
theorem Rt.un{v:Int × Int}{t b:Int}(h:Rt v t b)(hb:0 < b)(h0:0<=t)(ht:t<=b):Un v:=by
 have hp:=h.lk.pos hb ∅
 exact⟨h.pos hb h0,by have:0<=v.2 - v.1:=hp;omega,h.b0,h.one⟩
theorem Dw{l:List (Int × Int)}(h:∀ c∈l,Un c):0 < fm (l.map (·.2)):=nH λy hy=>by obtain⟨c,hc,rfl⟩:=Î.mp hy;exact(h c hc).b0
theorem ji(k:Nat){l:List (Int × Int)}(h:∀ c∈l,Un c)(hb:fm (l.map (·.2))<=2 ^ 200)(z:Z):ao T (k + 8) gf [.d (.lst (l.map pr))] z=some (.ok (.d (pr (F3 l))) z):=by
 have b0:=Dw h;refine W.ok (aW (k:=k + 5) (ps:=1) (ns:=3) (b:=l4) rfl rfl (-0) ?_)
 refine kL (λxs ρ z2=>z2=z/\∃ (rest:List (Int × Int)) (v:Int × Int) (t b:Int) (o:Option S),xs=rest.map pr/\(∀ c∈rest,Un c)/\Rt v t b/\0<=t/\t<=b/\0 < b/\t * fm (rest.map (·.1))=fm (l.map (·.1))/\b * fm (rest.map (·.2))=fm (l.map (·.2))/\ρ=[some (.d (.lst (l.map pr))),some (.d (pr v)),o]) _ ⟨rfl,l,(1,1),1,1,none,rfl,h,⟨by decide,by decide,rfl⟩,by decide,by decide,by decide,Vw _,Vw _,(JJ (by show(cF (l.map pr)&&true)=true;rw[iY];rfl)).trans rfl⟩ ?_ ?_
 ·rintro x r ρ z2 ⟨rfl,rest,v,t,b,o,e,hr,rv,t0,tb,bp,et,eb,rfl⟩;cases rest with
  |nil=>cases e
  |cons c rest =>
   cases e;have hc:=hr c Å;have hr':∀ d∈rest,Un d:=λd hd=>hr d (Æ _ hd);have q0:=Dw hr';have eb2:b * (c.2 * fm (rest.map (·.2)))=fm (l.map (·.2)):=eb;have et2:t * (c.1 * fm (rest.map (·.1)))=fm (l.map (·.1)):=et;have k1:b * 1<=b * (c.2 * fm (rest.map (·.2))):=ò (Rg hc.b0 q0) (ó bp);have k2:c.2 * 1<=c.2 * (b * fm (rest.map (·.2))):=ò (Rg bp q0) (ó hc.b0);rw[eb2,TJ] at k1;rw[← P0,kr c.2 b,P0,eb2,TJ] at k2;have bd:Bd 200 c:=⟨hc.t0,hc.tb,hc.b0,so k2 hb⟩;refine Wo (CZ (k + 2) (rv.JK bp t0 tb (so k1 hb)) bd (-0) z2) ?_
   have rc:Rt c c.1 c.2:=⟨hc.b0,hc.one,rfl⟩;refine⟨rfl,rest,_,t * c.1,b * c.2,_,rfl,hr',rv.mul rc,QJ t0 hc.t0,Q5 tb hc.tb hc.t0 (ó bp),Rg bp hc.b0,?_,?_,rfl⟩
   ·rw[P0];exact et2
   ·rw[P0];exact eb2
 ·rintro ρ z2 ⟨rfl,rest,v,t,b,o,e,hr,rv,t0,tb,bp,et,eb,rfl⟩;cases rest with
  |cons _ _=>cases e
  |nil =>
   have et:t * 1=fm (l.map (·.1)):=et;have eb:b * 1=fm (l.map (·.2)):=eb;rw[TJ] at et eb;subst et;rw[eb] at rv;rw[Rt.eqv rv (Rt.low b0) b0];exact sd rfl
theorem y6:∀ ls:List (List Nat),b9 (ls.map aj)=true/\cy (ls.map aj)<=1
 |[]=>⟨rfl,by decide⟩
 |l::r=>by
  obtain⟨h1,h2⟩:=y6 r;have e:l.map ak=(l.map λ(n:Nat)=>(n:Int)).map D.int:=by rw[à];rfl
  obtain⟨g1,g2⟩:=nA (l.map λ(n:Nat)=>(n:Int));rw[← e] at g1 g2;refine⟨?_,?_⟩
  ·show(b9 (l.map ak)&&b9 (r.map aj))=true;rw[h1,g1];rfl
  ·show Yg (cy (l.map ak) + 1) (cy (r.map aj))<=1;rw[g2];exact Nat.max_le.mpr ⟨Ô _,h2⟩
theorem Dx(ls:List (List Nat)):kn (.lst (ls.map aj))=true:=by
 obtain⟨h1,h2⟩:=y6 ls;unfold kn;rw[Á,decide_eq_true_eq];refine⟨h1,?_⟩;show cy (ls.map aj) + 1<=40;omega
abbrev aq(p:List (List Nat)):D:=.tup (p.map aj)
section
variable {m:Int}{ps cs:List (Int × Int)}{pl:List Nat}{p ls:List (List Nat)}{L:List Nat}
theorem vE{c:Nat->Int × Int}(h:∀ n∈L,cH (c n))(h8:L.length<=8):fm ((L.map c).map (·.2))<=2 ^ 200:=by
 rw[à];refine so (show fm (L.map ((·.2) ∘ c))<=_ from(eH h).2) ?_;have:(2:Nat) ^ (10 * L.length)<=2 ^ 200:=QQ (-0) ∅
 exact_mod_cast this
theorem Dy{c:Nat->Int × Int}(h:∀ n∈L,cH (c n)):∀ v∈L.map c,Un v:=λv hv=>by
 obtain⟨n,hn,rfl⟩:=Î.mp hv;obtain⟨c1,c2,c3,c4,c5⟩:=h n hn;exact⟨c3,c4,by omega,c5⟩
theorem vF(k:Nat)(h8:L.length<=8)(hL:∀ n∈L,n < cs.length)(ha:∀ c∈cs,cH c)(z:Z):ao T (k + 9) oT [.d (.tup (cs.map pr)),.d (aj L)] z=some (.ok (.d (pr (ik (cf cs) L))) z):=by
 have hc:∀ n∈L,cH (cf cs n):=λn hn=>mG ha (hL n hn);refine W.ok (aW (k:=k + 6) (ps:=2) (ns:=2) (b:=jX) rfl rfl (-0) ?_)
 refine ip (by rw[Ç];exact cm ∅) (fF (λx=>pr (cf cs (Di x))) (λx hx=>?_) ?_)
 ·obtain⟨n,hn,rfl⟩:=Î.mp hx;refine(af (C9 (cs:=cs) (n:=n) (hL n hn)) ?_ :);exact⟨rfl,rfl⟩
 ·have e:(L.map ak).map (λx=>pr (cf cs (Di x)))=(L.map (cf cs)).map pr:=by rw[à,à];rfl
  rw[e];exact Wo (ji k (Dy hc) (vE hc h8) z) (sd rfl)
theorem tx(k:Nat)(h8:L.length<=8)(hL:∀ n∈L,n < cs.length)(ha:∀ c∈cs,cH c)(z:Z):ao T (k + 9) mE [.d (.tup (cs.map pr)),.d (aj L)] z=some (.ok (.d (pr (AM (ik (c8 (cf cs)) L)))) z):=by
 have hc:∀ n∈L,cH (c8 (cf cs) n):=λn hn=>Ds (mG ha (hL n hn));refine W.ok (aW (k:=k + 6) (ps:=2) (ns:=2) (b:=iT) rfl rfl (-0) ?_)
 refine ip (by rw[Ç];exact cm ∅) (fF (λx=>pr (c8 (cf cs) (Di x))) (λx hx=>?_) ?_)
 ·obtain⟨n,hn,rfl⟩:=Î.mp hx;refine(af (C9 (cs:=cs) (n:=n) (hL n hn)) ?_ :);exact Wo (kS (k + 5) (cf cs n) z) ⟨rfl,rfl⟩
 ·have e:(L.map ak).map (λx=>pr (c8 (cf cs) (Di x)))=(L.map (c8 (cf cs))).map pr:=by rw[à,à];rfl
  rw[e];exact Wo (ji k (Dy hc) (vE hc h8) z) (Wo (kS (k + 5) _ z) (sd rfl))
structure Lt(K:Nat)(p:List (List Nat)):Prop where
 aO:∀ L∈p,L∈aI K
 ne:[] ∉ p
 nd:p.flatten.Nodup
theorem Lt.len(h:Lt K p):p.length<=K:=by
 have h1:p.length<=p.flatten.length:=by
  have ne:=h.ne;clear h
  induction p with
  |nil=>exact Ô _
  |cons L r ih =>
   have:=ih λq=>ne (Æ _ q);have:0 < L.length:=Qg.mpr λe=>ne (e ▸ Å);rw[Pj,Ü,æ];omega
 have h2:=Pk h.nd (λn hn=>by
  obtain⟨L,hL,hn⟩:=Sd.mp hn;exact ì.mpr (aD (h.aO L hL) n hn):p.flatten ⊆ é K)
 rw[p6] at h2;omega
theorem y7{c:Nat->Int × Int}(h:On c p):∀ v∈k9 c p,Un v:=λv hv=>by
 obtain⟨L,hL,rfl⟩:=Î.mp hv;have t:=tw (h L hL);exact(nJ (h L hL)).lk.un (eH (h L hL)).1 ∅ ∅
theorem vG{c:Nat->Int × Int}(h8:K<=8)(h:On c p)(l:Lt K p):fm ((k9 c p).map (·.2))<=2 ^ 200:=by
 have e:fm ((k9 c p).map (·.2))<=bU c p:=by
  unfold k9 bU;rw[à];exact(tu (f:=λL=>(AM (ik c L)).2) (g:=aU c) λL hL=>⟨ó (nJ (h L hL)).b0,(nJ (h L hL)).small (eH (h L hL)).1⟩).2
 exact so e (so (Dr h8 h l.nd λL hL=>aD (l.aO L hL)) (-0))
theorem i8(k:Nat)(h8:cs.length<=8)(l:Lt cs.length p)(ha:∀ c∈cs,cH c)(z:Z):ao T (k + 12) gK [.d (.tup (cs.map pr)),.d (aq p)] z=some (.ok (.d (pr (bh (cf cs) p))) z):=by
 have on:On (cf cs) p:=λL hL n hn=>mG ha (aD (l.aO L hL) n hn);have hn:=l.len;refine W.ok (aW (k:=k + 9) (ps:=2) (ns:=2) (b:=jY) rfl rfl (-0) ?_)
 refine ip (by rw[Ç];exact cm ∅) (fF (λx=>pr (AM (ik (cf cs) (cq x)))) (λx hx=>?_) ?_)
 ·obtain⟨L,hL,rfl⟩:=Î.mp hx;have:=dZ (l.aO L hL);rw[bE];exact Wo (vF (k + 2) ∅ (aD (l.aO L hL)) ha z) (Wo (kS (k + 8) _ z) ⟨rfl,rfl⟩)
 ·have e:(p.map aj).map (λx=>pr (AM (ik (cf cs) (cq x))))=(k9 (cf cs) p).map pr:=by
   unfold k9;rw[à,à];exact O0 λL _=>by show pr (AM (ik (cf cs) (cq (aj L))))=_;rw[bE];rfl
  rw[e];exact Wo (ji (k + 3) (y7 on) (vG h8 on l) z) (Wo (kS (k + 8) _ z) (sd rfl))
theorem i9(k:Nat)(h8:cs.length<=8)(l:Lt cs.length p)(ha:∀ c∈cs,cH c)(z:Z):ao T (k + 12) gM [.d (.tup (cs.map pr)),.d (aq p)] z=some (.ok (.d (pr (cb (c8 (cf cs)) p))) z):=by
 have on:On (c8 (cf cs)) p:=λL hL n hn=>Ds (mG ha (aD (l.aO L hL) n hn));have hn:=l.len;refine W.ok (aW (k:=k + 9) (ps:=2) (ns:=2) (b:=jZ) rfl rfl (-0) ?_)
 refine ip (by rw[Ç];exact cm ∅) (fF (λx=>pr (AM (ik (c8 (cf cs)) (cq x)))) (λx hx=>?_) ?_)
 ·obtain⟨L,hL,rfl⟩:=Î.mp hx;have:=dZ (l.aO L hL);rw[bE];exact Wo (tx (k + 2) ∅ (aD (l.aO L hL)) ha z) ⟨rfl,rfl⟩
 ·have e:(p.map aj).map (λx=>pr (AM (ik (c8 (cf cs)) (cq x))))=(k9 (c8 (cf cs)) p).map pr:=by
   unfold k9;rw[à,à];exact O0 λL _=>by show pr (AM (ik (c8 (cf cs)) (cq (aj L))))=_;rw[bE];rfl
  rw[e];exact Wo (ji (k + 3) (y7 on) (vG h8 on l) z) (sd rfl)
theorem q9:∀ {l d:List Nat},d.Nodup->(∀ x∈d,x∈l)->l.length<=d.length->l.Nodup
 |[],_,_,_,_=>.nil
 |x::r,d,nd,h,hl=>by
  by_cases hx:x∈r
  ·have:=Pk nd (λy hy=>by
    rcases Û.mp (h y hy) with rfl | q
    ·exact hx
    ·exact q:d ⊆ r)
   rw[æ] at hl;omega
  ·refine O6.mpr ⟨hx,q9 (d:=d.filter (· != x)) (nd.sublist PB) (λy hy=>?_) ?_⟩
   ·obtain⟨q1,q2⟩:=õ.mp hy;rcases Û.mp (h y q1) with rfl | q
    ·simp at q2
    ·exact q
   ·by_cases hd:x∈d
    ·have:=(yU nd hd).length_eq;rw[æ] at this hl;omega
    ·rw[vw hd];rw[æ] at hl;omega
theorem Dz{l:List Nat}(h:∀ n∈l,n < 8):((((é 8).filter λi=>l.contains i).length:Int) == (l.length:Int))=decide l.Nodup:=by
 have nd:((é 8).filter λi=>l.contains i).Nodup:=Qn _ Ry;have sm:∀ n,n∈(é 8).filter (λi=>l.contains i)↔n∈l:=λn=>by
  rw[QL,RJ,p9];exact⟨λq=>q.2,λq=>⟨h n q,q⟩⟩
 rw[O7,beq_iff_eq,decide_eq_true_eq];constructor
 ·intro e;exact q9 nd (λn hn=>(sm n).mp hn) ∅
 ·intro hl;rw[((QE nd hl).mpr sm).length_eq]
theorem rd:∀ p:List (List Nat),(p.map aj).mapM qa=some (p.map λL=>L.map ak)
 |[]=>rfl
 |L::r=>by
  rw[Qw,RK,rd r];rfl
theorem AD(h:p.flatten.length<=1000):BF (aq p)=some (p.flatten.map ak):=by
 show((p.map aj).mapM qa).bind _=_;rw[rd];have e:(p.map λL=>L.map ak).flatten=p.flatten.map ak:=List.map_flatten.symm;show(if (p.map λL=>L.map ak).flatten.length<=most then some (p.map λL=>L.map ak).flatten else none)=_;rw[e,if_pos (by rw[Ç];exact cm h)]
theorem DB:∀ {l:List Nat},(∀ n∈l,n < 8)->qA (l.map ak)=some l
 |[],_=>rfl
 |n::r,h=>by
  show(if (0:Int)<=(n:Int)/\(n:Int) < 8 then(qA (r.map ak)).map ((n:Int).toNat::·) else none)=_;rw[if_pos ⟨by omega,by have:=h n Å;omega⟩,DB λk hk=>h k (Æ _ hk)];rfl
theorem lg(k:Nat)(h8:∀ L∈p,∀ n∈L,n < 8)(hn:p.flatten.length<=1000)(z:Z):ao T (k + 3) iM [.d (aq p)] z=some (.ok (.d (.bl (AB p))) z):=by
 have hf:∀ n∈p.flatten,n < 8:=λn hn=>by
  obtain⟨L,hL,hn⟩:=Sd.mp hn;exact h8 L hL n hn
 refine W.ok (aW (k:=k) (ps:=1) (ns:=2) (b:=iS) rfl rfl (-0) ?_)
 refine(oO (.fr (p.flatten.map ak)) [some (.d (aq p)),some (.fr (p.flatten.map ak))] ?_ ?_ ?_ :)
 ·refine(af (AD hn) ?_ :);exact⟨rfl,rfl⟩
 ·rw[oN (show oa (.fr (p.flatten.map ak))=true from gZ _)];rfl
 refine(af (o:=BG [.lst (p.flatten.map ak)]) (a:=.d (.int ((é 8).filter λi=>p.flatten.contains i).length)) (by
  show(qA (p.flatten.map ak)).map _=_;rw[DB hf];rfl) ?_ :)
 refine sb (b:=((((é 8).filter λi=>p.flatten.contains i).length:Int) == ((p.flatten.map ak).length:Int))) ?_;rw[Ç,Dz hf];rfl
end
theorem JE{a b:List D}(h:a.length + b.length<=most):dU .add (.lst a) (.lst b)=some (.fr (a++b)):=if_pos h
theorem DC{α β:Type}(f:α->β):∀ {l m:List β},l.Perm m->∀ {r:List α},m=r.map f->∃ r':List α,r'.Perm r/\l=r'.map f:=λ{l m} h=>by
 induction h with
 |nil=>exact λ{r} e=>⟨r,.refl _,e⟩
 |cons x h ih =>
  intro r e;cases r with
  |nil=>cases e
  |cons y r =>
   injection e with e1 e2;obtain⟨r',p,e3⟩:=ih e2;exact⟨y::r',p.cons y,by rw[e1,e3];rfl⟩
 |swap x y l =>
  intro r e
  match r,e with
  |u::v::r,e =>
   injection e with e1 e2;injection e2 with e2 e3;exact⟨v::u::r,.swap _ _ _,by rw[e1,e2,e3];rfl⟩
 |trans _ _ h1 h2 =>
  intro r e;obtain⟨r1,p1,e1⟩:=h2 e;obtain⟨r2,p2,e2⟩:=h1 e1;exact⟨r2,p2.trans p1,e2⟩
def dv:D->List (List Nat)
 |.tup l=>l.map cq|_=>[]
theorem d0(p:List (List Nat)):dv (aq p)=p:=by
 show(p.map aj).map cq=p;rw[à];exact(O0 λL _=>bE L).trans (Tj p)
theorem OH:∀ L:List Nat,mm 1 (aj L)=true:=λL=>á.mpr λx hx=>by obtain⟨n,_,rfl⟩:=Î.mp hx;rfl
theorem OI(p:List (List Nat)):mm 2 (aq p)=true:=á.mpr λx hx=>by obtain⟨L,_,rfl⟩:=Î.mp hx;exact OH L
theorem AE{l:List D}(h:∀ y∈l,∃ q,y=.tup q):(ic (.tup []::l)).head?=some (.tup []):=by
 show(uh (.tup []) (ic l)).head?=_;have h2:∀ y∈ic l,∃ q,y=.tup q:=λy hy=>h y ((eU l).mem_iff.mp hy);generalize ic l=m at h2;cases m with
 |nil=>rfl
 |cons y r =>
  obtain⟨q,rfl⟩:=h2 y Å;unfold uh;rw[if_neg (by cases q <;> exact Õ)];rfl
theorem AF{P:List (List (List Nat))}(hn:P.length<=50000){t:List (List (List Nat))}(ht:P=[]::t):∃ P':List (List (List Nat)),P'.Perm P/\P'.head?=some []/\mR .sorted [.lst (P.map aq)]=some (.fr (P'.map aq)):=by
 obtain⟨P',p,e⟩:=DC aq (eU (P.map aq)) rfl;refine⟨P',p,?_,?_⟩
 ·subst ht;have hd:(ic ((([]:List (List Nat))::t).map aq)).head?=some (.tup []):=AE (l:=t.map aq) λy hy=>by obtain⟨q,_,rfl⟩:=Î.mp hy;exact⟨_,rfl⟩
  rw[e] at hd;cases P' with
  |nil=>cases hd
  |cons q r =>
   cases q with
   |nil=>rfl|cons _ _=>cases hd
 have ns:dh (P.map aq)=false:=by
  subst ht;rw[PV];intro q;unfold dh at q;have:=á.mp q (aq []) Å;rw[Á] at this;exact absurd this.1 (-0)
 have ok:zM (P.map aq)=true:=by
  subst ht;show(decide ((t.map aq).length < 60000)&&((t.map aq).all (mm 1) || (t.map aq).all (mm 2)))=true;rw[decide_eq_true (by rw[Ç];rw[æ] at hn;omega),Pw,Ph]
  exact .inr (á.mpr λx hx=>by obtain⟨q,_,rfl⟩:=Î.mp hx;exact OI q)
 show(if (P.map aq).length < 64/\dh (P.map aq)=true then some (S.fr (hY (P.map aq))) else(ui (P.map aq)).map S.fr)=_;rw[if_neg (λq=>by rw[ns] at q;cases q.2)]
 unfold ui;rw[if_pos ok,e];rfl
section
variable {m:Int}{ps cs:List (Int × Int)}{pl:List Nat}{p ls:List (List Nat)}{L:List Nat}{K:Nat}
theorem Pa.lt(h:Pa ls p)(hl:∀ L∈ls,L∈aI K):Lt K p:=⟨λL hL=>hl L (h.sub.subset hL),h.ne,h.nd⟩
theorem DD(h:Lt K p):p.flatten.length<=K:=by
 have h2:=Pk h.nd (λn hn=>by
  obtain⟨L,hL,hn⟩:=Sd.mp hn;exact ì.mpr (aD (h.aO L hL) n hn):p.flatten ⊆ é K)
 rwa [p6] at h2
abbrev GI(L:List Nat)(x:D):D:=aq (dv x++[L])
abbrev bX(ia:Nat):Sm:=s1 (.set (.v 1) (.bin .add v1 (.comp 1 [2] (.v 0) .seq (c1 v1) (c1 (.call ia (c1 (.bin .add v0 (.tup (c1 v1)))))) (.bin .add v0 (.tup (c1 v1))))))
theorem DE{ia:Nat}(k:Nat)(ap:∀ {p:List (List Nat)},(∀ L∈p,∀ n∈L,n < 8)->p.flatten.length<=1000->∀ z:Z,ao T (k + 5) ia [.d (aq p)] z=some (.ok (.d (.bl (AB p))) z))(h8:K<=8){dn:List (List Nat)}(hL:L∈aI K)(hdn:∀ M∈dn,M∈aI K)(nd:(dn++[L]).Nodup)(ne:L.isEmpty=false){z:Z}{tp:Bool}{Q:O->Z->Prop}{E:Nat->Z->Prop}
  (q:Q (.nx [some (.d (.lst (ls.map aj))),some (.fr ((dt (dn++[L])).map aq)),some (.d (aj L))]) z):WS (jo T (k + 3 + 2)) tp (bX ia) [some (.d (.lst (ls.map aj))),some (.fr ((dt dn).map aq)),some (.d (aj L))] z Q E:=by
 have l8:=dZ hL;have ndd:dn.Nodup:=nd.sublist (R0 _ _);have hnP:=vz h8 hdn ndd;have lt:∀ q∈dt dn,Lt K q:=λq hq=>(hG hq).lt hdn;have nx2:dt (dn++[L])=dt dn++((dt dn).filter λp=>AB (p++[L])).map (·++[L]):=by
  show UL tf _ _=_;rw[Ts];show tf (dt dn) L=_;unfold tf;rw[if_neg (by rw[ne];exact Õ)]
 have hn2:=vz (ls:=dn++[L]) h8 (λM hM=>by
  rcases Ì.mp hM with q | q
  ·exact hdn M q
  ·rw[Ð.mp q];exact hL) nd
 rw[nx2,Ü] at hn2;have app:∀ q∈dt dn,dU .add (aq q) (.tup [aj L])=some (.d (aq (q++[L]))):=λq hq=>by
  have:=(lt q hq).len;have e:=C6 (a:=q.map aj) (b:=[aj L]) (by rw[Ç];show _ + 1<=_;omega)
  rw[e];show some (S.d (.tup (q.map aj++[L].map aj)))=_;rw[← OM]
 refine ip (by rw[Ç];exact ã hnP (-0)) (CN (λx=>AB (dv x++[L])) (GI L) (λx hx=>?_) ?_)
 ·obtain⟨q,hq,rfl⟩:=Î.mp hx;have fl:=DD (lt q hq);refine(af (app q hq) ?_ :);refine Wo (ap (p:=q++[L]) (λM hM n hn=>?_) (by rw[VO,Ü,Pj,Uj,ö];omega) z) ⟨by rw[d0],rfl,λ_=>?_⟩
  ·rcases Ì.mp hM with y | y
   ·have:=aD ((lt q hq).aO M y) n hn;omega
   ·rw[Ð.mp y] at hn;have:=aD hL n hn;omega
  ·refine(af (app q hq) ?_ :);exact⟨by show aq (q++[L])=aq (dv (aq q)++[L]);rw[d0],rfl⟩
 ·have e1:(((dt dn).map aq).filter (λx=>AB (dv x++[L]))).map (GI L)=(((dt dn).filter λp=>AB (p++[L])).map (·++[L])).map aq:=by
   rw[Sr,à,à];have:(dt dn).filter ((λx=>AB (dv x++[L])) ∘ aq)=(dt dn).filter λp=>AB (p++[L]):=QR λq _=>by show AB (dv (aq q)++[L])=_;rw[d0]
   rw[this];exact O0 λq _=>by show aq (dv (aq q)++[L])=_;rw[d0];rfl
  rw[e1];refine(af (JE (a:=(dt dn).map aq) (b:=(((dt dn).filter λp=>AB (p++[L])).map (·++[L])).map aq) (by rw[Ç,Ç];exact ã hn2 (-0))) ?_ :)
  rw[nx2,OM] at q;exact q
theorem xA(h8:K<=8)(hl:∀ L∈ls,L∈aI K)(nd:ls.Nodup){P':List (List (List Nat))}(es:mR .sorted [.lst ((dt ls).map aq)]=some (.fr (P'.map aq)))(k:Nat)(z:Z):ao T (k + 6) c6 [.d (.lst (ls.map aj))] z=some (.ok (.fr (P'.map aq)) z):=by
 refine W.ok (aW (k:=k + 3) (ps:=1) (ns:=3) (b:=iU) rfl rfl (-0) ?_)
 refine kL (λxs ρ z1=>z1=z/\∃ (dn rest:List (List Nat)) (o:Option S),dn++rest=ls/\xs=rest.map aj/\ρ=[some (.d (.lst (ls.map aj))),some (.fr ((dt dn).map aq)),o]) _ ⟨rfl,[],ls,none,rfl,rfl,(JJ (by show(cF (ls.map aj)&&true)=true;rw[g6];rfl)).trans rfl⟩ ?_ ?_
 ·rintro x r ρ z1 ⟨rfl,dn,rest,o,hd,e,rfl⟩;cases rest with
  |nil=>cases e
  |cons L rest =>
   cases e;have hL:=hl L (by rw[← hd];exact Ò _ Å)
   have hdn:∀ M∈dn,M∈aI K:=λM hM=>hl M (by rw[← hd];exact ç _ hM)
   have hd2:dn++[L]++rest=ls:=by rw[Ý];exact hd
   have ndd:(dn++[L]).Nodup:=nd.sublist (by rw[← hd2];exact R0 _ _)
   refine ib (b:=decide ((0:Int) < ((L.map ak).length:Int))) (λh=>?_) λh=>?_
   ·have h:=of_decide_eq_true h;rw[Ç] at h;refine DE k (λa b z=>lg (k + 2) a b z) h8 hL hdn ndd (by cases L with | nil=>exact absurd h (-0) | cons _ _=>rfl) ?_
    exact⟨rfl,dn++[L],rest,_,hd2,rfl,rfl⟩
   ·have h:=of_decide_eq_false h;rw[Ç] at h;have ne:L.isEmpty=true:=by
     cases L with
     |nil=>rfl|cons _ _=>exact absurd (show(0:Int) < _ from by rw[æ];omega) h
    have nx2:dt (dn++[L])=dt dn:=by
     show UL tf _ _=_;rw[Ts];exact if_pos ne
    refine⟨rfl,dn++[L],rest,some (.d (aj L)),hd2,rfl,?_⟩;rw[nx2];rfl
 ·rintro ρ z1 ⟨rfl,dn,rest,o,hd,e,rfl⟩;cases rest with
  |cons _ _=>cases e
  |nil =>
   rw[ö] at hd;subst hd;refine(af es ?_ :);exact sd rfl
theorem F4(h8:K<=8)(hl:∀ L∈ls,L∈aI K)(nd:ls.Nodup):∃ P':List (List (List Nat)),P'.Perm (dt ls)/\P'.head?=some []/\mR .sorted [.lst ((dt ls).map aq)]=some (.fr (P'.map aq)):=by
 obtain⟨t,ht⟩:=pJ ls;exact AF (ã (vz h8 hl nd) (-0)) ht
theorem lh(h8:K<=8)(hl:∀ L∈ls,L∈aI K)(nd:ls.Nodup):∃ P':List (List (List Nat)),P'.Perm (dt ls)/\∀ (k:Nat) (z:Z),ao T (k + 6) c6 [.d (.lst (ls.map aj))] z=some (.ok (.fr (P'.map aq)) z):=by
 obtain⟨P',pm,_,es⟩:=F4 h8 hl nd;exact⟨P',pm,xA h8 hl nd es⟩
end
theorem Un.bs{v:Int × Int}{n:Nat}(h:Un v)(hb:v.2<=2 ^ n):Bs n v:=by
 have e:((2 ^ n:Nat):Int)=2 ^ n:=R3 2 n;have h0:=h.t0;have h1:=h.tb;have h2:=h.b0;rw[← e] at hb;exact⟨by omega,h.b0,by omega⟩
theorem y8{P:List (List (List Nat))}{f:List (List Nat)->Int × Int}(hne:P≠[])(hb:∀ q∈P,Bs 100 (f q)):∃ i p,fg (P.map f) (P.map f).length=some i/\P[i]?=some p/\p∈P/\∀ q∈P,qW (f q) (f p):=by
 have hl:0 < (P.map f).length:=by rw[Ç];exact Qg.mpr hne
 obtain⟨i,e⟩:=FU hl;have hi:=yS e;have hi2:i < P.length:=by rwa [Ç] at hi
 have hB:∀ c∈P.map f,Bs 100 c:=λc hc=>by obtain⟨q,hq,rfl⟩:=Î.mp hc;exact hb q hq
 have mx:=De hB (Ô _) e;have at_:∀ j (h:j < P.length),lf (P.map f) j=f P[j]:=λj h=>by
  rw[lf,Ê,è,Ø h];rfl
 refine⟨i,P[i],e,Ø hi2,Pb hi2,λq hq=>?_⟩;obtain⟨j,hj,rfl⟩:=O9.mp hq;have:=mx j (by rw[Ç];exact hj)
 rwa [at_ j hj,at_ i hi2] at this
section
variable {m:Int}{ps cs:List (Int × Int)}{pl:List Nat}{p ls:List (List Nat)}{L:List Nat}{K:Nat}
theorem hV{c:Nat->Int × Int}(h8:K<=8)(h:On c p)(l:Lt K p):Bs 100 (bh c p)/\Bs 100 (cb c p):=by
 obtain⟨n0,nb,b0⟩:=fV h;have b:=Dr h8 h l.nd λL hL=>aD (l.aO L hL);have b1:bU c p<=2 ^ 100:=so b (-0)
 exact⟨((hU h).un b0 ∅ ∅).bs (so ((hU h).small b0) b1),((dR h).un b0 n0 nb).bs (so ((dR h).small b0) b1)⟩
theorem dP(g:aG m ps):(∀ L∈aA (aZ m ps pl),L∈aI ps.length)/\(aA (aZ m ps pl)).Nodup/\(∀ L∈aA (bZ m ps pl),L∈aI ps.length)/\(aA (bZ m ps pl)).Nodup:=by
 have nd:(d8 ps.length).Nodup:=by
  have:∀ k,k < 9->(d8 k).Nodup:=by decide +kernel
  exact this _ (by have:=g.len;omega)
 exact⟨λL hL=>((i5 g).mp (eK hL)).1,nd.sublist (RD.trans PB),λL hL=>((kY g).mp (eK hL)).1,nd.sublist (RD.trans PB)⟩
theorem lj(hc:cs.length=ps.length)(ha:∀ c∈cs,cH c)(l:Lt ps.length p):On (cf cs) p/\On (c8 (cf cs)) p:=⟨λL hL n hn=>i7 hc ha n (aD (l.aO L hL) n hn),λL hL n hn=>me hc ha n (aD (l.aO L hL) n hn)⟩
structure pK(c:Nat->Int × Int)(ls p:List (List Nat)):Prop where
 mem:p∈dt ls
 top:∀ q∈dt ls,qW (bh c q) (bh c p)
theorem AG(g:aG m ps)(hp:aR m pl)(hc:cs.length=ps.length)(ha:∀ c∈cs,cH c){P:List (List (List Nat))}(lt:∀ q∈P,Lt ps.length q)(hn:P.length<=21147)(run:∀ (k:Nat) (z:Z),ao T (k + 6) c6 [.d (.lst ((aA (aZ m ps pl)).map aj))] z=some (.ok (.fr (P.map aq)) z)){i:Nat}{p:List (List Nat)}(ef:fg (P.map (bh (cf cs))) (P.map (bh (cf cs))).length=some i)(ep:P[i]?=some p)(k:Nat)(z:Z):ao T (k + 20) cu [.d (cB m ps),.d (.tup (cs.map pr)),.d (.tup (pl.map ak))] z=some (.ok (.d (aq p)) z):=by
 have h8:=g.len;have fgr:=fA (k + 15) (n:=100) (l:=P.map (bh (cf cs))) (λc hc'=>by obtain⟨q,hq,rfl⟩:=Î.mp hc';exact(hV h8 (lj hc ha (lt q hq)).1 (lt q hq)).1) (-0) z
 rw[ef] at fgr;refine W.ok (aW (k:=k + 17) (ps:=3) (ns:=4) (b:=fM) rfl rfl (-0) (Wo (bY (k + 9) (m:=m) (ts:=ps.map pr) g.FD z (pC (by rw[Ç];exact hc) ha)) (Wo (jB (k + 9) g hp z) (Wo (run (k + 13) z) ?_))))
 refine ip (by rw[Ç];exact ã hn (-0)) (fF (λx=>pr (bh (cf cs) (dv x))) (λx hx=>?_) ?_)
 ·obtain⟨q,hq,rfl⟩:=Î.mp hx;have l:=lt q hq;rw[← hc] at l;exact Wo (i8 (k + 7) ∅ l ha z) ⟨by rw[d0],rfl⟩
 ·have e1:(P.map aq).map (λx=>pr (bh (cf cs) (dv x)))=(P.map (bh (cf cs))).map pr:=by
   rw[à,à];exact O0 λq _=>by show pr (bh (cf cs) (dv (aq q)))=_;rw[d0];rfl
  rw[e1];refine Wo fgr ?_;refine(af (o:=iB (.lst (P.map aq)) (.int i)) (kQ (by rw[è,ep];rfl)) ?_ :)
  exact sd rfl
theorem pL(g:aG m ps)(hp:aR m pl)(h7:ps.length<=7)(hc:cs.length=ps.length)(ha:∀ c∈cs,cH c):∃ p,pK (cf cs) (aA (aZ m ps pl)) p/\∀ (k:Nat) (z:Z),ao T (k + 20) cu [.d (cB m ps),.d (.tup (cs.map pr)),.d (.tup (pl.map ak))] z=some (.ok (.d (aq p)) z):=by
 obtain⟨hl,nd,_,_⟩:=dP (pl:=pl) g;obtain⟨P,pm,run⟩:=lh ∅ hl nd
 obtain⟨t,ht⟩:=pJ (aA (aZ m ps pl));have lt:∀ q∈P,Lt ps.length q:=λq hq=>(hG (pm.mem_iff.mp hq)).lt hl;have hn:P.length<=21147:=by rw[pm.length_eq];exact vz ∅ hl nd
 obtain⟨i,p,ef,ep,hm,mx⟩:=y8 (P:=P) (f:=bh (cf cs)) (λe=>by rw[e,ht] at pm;exact absurd pm.length_eq (by simp)) λq hq=>(hV ∅ (lj hc ha (lt q hq)).1 (lt q hq)).1
 exact⟨p,⟨pm.mem_iff.mp hm,λq hq=>mx q (pm.mem_iff.mpr hq)⟩,AG g hp hc ha lt hn run ef ep⟩
theorem AH(g:aG m ps)(hp:aR m pl)(hc:cs.length=ps.length)(ha:∀ c∈cs,cH c){P:List (List (List Nat))}(lt:∀ q∈P,Lt ps.length q)(hn:P.length<=21147)(run:∀ (k:Nat) (z:Z),ao T (k + 6) c6 [.d (.lst ((aA (bZ m ps pl)).map aj))] z=some (.ok (.fr (P.map aq)) z)){i:Nat}{p:List (List Nat)}(ef:fg (P.map (bh (c8 (cf cs)))) (P.map (bh (c8 (cf cs)))).length=some i)(ep:P[i]?=some p)(k:Nat)(z:Z):ao T (k + 20) cv [.d (cB m ps),.d (.tup (cs.map pr)),.d (.tup (pl.map ak))] z=some (.ok (.d (aq p)) z):=by
 have h8:=g.len;have fgr:=fA (k + 15) (n:=100) (l:=P.map (bh (c8 (cf cs)))) (λc hc'=>by obtain⟨q,hq,rfl⟩:=Î.mp hc';exact(hV h8 (lj hc ha (lt q hq)).2 (lt q hq)).1) (-0) z
 rw[ef] at fgr;refine W.ok (aW (k:=k + 17) (ps:=3) (ns:=4) (b:=fN) rfl rfl (-0) (Wo (bY (k + 9) (m:=m) (ts:=ps.map pr) g.FD z (pC (by rw[Ç];exact hc) ha)) (Wo (jC (k + 9) g hp z) (Wo (run (k + 13) z) ?_))))
 refine ip (by rw[Ç];exact ã hn (-0)) (fF (λx=>pr (bh (c8 (cf cs)) (dv x))) (λx hx=>?_) ?_)
 ·obtain⟨q,hq,rfl⟩:=Î.mp hx;have l:=lt q hq;rw[← hc] at l;exact Wo (i9 (k + 7) ∅ l ha z) (Wo (kS (k + 16) _ z) ⟨by rw[d0];rfl,rfl⟩)
 ·have e1:(P.map aq).map (λx=>pr (bh (c8 (cf cs)) (dv x)))=(P.map (bh (c8 (cf cs)))).map pr:=by
   rw[à,à];exact O0 λq _=>by show pr (bh (c8 (cf cs)) (dv (aq q)))=_;rw[d0];rfl
  rw[e1];refine Wo fgr ?_;refine(af (o:=iB (.lst (P.map aq)) (.int i)) (kQ (by rw[è,ep];rfl)) ?_ :)
  exact sd rfl
theorem pM(g:aG m ps)(hp:aR m pl)(h7:ps.length<=7)(hc:cs.length=ps.length)(ha:∀ c∈cs,cH c):∃ p,pK (c8 (cf cs)) (aA (bZ m ps pl)) p/\∀ (k:Nat) (z:Z),ao T (k + 20) cv [.d (cB m ps),.d (.tup (cs.map pr)),.d (.tup (pl.map ak))] z=some (.ok (.d (aq p)) z):=by
 obtain⟨_,_,hl,nd⟩:=dP (pl:=pl) g;obtain⟨P,pm,run⟩:=lh ∅ hl nd
 obtain⟨t,ht⟩:=pJ (aA (bZ m ps pl));have lt:∀ q∈P,Lt ps.length q:=λq hq=>(hG (pm.mem_iff.mp hq)).lt hl;have hn:P.length<=21147:=by rw[pm.length_eq];exact vz ∅ hl nd
 obtain⟨i,p,ef,ep,hm,mx⟩:=y8 (P:=P) (f:=bh (c8 (cf cs))) (λe=>by rw[e,ht] at pm;exact absurd pm.length_eq (by simp)) λq hq=>(hV ∅ (lj hc ha (lt q hq)).2 (lt q hq)).1
 exact⟨p,⟨pm.mem_iff.mp hm,λq hq=>mx q (pm.mem_iff.mpr hq)⟩,AH g hp hc ha lt hn run ef ep⟩
end
theorem tD(l:List Nat):kn (aj l)=true:=C5 l
theorem F5{a b:List Nat}(h:TS.tZ a b=true):ez .lt (aj a) (aj b)=some true:=by
 show(if kn (aj a)&&kn (aj b) then wA (aj a) (aj b) else none)=_;rw[tD,tD];exact(x9 a b).trans (by rw[h])
abbrev DP(p:List (List Nat)):Prop:=p.Pairwise λx y=>TS.tZ x y=true
theorem vH:∀ {p:List (List Nat)}{x:D},DP p->x∈dB (p.map aj) ((p.map aj).drop 1)->∃ a b,x=.tup [aj a,aj b]/\TS.tZ a b=true
 |[],_,_,h=>by cases h
 |[_],_,_,h=>by cases h
 |a::b::r,x,hu,h=>by
  have h:x∈D.tup [aj a,aj b]::dB ((b::r).map aj) (((b::r).map aj).drop 1):=h;obtain⟨h1,h2⟩:=ÿ.mp hu;rcases Û.mp h with rfl | h
  ·exact⟨a,b,rfl,h1 b Å⟩
  ·exact vH h2 h
def F6:List (List Nat)->Bool
 |[]=>true|x::r=>r.all (λy=>TS.tZ x y)&&F6 r
theorem y9:∀ {l:List (List Nat)},F6 l=true->DP l
 |[],_=>.nil
 |x::r,h=>by
  have h:(r.all (λy=>TS.tZ x y)&&F6 r)=true:=h;rw[Á] at h;exact ÿ.mpr ⟨λy hy=>á.mp h.1 y hy,y9 h.2⟩
theorem vI{k:Nat}(h:k<=8):DP (d8 k):=by
 have:∀ k,k < 9->F6 (d8 k)=true:=by decide +kernel
 exact y9 (this k ∅)
section
variable {m:Int}{ps cs:List (Int × Int)}{pl:List Nat}{p q ls:List (List Nat)}{L:List Nat}{K:Nat}
theorem rf(k:Nat)(hc:cs.length=ps.length)(ha:∀ c∈cs,cH c)(h8:ps.length<=8)(lp:Lt ps.length p)(lq:Lt ps.length q)(h1:∀ (k:Nat) (z:Z),ao T (k + 20) cu [.d (cB m ps),.d (.tup (cs.map pr)),.d (.tup (pl.map ak))] z=some (.ok (.d (aq p)) z))(h2:∀ (k:Nat) (z:Z),ao T (k + 20) cv [.d (cB m ps),.d (.tup (cs.map pr)),.d (.tup (pl.map ak))] z=some (.ok (.d (aq q)) z))(z:Z) :
  ao T (k + 23) gj [.d (cB m ps),.d (.tup (cs.map pr)),.d (.tup (pl.map ak))] z=some (.ok (.d (.tup [pr (bh (cf cs) p),pr (cb (c8 (cf cs)) q)])) z):=by
 rw[← hc] at lp lq;exact W.ok (aW (k:=k + 20) (ps:=3) (ns:=4) (b:=pg) rfl rfl (-0) (Wo (h1 (k + 2) z) (Wo (i8 (k + 10) ∅ lp ha z) (Wo (h2 (k + 2) z) (Wo (i9 (k + 10) ∅ lq ha z) (sd rfl))))))
theorem qh(k:Nat)(hn:p.length<=1000)(hu:DP p)(z:Z):ao T (k + 3) nv [.d (aq p)] z=some (.ok (.d (.bl true)) z):=by
 have e1:cutD (p.map aj) (some 1) none=(p.map aj).drop 1:=gk _ 1;refine W.ok (aW (ps:=1) (ns:=1) (b:=ny) rfl rfl (-0) (ip (c:=(dB (p.map aj) (cutD (p.map aj) (some 1) none)).length<=most) (ã (kP _ _) (cm (by rw[Ç];exact hn))) (fF (λ_=>.bl true) (λx hx=>?_) (af (fS _ λ_=>true) ?_ :))))
 ·rw[e1] at hx;obtain⟨a,b,rfl,h⟩:=vH hu hx;refine(af (F5 h) ?_ :);exact⟨rfl,rfl⟩
 ·exact sb (b:=Xk _ λ_=>true) (á.mpr λ_ _=>rfl)
theorem AI(k:Nat)(g:aG m ps){l:List Nat}(hl:l∈aI ps.length)(z:Z):ao T (k + 6) vb [.d (cB m ps),.d (aj l)] z=some (.ok (.d (.bl true)) z):=by
 have ln:=dZ hl;have h8:=g.len;refine W.ok (aW (ps:=2) (ns:=2) (b:=oZ) rfl rfl (-0) (Wo (kT k ((ps.map pr).length:Nat) (x:=aj l) (decide_eq_true (by rw[Ç];omega)) z) (sd ?_)))
 show S.d (.bl ((l.map ak).all (λx=>aY x ((ps.map pr).length:Nat))&&mS (l.map ak)))=_;have hb:(l.map ak).all (λx=>aY x ((ps.map pr).length:Nat))=true:=by
  rw[PZ];intro x hx;obtain⟨n,hn,rfl⟩:=Î.mp hx;exact AA (by rw[Ç];exact aD hl n hn)
 rw[hb,xm (b7 hl)];rfl
theorem vJ(k:Nat)(g:aG m ps)(l:Lt ps.length p)(hu:DP p)(z:Z):ao T (k + 9) dJ [.d (cB m ps),.d (aq p)] z=some (.ok (.d (.bl true)) z):=by
 have h8:=g.len;have hn:=l.len;have fl:=DD l;have ap:AB p=true:=decide_eq_true l.nd;refine W.ok (aW (k:=k + 6) (ps:=2) (ns:=2) (b:=dO) rfl rfl (-0) ?_)
 refine ip (by rw[Ç];exact cm ∅) (fF (λ_=>.bl true) (λx hx=>?_) ?_)
 ·obtain⟨L,hL,rfl⟩:=Î.mp hx;have ne:(0:Int) < ((L.map ak).length:Int):=by
   rw[Ç];have:0 < L.length:=Qg.mpr λe=>l.ne (e ▸ hL);omega
  exact Wo (AI (k + 2) g (l.aO L hL) z) ⟨by rw[← decide_eq_true ne],rfl⟩
 ·refine(af (fS (p.map aj) λ_=>true) ?_ :);refine ie (b:=!(p.map aj).all λ_=>true) (by rw[á.mpr λ_ _=>rfl];rfl) ?_
  have c1:=lg (k + 5) (p:=p) (λL hL n hn=>by have:=aD (l.aO L hL) n hn;omega) ∅ z
  rw[ap] at c1;exact Wo (qh (k + 5) ∅ hu z) (Wo c1 (sd rfl))
theorem mK(k:Nat)(g:aG m ps)(hp:aR m pl)(l:Lt ps.length p)(hu:DP p)(hg:∀ L∈p,bt ps m.toNat pl L=true)(z:Z):ao T (k + 12) jP [.d (cB m ps),.d (.tup (pl.map ak)),.d (aq p)] z=some (.ok (.d (.bl true)) z):=by
 have h8:=g.len;have h6:=hp.len g.m6;have hn:=l.len;refine W.ok (aW (k:=k + 9) (ps:=3) (ns:=3) (b:=jV) rfl rfl (-0) (Wo (dr (k + 3) z g.FD) (Wo (bo (k + 5) (t:=.tup (ps.map pr)) z hp.Jw (decide_eq_true (by rw[Ç];omega))) (Wo (vJ (k + 2) g l hu z) ?_))))
 refine ip (by rw[Ç];exact cm ∅) (fF (λ_=>.bl true) (λx hx=>?_) ?_)
 ·obtain⟨L,hL,rfl⟩:=Î.mp hx;exact Wo (fU (k + 7) g hp (Row.t L) (aD (l.aO L hL)) z) ⟨by rw[hg L hL],rfl⟩
 ·refine(af (fS (p.map aj) λ_=>true) ?_ :);exact sb (b:=Xk _ λ_=>true) (á.mpr λ_ _=>rfl)
theorem mL(k:Nat)(g:aG m ps)(hp:aR m pl)(l:Lt ps.length p)(hu:DP p)(hg:∀ L∈p,mf m ps pl L=true)(z:Z):ao T (k + 12) jQ [.d (cB m ps),.d (.tup (pl.map ak)),.d (aq p)] z=some (.ok (.d (.bl true)) z):=by
 have h8:=g.len;have h6:=hp.len g.m6;have hn:=l.len;refine W.ok (aW (k:=k + 9) (ps:=3) (ns:=3) (b:=jW) rfl rfl (-0) (Wo (dr (k + 3) z g.FD) (Wo (bo (k + 5) (t:=.tup (ps.map pr)) z hp.Jw (decide_eq_true (by rw[Ç];omega))) (Wo (vJ (k + 2) g l hu z) ?_))))
 refine ip (by rw[Ç];exact cm ∅) (fF (λ_=>.bl true) (λx hx=>?_) ?_)
 ·obtain⟨L,hL,rfl⟩:=Î.mp hx;exact Wo (qX (k + 6) g hp L z) ⟨by rw[show(!bt ps m.toNat pl (gp ps.length L))=true from hg L hL],rfl⟩
 ·refine(af (fS (p.map aj) λ_=>true) ?_ :);exact sb (b:=Xk _ λ_=>true) (á.mpr λ_ _=>rfl)
theorem ja(k:Nat)(g:aG m ps)(hp:aR m pl)(hc:cs.length=ps.length)(ha:∀ c∈cs,cH c)(l:Lt ps.length p)(hu:DP p)(hg:∀ L∈p,bt ps m.toNat pl L=true)(z:Z):ao T (k + 15) fG [.d (cB m ps),.d (.tup (cs.map pr)),.d (.tup (pl.map ak)),.d (aq p)] z=some (.ok (.d (pr (bh (cf cs) p))) z):=by
 have h6:=hp.len g.m6;have h8:=g.len;have l':=l;rw[← hc] at l';exact W.ok (aW (k:=k + 12) (ps:=4) (ns:=4) (b:=fJ) rfl rfl (-0) (Wo (bY (k + 4) (m:=m) (ts:=ps.map pr) g.FD z (pC (by rw[Ç];exact hc) ha)) (Wo (bo (k + 8) (t:=.tup (ps.map pr)) z hp.Jw (decide_eq_true (by rw[Ç];omega))) (Wo (mK (k + 2) g hp l hu hg z) (Wo (i8 (k + 2) ∅ l' ha z) (sd rfl))))))
theorem jb(k:Nat)(g:aG m ps)(hp:aR m pl)(hc:cs.length=ps.length)(ha:∀ c∈cs,cH c)(l:Lt ps.length p)(hu:DP p)(hg:∀ L∈p,mf m ps pl L=true)(z:Z):ao T (k + 15) fH [.d (cB m ps),.d (.tup (cs.map pr)),.d (.tup (pl.map ak)),.d (aq p)] z=some (.ok (.d (pr (cb (c8 (cf cs)) p))) z):=by
 have h6:=hp.len g.m6;have h8:=g.len;have l':=l;rw[← hc] at l';exact W.ok (aW (k:=k + 12) (ps:=4) (ns:=4) (b:=fK) rfl rfl (-0) (Wo (bY (k + 4) (m:=m) (ts:=ps.map pr) g.FD z (pC (by rw[Ç];exact hc) ha)) (Wo (bo (k + 8) (t:=.tup (ps.map pr)) z hp.Jw (decide_eq_true (by rw[Ç];omega))) (Wo (mL (k + 2) g hp l hu hg z) (Wo (i9 (k + 2) ∅ l' ha z) (sd rfl))))))
theorem nK(k:Nat){v w:Int × Int}(hv:Bs 100 v)(hw:Bs 100 w)(h:qW v w)(z:Z):ao T (k + 3) dW [.d (pr v),.d (pr w)] z=some (.ok (.d (.bl true)) z):=by
 refine W.ok (aW (ps:=2) (ns:=2) (b:=iW) rfl rfl (-0) ?_)
 refine(af (yR (n:=100) (-0) hv.t hw.b) ?_ :)
 refine(af (yR (n:=100) (-0) hw.t hv.b) ?_ :)
 exact sb (b:=decide (v.1 * w.2<=w.1 * v.2)) (decide_eq_true h)
end
section
variable {m:Int}{ps cs:List (Int × Int)}{pl:List Nat}{p q ls:List (List Nat)}{L:List Nat}{K:Nat}{c:Nat->Int × Int}
theorem Lt.sub(h:Lt K p)(s:q.Sublist p):Lt K q:=⟨λL hL=>h.aO L (s.subset hL),λe=>h.ne (s.subset e),by
 have d:=g9.mp h.nd;exact g9.mpr ⟨d.1.sublist s,λL hL=>d.2 L (s.subset hL)⟩⟩
theorem vK{n:Nat}(h:n < p.length):∃ L,p=p.take n++L::p.drop (n + 1):=⟨p[n],by rw[List.getElem_cons_drop,ä]⟩
theorem vL(n:Nat):(p.take n++p.drop (n + 1)).Sublist p:=by
 have h:(p.take n++p.drop (n + 1)).Sublist (p.take n++p.drop n):=Yx (.refl _) (by rw[show n + 1=n + 1 from rfl,← Sk];exact Qr _ _)
 rwa [ä] at h
theorem DF(l:List D){n:Nat}(h:n<=l.length):cutD l none (some (n:Int))=l.take n:=by
 have h1:HT.c9 l.length l.length (some (n:Int))=min n l.length:=HT.rB l.length l.length n;unfold cutD;rw[h1,QK h];show(l.drop 0).take (n - 0)=_;rfl
theorem DG(hp:p.length<=1000){n:Nat}(h:n < p.length):dU .add (.tup (cutD (p.map aj) none (some (n:Int)))) (.tup (cutD (p.map aj) (some ((n:Int) + 1)) none))=some (.d (aq (p.take n++p.drop (n + 1)))):=by
 rw[DF _ (by rw[Ç];omega),show cutD (p.map aj) (some ((n:Int) + 1)) none=(p.map aj).drop (n + 1) from gk _ (n + 1)]
 show(if ((p.map aj).take n).length + ((p.map aj).drop (n + 1)).length<=most then some (S.d (.tup ((p.map aj).take n++(p.map aj).drop (n + 1)))) else none)=_;rw[if_pos (by rw[î,OQ,Ç];exact cm ∅)]
 show _=some (S.d (.tup ((p.take n++p.drop (n + 1)).map aj)));rw[OM,SQ,TK]
theorem zc(p:List (List Nat)):ez .ne (aq p) (.tup [])=some (!p.isEmpty):=by
 have h:kn (aq p)=true:=Dx p;show(HH (aq p) (.tup [])).map (!·)=_;unfold HH;rw[h];cases p <;> rfl
structure JL(f:List Nat->Bool)(K:Nat)(p:List (List Nat)):Prop where
 lt:Lt K p
 up:DP p
 all:∀ L∈p,f L=true
theorem JL.sub{f:List Nat->Bool}(h:JL f K p)(s:q.Sublist p):JL f K q:=⟨h.lt.sub s,h.up.sublist s,λL hL=>h.all L (s.subset hL)⟩
theorem pN(g:aG m ps)(h:pK c (aA (aZ m ps pl)) p):JL (bt ps m.toNat pl) ps.length p:=by
 have a:=hG h.mem;have s:=a.sub;have h8:=g.len;exact⟨a.lt (dP g).1,(vI h8).sublist (s.trans (RD.trans PB)),λL hL=>((i5 g).mp (eK (s.subset hL))).2⟩
theorem tE(g:aG m ps)(h:pK c (aA (bZ m ps pl)) p):JL (mf m ps pl) ps.length p:=by
 have a:=hG h.mem;have s:=a.sub;have h8:=g.len;exact⟨a.lt (dP g).2.2.1,(vI h8).sublist (s.trans (RD.trans PB)),λL hL=>by
  have:=((kY g).mp (eK (s.subset hL))).2;simpa [mf] using this⟩
abbrev Oe(m:Int)(ps cs:List (Int × Int))(pl:List Nat)(p q:List (List Nat))(o:Option S):Env:=[some .z,some (.d (cB m ps)),some (.d (.tup (cs.map pr))),some (.d (.tup (pl.map ak))),some (.d (aq p)),some (.d (aq q)),some (.d (pr (bh (cf cs) p))),some (.d (pr (cb (c8 (cf cs)) q))),some (.d (pr (ck m ps cs pl))),o]
abbrev L7(m:Int)(ps cs:List (Int × Int))(pl:List Nat)(p q:List (List Nat))(o6 o7 o:Option S):Env:=[some .z,some (.d (cB m ps)),some (.d (.tup (cs.map pr))),some (.d (.tup (pl.map ak))),some (.d (aq p)),some (.d (aq q)),o6,o7,o,none]
abbrev OJ(n:Nat):Sm:=rec eG (λ_ r=>tl r) n
theorem vM(k:Nat)(g:aG m ps)(hp:aR m pl)(hc:cs.length=ps.length)(ha:∀ c∈cs,cH c)(P2:JL (mf m ps pl) ps.length q){z:Z}(hz:ZI z)(o:Option S):WS (jo T (k + 23 + 2)) false (OJ 7) (Oe m ps cs pl p q o) z (λo z1=>ZI z1/\o=.rt (.d (.bl true))) NE:=by
 have h8:=g.len;have hn:=P2.lt.len;refine(af (zc q) ?_ :);by_cases hq:q=[]
 ·refine ie (b:=!q.isEmpty) (by rw[hq];rfl) ?_
  exact⟨hz,rfl⟩
 ·have l0:0 < q.length:=Qg.mpr hq;refine it (b:=!q.isEmpty) (by rw[ô,PV,ne_eq,SR];exact hq) ?_
  refine(cL (k + 22) ((q.map aj).length:Nat) hz (by rw[Ç];omega) (by rw[Ç];omega)).imp λs z1 ⟨hz1,n,e,hlt⟩=>?_
  subst e;rw[Ç] at hlt;have hlt:n < q.length:=by omega
  have P3:=P2.sub (vL n);have c1:=jb (k + 10) g hp hc ha P3.lt P3.up P3.all z1;obtain⟨L,e⟩:=vK hlt;have on:=(lj hc ha P2.lt).2;have le:=less_none (c:=c8 (cf cs)) (p1:=q.take n) (p2:=q.drop (n + 1)) (L:=L) (by rw[← e];exact on)
  rw[← e] at le;have b1:=(hV h8 on P2.lt).2;have b2:=(hV h8 le.1 P3.lt).2;refine(af (DG ∅ hlt) ?_ :)
  refine Wo c1 (Wo (nK (k + 22) b1 b2 le.2.1 z1) ?_);exact⟨hz1,rfl⟩
theorem DH(k:Nat)(g:aG m ps)(hp:aR m pl)(h7:ps.length<=7)(hc:cs.length=ps.length)(ha:∀ c∈cs,cH c){z:Z}(hz:ZI z)(B1:pK (cf cs) (aA (aZ m ps pl)) p)(B2:pK (c8 (cf cs)) (aA (bZ m ps pl)) q)
  (c1:∀ (k:Nat) (z:Z),ao T (k + 20) cu [.d (cB m ps),.d (.tup (cs.map pr)),.d (.tup (pl.map ak))] z=some (.ok (.d (aq p)) z))
  (c2:∀ (k:Nat) (z:Z),ao T (k + 20) cv [.d (cB m ps),.d (.tup (cs.map pr)),.d (.tup (pl.map ak))] z=some (.ok (.d (aq q)) z)) :
  W (ao T (k + 26) kO [.z,.d (cB m ps),.d (.tup (cs.map pr)),.d (.tup (pl.map ak))]) z (λs z1=>ZI z1/\s=.d (.bl true)) NE:=by
 have h8:=g.len;have P1:=pN g B1;have P2:=tE g B2;have hn:=P1.lt.len;have on1:=(lj hc ha P1.lt).1;have on2:=(lj hc ha P2.lt).2;have b1:=(hV h8 on1 P1.lt).1;have b2:=(hV h8 on2 P2.lt).2;have bs:=(Dd g hp hc ha).s.up (m:=100) (-0)
 have k1:∀ L∈p,∀ n∈L,n < ps.length:=λL hL=>aD (P1.lt.aO L hL);have k2:∀ L∈q,∀ n∈L,n < ps.length:=λL hL=>aD (P2.lt.aO L hL);have le1:=qZ g hp hc ha P1.lt.nd k1 P1.all;have le2:=vC g hp hc ha P2.lt.nd k2 P2.all;refine Ap hz (k:=k + 23) (ps:=4) (ns:=10) (b:=eG) rfl rfl (-0) ?_
 refine WS.mono (Q:=λo z1=>ZI z1/\o=.rt (.d (.bl true))) ?_ (λo z1 h=>by obtain⟨h1,rfl⟩:=h;exact⟨h1,rfl⟩) λ_ _ h=>h
 refine(oO (.d (.tup [aq p,aq q])) (L7 m ps cs pl p q none none none) ?_ ?_ ?_ :)
 ·exact Wo (c1 (k + 5) z) (Wo (c2 (k + 5) z) ⟨rfl,rfl⟩)
 ·rw[oN (show oa (.d (.tup [aq p,aq q]))=true from by show(cF (p.map aj)&&(cF (q.map aj)&&true))=true;rw[g6,g6];rfl)];rfl
 refine(oO (.d (.tup [pr (bh (cf cs) p),pr (cb (c8 (cf cs)) q)])) (L7 m ps cs pl p q (some (.d (pr (bh (cf cs) p)))) (some (.d (pr (cb (c8 (cf cs)) q)))) none) ?_ ?_ ?_ :)
 ·exact Wo (rf (k + 2) hc ha h8 P1.lt P2.lt c1 c2 z) ⟨rfl,rfl⟩
 ·rw[oN rfl];rfl
 refine(oO (.d (pr (ck m ps cs pl))) (Oe m ps cs pl p q none) ?_ ?_ ?_ :)
 ·exact Wo (vt (k + 14) g hp hc ha z) ⟨rfl,rfl⟩
 ·rw[oN rfl];rfl
 refine Wo (mK (k + 13) g hp P1.lt P1.up P1.all z) (Wo (mL (k + 13) g hp P2.lt P2.up P2.all z) ?_);refine Wo (ja (k + 10) g hp hc ha P1.lt P1.up P1.all z) (ie (b:=!((_:Int) == _&&((_:Int) == _&&true))) (FV (bh (cf cs) p)) ?_);refine Wo (jb (k + 10) g hp hc ha P2.lt P2.up P2.all z) (ie (b:=!((_:Int) == _&&((_:Int) == _&&true))) (FV (cb (c8 (cf cs)) q)) ?_);refine Wo (nK (k + 22) b1 bs le1 z) (Wo (nK (k + 22) bs b2 le2 z) ?_);refine(af (zc p) ?_ :);by_cases hq:p=[]
 ·refine ie (b:=!p.isEmpty) (by rw[hq];rfl) ?_
  exact vM k g hp hc ha P2 hz _
 ·have l0:0 < p.length:=Qg.mpr hq;refine it (b:=!p.isEmpty) (by rw[ô,PV,ne_eq,SR];exact hq) ?_
  refine(cL (k + 22) ((p.map aj).length:Nat) hz (by rw[Ç];omega) (by rw[Ç];omega)).imp λs z1 ⟨hz1,n,e,hlt⟩=>?_
  subst e;rw[Ç] at hlt;have hlt:n < p.length:=by omega
  have P3:=P1.sub (vL n);have c3:=ja (k + 10) g hp hc ha P3.lt P3.up P3.all z1;obtain⟨L,e⟩:=vK hlt;have le:=less_none (c:=cf cs) (p1:=p.take n) (p2:=p.drop (n + 1)) (L:=L) (by rw[← e];exact on1)
  rw[← e] at le;have b3:=(hV h8 le.1 P3.lt).1;refine(af (DG ∅ hlt) ?_ :)
  refine Wo c3 (Wo (nK (k + 22) b3 b1 le.2.2 z1) ?_);exact vM k g hp hc ha P2 hz1 _
end
section
variable {m:Int}{ps cs:List (Int × Int)}{pl:List Nat}{p q:List (List Nat)}{L:List Nat}{K:Nat}
theorem DJ(h:L∈aI K):L.Nodup:=(b7 h).imp λh=>â h
theorem JF(g:aG m ps)(hp:aR m pl)(hc:cs.length=ps.length)(ha:∀ c∈cs,cH c)(B1:pK (cf cs) (aA (aZ m ps pl)) p)(hL:aA (aZ m ps pl)=[L])(ne:L≠[]):bh (cf cs) p=ck m ps cs pl:=by
 have P1:=pN g B1;have on1:=(lj hc ha P1.lt).1;have k1:∀ M∈p,∀ n∈M,n < ps.length:=λM hM=>aD (P1.lt.aO M hM);have hm:L∈aA (aZ m ps pl):=by rw[hL];exact Å
 have l1:=(dP g).1 L hm;have top:=B1.top [L] (by rw[hL];exact yY ne (DJ l1))
 have oL:On (cf cs) [L]:=λM hM n hn=>i7 hc ha n (by rw[Ð.mp hM] at hn;exact aD l1 n hn)
 obtain⟨s,b0⟩:=gq g hp hc ha;exact vB (hU on1) s (qZ g hp hc ha P1.lt.nd k1 P1.all) (l9 s.b0 (hU oL).b0 (hU on1).b0 (vD g hp hc ha hL) top)
theorem up_eq(g:aG m ps)(hp:aR m pl)(hc:cs.length=ps.length)(ha:∀ c∈cs,cH c)(B2:pK (c8 (cf cs)) (aA (bZ m ps pl)) q)(hL:aA (bZ m ps pl)=[L])(ne:L≠[]):cb (c8 (cf cs)) q=ck m ps cs pl:=by
 have P2:=tE g B2;have on2:=(lj hc ha P2.lt).2;have k2:∀ M∈q,∀ n∈M,n < ps.length:=λM hM=>aD (P2.lt.aO M hM);have hm:L∈aA (bZ m ps pl):=by rw[hL];exact Å
 have l1:=(dP g).2.2.1 L hm;have top:=B2.top [L] (by rw[hL];exact yY ne (DJ l1))
 have oL:On (c8 (cf cs)) [L]:=λM hM n hn=>me hc ha n (by rw[Ð.mp hM] at hn;exact aD l1 n hn)
 obtain⟨s,b0⟩:=gq g hp hc ha;have top2:qW (cb (c8 (cf cs)) q) (cb (c8 (cf cs)) [L]):=by
  have t:((cb (c8 (cf cs)) [L]).2 - (cb (c8 (cf cs)) [L]).1) * (cb (c8 (cf cs)) q).2<=((cb (c8 (cf cs)) q).2 - (cb (c8 (cf cs)) q).1) * (cb (c8 (cf cs)) [L]).2:=top;rw[QP,QP,kr (cb (c8 (cf cs)) q).2] at t;unfold qW;omega
 exact vB (dR on2) s (l9 (dR on2).b0 (dR oL).b0 s.b0 top2 (xy g hp hc ha hL)) (vC g hp hc ha P2.lt.nd k2 P2.all)
abbrev NY(ns:List Int)(j:Nat)(m:Int)(ps cs:List (Int × Int))(pl:List Nat)(o6 o7 o8:Option S):Env:=[some (.d (.lst (ns.map D.int))),some (.d (.int j)),some .z,some (.d (cB m ps)),some (.d (.tup (cs.map pr))),some (.d (.tup (pl.map ak))),o6,o7,o8]
abbrev JM(ns:List Int)(j:Nat)(m:Int)(ps cs:List (Int × Int))(pl:List Nat):Env:=NY ns j m ps cs pl (some (.d (pr (ck m ps cs pl)))) (some (.d (.lst ((aA (aZ m ps pl)).map aj)))) (some (.d (.lst ((aA (bZ m ps pl)).map aj))))
abbrev NZ(n:Nat):Sm:=match yJ with
 |.seq (.fr _ _ _ b) _=>rec b (λ_ r=>tl r) n|_=>.nil
theorem zd(a:List Nat):ez .ne (aj a) (.tup [])=some (decide (a≠[])):=by
 have h:kn (aj a)=true:=tD a;show(HH (aj a) (.tup [])).map (!·)=_;unfold HH;rw[h];cases a <;> rfl
theorem DK(k:Nat)(g:aG m ps)(hp:aR m pl)(hc:cs.length=ps.length)(ha:∀ c∈cs,cH c){ns:List Int}{j:Nat}{z:Z}(hz:ZI z)(B2:pK (c8 (cf cs)) (aA (bZ m ps pl)) q)
  (bd:ao T (k + 39) gj [.d (cB m ps),.d (.tup (cs.map pr)),.d (.tup (pl.map ak))] z=some (.ok (.d (.tup [pr (bh (cf cs) p),pr (cb (c8 (cf cs)) q)])) z)) {Q:O->Z->Prop}{E:Nat->Z->Prop}
  (h:Q (.nx (JM ns j m ps cs pl)) z):WS (jo T (k + 37 + 2)) true (NZ 7) (JM ns j m ps cs pl) z Q E:=by
 by_cases h1:∃ L,aA (bZ m ps pl)=[L]
 ·obtain⟨L,hL⟩:=h1;have e1:(((aA (bZ m ps pl)).map aj).length:Int) == 1:=by rw[hL];rfl
  have e2:iB (.lst ((aA (bZ m ps pl)).map aj)) (.int 0)=some (aj L):=by rw[hL];exact kQ (j:=0) rfl
  refine it (b:=(((aA (bZ m ps pl)).map aj).length:Int) == 1) e1 ?_;refine(af e2 ?_ :);refine(af (zd L) ?_ :);by_cases hn:L=[]
  ·refine ie (b:=decide (L≠[])) (decide_eq_false λh=>h hn) ?_;exact h
  ·refine it (b:=decide (L≠[])) (decide_eq_true hn) ?_;have e:=up_eq g hp hc ha B2 hL hn;rw[e] at bd;refine Wo bd ?_;refine ie (b:=!((_:Int) == _&&((_:Int) == _&&true))) (FV (ck m ps cs pl)) ?_;exact h
 ·have e1:((((aA (bZ m ps pl)).map aj).length:Int) == 1)=false:=by
   rw[Ç,PV,ne_eq,beq_iff_eq];intro e;exact h1 (Qo.mp ∅)
  refine ie (b:=(((aA (bZ m ps pl)).map aj).length:Int) == 1) e1 ?_;exact h
theorem L8(k:Nat)(g:aG m ps)(hp:aR m pl)(hc:cs.length=ps.length)(ha:∀ c∈cs,cH c){ns:List Int}{j:Nat}{z:Z}(hz:ZI z)(B1:pK (cf cs) (aA (aZ m ps pl)) p)(B2:pK (c8 (cf cs)) (aA (bZ m ps pl)) q)
  (bd:ao T (k + 39) gj [.d (cB m ps),.d (.tup (cs.map pr)),.d (.tup (pl.map ak))] z=some (.ok (.d (.tup [pr (bh (cf cs) p),pr (cb (c8 (cf cs)) q)])) z)) {Q:O->Z->Prop}{E:Nat->Z->Prop}
  (h:Q (.nx (JM ns j m ps cs pl)) z):WS (jo T (k + 37 + 2)) true (NZ 6) (JM ns j m ps cs pl) z Q E:=by
 by_cases h1:∃ L,aA (aZ m ps pl)=[L]
 ·obtain⟨L,hL⟩:=h1;have e1:(((aA (aZ m ps pl)).map aj).length:Int) == 1:=by rw[hL];rfl
  have e2:iB (.lst ((aA (aZ m ps pl)).map aj)) (.int 0)=some (aj L):=by rw[hL];exact kQ (j:=0) rfl
  refine it (b:=(((aA (aZ m ps pl)).map aj).length:Int) == 1) e1 ?_;refine(af e2 ?_ :);refine(af (zd L) ?_ :);by_cases hn:L=[]
  ·refine ie (b:=decide (L≠[])) (decide_eq_false λh=>h hn) ?_;exact DK k g hp hc ha hz B2 bd h
  ·refine it (b:=decide (L≠[])) (decide_eq_true hn) ?_;have e:=JF g hp hc ha B1 hL hn;have JK:=bd;rw[e] at JK;refine Wo JK ?_;refine ie (b:=!((_:Int) == _&&((_:Int) == _&&true))) (FV (ck m ps cs pl)) ?_;exact DK k g hp hc ha hz B2 bd h
 ·have e1:((((aA (aZ m ps pl)).map aj).length:Int) == 1)=false:=by
   rw[Ç,PV,ne_eq,beq_iff_eq];intro e;exact h1 (Qo.mp ∅)
  refine ie (b:=(((aA (aZ m ps pl)).map aj).length:Int) == 1) e1 ?_;exact DK k g hp hc ha hz B2 bd h
theorem L9(k:Nat)(g:aG m ps)(h7:ps.length<=7)(hp:aR m pl)(hc:cs.length=ps.length)(ha:∀ c∈cs,cH c){ns:List Int}{j:Nat}{z:Z}(hz:ZI z){o6 o7 o8:Option S}{Q:O->Z->Prop}{E:Nat->Z->Prop}
  (h:∀ z1,Q (.nx (JM ns j m ps cs pl)) z1):WS (jo T (k + 37 + 2)) true (NZ 3) (NY ns j m ps cs pl o6 o7 o8) z Q E:=by
 obtain⟨p,B1,c1⟩:=pL g hp h7 hc ha;obtain⟨q,B2,c2⟩:=pM g hp h7 hc ha;refine(DH (k + 13) g hp h7 hc ha hz B1 B2 c1 c2).imp λs z1 ⟨hz1,e⟩=>?_;subst e;refine(oO (.d (pr (ck m ps cs pl))) (NY ns j m ps cs pl (some (.d (pr (ck m ps cs pl)))) o7 o8) ?_ ?_ ?_ :)
 ·exact Wo (vt (k + 28) g hp hc ha z1) ⟨rfl,rfl⟩
 ·rw[oN rfl];rfl
 refine(oO (.d (.tup [.lst ((aA (aZ m ps pl)).map aj),.lst ((aA (bZ m ps pl)).map aj)])) (JM ns j m ps cs pl) ?_ ?_ ?_ :)
 ·exact Wo (jB (k + 29) g hp z1) (Wo (jC (k + 29) g hp z1) ⟨rfl,rfl⟩)
 ·rfl
 exact L8 k g hp hc ha hz1 B1 B2 (rf (k + 16) hc ha g.len (pN g B1).lt (tE g B2).lt c1 c2 z1) (h z1)
end
abbrev F7(L:Int):Int:=if (if (3:Int) < L then 3 else L) > 1 then(if (3:Int) < L then 3 else L) else 1
theorem JG(k:Nat)(ns:List Int):ao T (k + 40) GC [.d (.lst (ns.map D.int))] none=some (.ok (.d (.bl true)) none):=by
 refine W.ok (aW (k:=k + 37) (ps:=1) (ns:=9) (b:=yJ) rfl rfl (-0) ?_)
 have hN:0<=F7 ((ns.map D.int).length:Int)/\F7 ((ns.map D.int).length:Int) < 100000:=by
  unfold F7;split <;> (try split) <;> omega
 refine(af (pz (m:=F7 ((ns.map D.int).length:Int)) hN.1 hN.2) ?_ :);refine kL (λxs ρ z=>(∀ x∈xs,∃ j:Nat,x=.int j)/\∃ o1 o2 o3 o4 o5 o6 o7 o8:Option S,ρ=[some (.d (.lst (ns.map D.int))),o1,o2,o3,o4,o5,o6,o7,o8]) _ ⟨λx hx=>?_,_,_,_,_,_,_,_,_,rfl⟩ ?_ ?_
 ·obtain⟨i,_,rfl⟩:=Î.mp hx;exact⟨i,rfl⟩
 ·rintro x r ρ z1 ⟨hx,o1,o2,o3,o4,o5,o6,o7,o8,rfl⟩;obtain⟨j,rfl⟩:=hx x Å;obtain⟨sn,sb,hz1,hst⟩:=CQ (k + 35) ns j z1;refine Wo hst ?_;refine(Au (k + 34) hz1 (-0) (-0)).imp λs z3 ⟨hz3,m,ps,e,g,h7⟩=>?_
  subst e;refine(qd (k + 34) (m:=m) (ts:=ps.map pr) hz3 (by rw[Ç];exact g.len)).imp λs z4 ⟨hz4,cs,e,hc,ha⟩=>?_
  subst e;rw[Ç] at hc;refine(sW (k + 35) (t:=.tup (ps.map pr)) g.m1 g.m6 hz4).imp λs z5 ⟨hz5,pl,e,hp⟩=>?_;subst e;refine(L9 k g ∅ hp hc ha hz5 λz6=>?_ :)
  exact⟨λx hx'=>hx x (Æ _ hx'),_,_,_,_,_,_,_,_,rfl⟩
 ·rintro ρ z1 ⟨_,o1,o2,o3,o4,o5,o6,o7,o8,rfl⟩;exact⟨rfl,rfl⟩
theorem pure:∀ ns:List Int,ns.length<=63->ao (tabOf rows) 40 GC [.d (.lst (ns.map D.int))] none=some (.ok (.d (.bl true)) none):=λns _=>by
 rw[NW];exact JG 0 ns
open PySem L2 Q
theorem ok:rows.all (Aj (jv rows) nums cn)=true:=by decide +kernel
theorem bd:fv rows:=by
 repeat' first | exact trivial | refine⟨?_,?_⟩ | exact λ_ _ _ _ _ _ us hl=>by obtain⟨_,rfl⟩:=OB hl;rfl | exact λ_ _ _ _ _ _ us hl=>by obtain⟨_,_,rfl⟩:=OC hl;rfl | exact λ_ _ _ _ _ _ us hl=>by obtain⟨_,_,_,rfl⟩:=OD hl;rfl | exact λ_ _ _ _ _ _ us hl=>by obtain⟨_,_,_,_,rfl⟩:=OE hl;rfl
def asks:kK:=oK rows nums cn
def prg:Program:=p7
def vq:Program:=view prg [75]
def loose:List Str:=prg.boundNames.filter λx=>!(x == ("law":Str))
def runL(w:ü)(os:Wj):=(kJ PySem.W.through (PySem.W.stepOk 11 (some (.ref 6))) (PySem.W.stepT (denote X2) prg w) 20000 (CC w os) (PySem.W.topStub prg)).map (λs =>
   (PySem.W.staticsOk (RM prg.main.body) (Vy w.params) s.abs.heap&&PySem.W.namesBound prg s.abs.heap&&PySem.W.gensDone s.abs&&PySem.W.laidKept (Vy w.params) s.abs.heap,
    PySem.W.openSeen vq loose (RM prg.main.body) (λ_=>true) true s.abs,asks.obs s.abs))
def runR(w:ü):=some (true,PySem.W.openGood vq loose,asks.Ms w)
def _root_.PySem.W.Fast.tw4331770382165503261:PySem.Program:=p7
theorem _root_.PySem.W.Fast.te4331770382165503261:p7=PySem.W.Fast.tw4331770382165503261:=rfl
theorem twins:(λ(_:runL=runL/\runR=runR)=>true) ⟨rfl,rfl⟩=true:=by k_qdec
theorem run_eq:∀ (w:ü) (os:Wj),PySem.W.Fast.tw14075725262101462980 w os=PySem.W.Fast.tw18139657281711212703 w:=λw os=>by kernel_rfl
theorem left:PySem.W.LeftO p7 vq loose (λ_=>true) asks.hook.obs asks.hook.val 20000:=Ft (by kernel_rfl) rfl (λ_=>by kernel_rfl) λw os =>
 (congrFun (congrFun PySem.W.Fast.te14075725262101462980 w) os).trans ((run_eq w os).trans (congrFun PySem.W.Fast.te18139657281711212703 w).symm)
end K3
open PySem PySem.W PyProof.Rows
set_option maxRecDepth 100000 in
set_option maxHeartbeats 0 in
theorem PySem.Challenge.cw_tiechances_k62_whole_bounds_holds : PySem.Challenge.rw_tiechances_k62_whole_bounds.Holds := by
 w_on;o_law
 refine holds_open (q:=K3.vq) (loose:=K3.loose) (Xt:=λ_=>true) (XP:=λ_ _=>True) (Yf:=K3.asks.hook.obs) (Ya:=K3.asks.hook.val) (YP:=K3.asks.hook.says) K3.left K3.asks.hook.of K3.asks.hook.keeps (λ_ _=>trivial) (λ_ _ _ _ _=>trivial) (by rfl) (by rfl) (by rfl) (λs _=>recFacts_of rfl) rfl (by first | assumption | decide +kernel) (by decide +kernel) ⟨rfl,rfl,rfl,rfl,rfl,by decide +kernel⟩ ?hw ?hc
 case hw=>w_witness2
 case hc=>exact Q.CJ (l:=Xx) (n:=63) (k:=40) (x:="_law_script") rfl (-0) rfl ⟨rfl,by decide,by decide⟩ (Q.Fx (k:=37) (iL:=59) K3.ok K3.bd rfl rfl rfl K3.pure)