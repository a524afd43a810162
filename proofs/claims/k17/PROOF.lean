import PyProof.Rows.All
import Wide.All
import OpenK.AllK
import Wide.FinOn
import Lean
import PyProof.EqAt
import PyProof.EqKinds
import PyProof.TupleCall
import KE.KSortKey
import PySem.Challenge.RW_ownroom_k17_all_free_at_the_end
inductive y7 {α β:Type}(p:α->β->Prop):Prop
 |mk (x0:α) (x1:β) (_:p x0 x1):y7 p
inductive Gm {α β γ:Type}(p:α->β->γ->Prop):Prop
 |mk (x0:α) (x1:β) (x2:γ) (_:p x0 x1 x2):Gm p
inductive Ia {α β γ δ:Type}(p:α->β->γ->δ->Prop):Prop
 |mk (x0:α) (x1:β) (x2:γ) (x3:δ) (_:p x0 x1 x2 x3):Ia p
inductive BF {α β γ δ ε:Type}(p:α->β->γ->δ->ε->Prop):Prop
 |mk (x0:α) (x1:β) (x2:γ) (x3:δ) (x4:ε) (_:p x0 x1 x2 x3 x4):BF p
inductive GV {α β γ δ ε ζ:Type}(p:α->β->γ->δ->ε->ζ->Prop):Prop
 |mk (x0:α) (x1:β) (x2:γ) (x3:δ) (x4:ε) (x5:ζ) (_:p x0 x1 x2 x3 x4 x5):GV p
inductive rF (A0 A1 A2:Prop):Prop
 |mk (_:A0) (_:A1) (_:A2):rF A0 A1 A2
inductive Fq (A0 A1 A2 A3:Prop):Prop
 |mk (_:A0) (_:A1) (_:A2) (_:A3):Fq A0 A1 A2 A3
inductive Ef (A0 A1 A2 A3 A4:Prop):Prop
 |mk (_:A0) (_:A1) (_:A2) (_:A3) (_:A4):Ef A0 A1 A2 A3 A4
inductive yk (A0 A1 A2 A3 A4 A5:Prop):Prop
 |mk (_:A0) (_:A1) (_:A2) (_:A3) (_:A4) (_:A5):yk A0 A1 A2 A3 A4 A5
inductive Ic (A0 A1 A2 A3 A4 A5 A6:Prop):Prop
 |mk (_:A0) (_:A1) (_:A2) (_:A3) (_:A4) (_:A5) (_:A6):Ic A0 A1 A2 A3 A4 A5 A6
inductive HQ (A0 A1 A2 A3 A4 A5 A6 A7:Prop):Prop
 |mk (_:A0) (_:A1) (_:A2) (_:A3) (_:A4) (_:A5) (_:A6) (_:A7):HQ A0 A1 A2 A3 A4 A5 A6 A7
inductive Gd (A0 A1 A2 A3 A4 A5 A6 A7 A8 A9 A10:Prop):Prop
 |mk (_:A0) (_:A1) (_:A2) (_:A3) (_:A4) (_:A5) (_:A6) (_:A7) (_:A8) (_:A9) (_:A10):Gd A0 A1 A2 A3 A4 A5 A6 A7 A8 A9 A10
inductive Hj (A0 A1 A2 A3 A4 A5 A6 A7 A8 A9 A10 A11 A12:Prop):Prop
 |mk (_:A0) (_:A1) (_:A2) (_:A3) (_:A4) (_:A5) (_:A6) (_:A7) (_:A8) (_:A9) (_:A10) (_:A11) (_:A12):Hj A0 A1 A2 A3 A4 A5 A6 A7 A8 A9 A10 A11 A12
theorem cq {α G I:Sort _}{f:α->G->I}(a:α) (b:G):f a b=f a b:=rfl
theorem ur:1<=PySem.sizeLine:=by(decide)
theorem fE:2<=PySem.sizeLine:=by(decide)
theorem FG:3<=PySem.sizeLine:=by(decide)
theorem Aj:4<=PySem.sizeLine:=by(decide)
theorem Jl:5<=PySem.sizeLine:=by(decide)
theorem F7:(0:Int)<2:=by(decide)
theorem DB:(0:Int)<3:=by(decide)
theorem Jq:(0:Int)<4:=by(decide)
theorem nV:(0:Int)<8:=by(decide)
set_option compiler.extract_closed false
set_option Elab.async false
set_option linter.all false
set_option tactic.hygienic false
set_option maxRecDepth 100000
open PySem.W (Frag)
set_option maxHeartbeats 0
local macro_rules | `(tactic| omega) => `(tactic| lia)
theorem aq {p:Prop}(h:p:=by decide +kernel):p:=h
theorem av {p:Prop}(h:p:=by decide):p:=h
theorem af {p:Prop}(h:p:=by omega):p:=h
open PySem.W (instObj lookIn handedIn isFn plainOver takerIn makesIn emptyDict kitx_list kitx_tuple kitx_dict callWith_K0 KdlSrc kdu_collect kdl_dict kla_fn codeHdIn codeHd_of_K)
open List (replicate all_cons foldl map_take filter)
open Nat (le_refl)
open Option (getD_none bind_some isNone)
open Array (toList)
open PySem
open _root_.List renaming getElem?_eq_some_iff->j1,mem_singleton->kQ,length_map->nq,mem_append->pa,size_toArray->qj,mem_map->rk,getElem?_map->wh,mem_of_getElem?->DD,length_append->E2,mem_cons->E3,getElem?_eq_getElem->IF,not_mem_nil->Km,length_replicate->Kn,length_cons->Kp,map_append->Kr,length_take->Kv,range->Kx,nodup_cons->Ky,mem_cons_of_mem->KD,all_eq_true->KH,mem_append_right->KL,pairwise_append->KR,append_assoc->KU,mem_cons_self->KW,getElem?_set_ne->KY,mem_range->KZ,length_eq_zero_iff->K8,length_set->K9,getElem?_set_self->La,length_range->Lg,getElem?_append_right->Lj,take_of_length_le->Ll,getElem?_append_left->Lm,mem_append_left->Lp,length_singleton->Lr,mem_reverse->Ls,take_add_one->Lu,map_map->Lx,idxOf_lt_length_iff->LA,take_length->LC,length->LI,getElem_mem->LK,pairwise_iff_getElem->LL,getD_eq_getElem?_getD->LN,take_append_drop->LQ,count_pos_iff->LR,map_cons->LU,length_drop->LV,filter_cons->LW,map_congr_left->LX,getElem?_eq_none->L3,replicate_succ->L6,getElem_of_mem->Mc,extract_eq_take_drop->Mf,lookup->Mi,flatten_cons->Ml,drop_eq_getElem_cons->Mm,nodup_nil->Ms,getElem?_replicate->Mv,drop_eq_nil_of_le->MD,mem_filter->ME,sum_cons->MJ,erase_of_not_mem->MQ,pairwise_map->MW,perm_ext_iff_of_nodup->MZ,take_sublist->Nb,perm_append_comm->Nf,length_filter_le->Ng,length_pos_iff->Ni,getElem_take->NH,reverse_append->NJ,ext_getElem?->NK,nodup_append->NN,getElem?_range->NP,eraseIdxIfInBounds_toArray->NQ,find?_cons->NU,mem_flatMap->NW,map_replicate->N2,mem_of_mem_take->N7,mem_of_mem_drop->N8,getElem?_of_mem->Oa,filterMap_cons->Oe,flatMap_append->Of,drop_sublist->Oj,mem_filterMap->Ou,getElem_idxOf->OB,filter_eq_self->OE,mem_or_eq_of_mem_set->OI,getElem?_zip_eq_some->OJ,getElem?_take->OZ,getElem?_drop->O0,any_eq_true->Pu,nodup_range->Py,append_nil->PJ,count_cons_of_ne->Qa,any_cons->Qf,mem_iff_getElem->Qh,reverse_reverse->Qj,take_zero->Qr,range_succ->QJ,count_eq_zero->QK,mem_replicate->QL,any_eq_false->QU,getElem_drop->Q3,set_set->Ra,map_fst_zip->Rf,getElem_set->Ri,nil_append->Rq,filter_map->Ru,map_nil->Rx,of_mem_zip->RL,drop_drop->RT,drop_zero->RU,length_nil->RW,take_succ->Sd,map_drop->Sq,all_map->SF,map_set->SG,set->SW,map_id->SY,map->S0
open _root_.PySem renaming Shared->mu,wpAny_bind->oR,FuncData->rn,Program->ti,wpAny_pure->By,sizeLine_eq->BY,World->Kl,Around->KA,Expr->KJ,Stmt->KO,mainGlobals->KP,bootBuiltins->KS,Spec->Li,compareOp->LB,wpAny_truthy_bool->LF,mem_of_lookup->LH,wpAny_holding->LS,wpAny_Call_Name_kw->L4,tupleKind_room_in1->Mb,wpAny_passesOwn->Mg,wpAny_newObj_type->Mh,sysModules->Mo,Builtin->Mq,cLine->Mt,call_meetsIn->MC,attributeBase->MN,wpAny_rule->MX,wpAny_call_entry->Nc,Pos->Nj,behindInMarks->Nk,wpAny_mono->Nv,call_meets->Nx,keywordEach->Nz,sliceBounds->NA,wpAny_Call_method->NL,wpAny_standAt->NX,getItem->NY,Scope->N3,binaryOp->N4,wpAny_execs_nil->Ob,codeAny->Oh,tupleKind->Om,wpAny_Constant_int->Oo,assignEach->Oq,recursionLimit->Ox,holding->OM,wpAny_assign_Name->ON,wpAny_pyIter_list->OP,foldedSetIterable->OQ,seqIndex_of->OR,wpAny_newList->O8,wpAny_comprehension_free->Pa,swapsWith->Pe,getMethod->Ph,bindArgs->Pj,backToKw->Pk,wpAny_callSpecial?_slot->Pl,wpAny_Call_method0_late->Pr,wpAny_Name->PB,wpAny_pyNext_range_end->PD,wpAny_pyIter_rangeiter->PF,codeAny_mono->PK,IsPart->PM,wpAny_typeOf->PN,wpAny_getItem_list_neg->PR,valueAt->PY,letOwnedTupleGo->P0,wpAny_isTrue_Compare1->P2,wpAny_loadName_local->Qb,IsRangeIter->Qc,wpAny_BinOp->Qd,subscripted->Qe,wpAny_newFunctionEnv->Ql,lookup_relabel_local->Qm,Keyword->Qo,Arguments->Qp,callerA->Qq,wpAny_loadName_free->Qs,evalArgs_none->Qv,assignInOrder->Qw,assign->QB,wpAny_pyIter_range->QC,wpAny_call->QD,Within->QM,GenState->QO,Sem->QP,standAt->QR,Operator->QS,BindsTo->QY,wpAny_sequenceKey->Q0,slot_list_getitem->Q1,wpAny_pyIter_enum->Q9,wpAny_execs_cons->Rb,wpAny_pyIter_zip->Rg,wpAny_field->Rl,atKey->Rp,builtinsNs->RC,bindName->RD,callWith->RH,bindL->RJ,bindC->RK,typeIs_int->RP,call->RQ,checkCount->R0,compEnvC->Sa,Env->Ss,cellsFrom->Sw,seqIndex?->Sx,setItem->Sy,rawInt->Sz,Tok->SK,CmpOp->SM
open _root_.PyProof.Rows renaming wpS_bind->qi,wpS_pure->ql,arrOf->E5,Keyed->HC,pendingOf->Kz,SortSt->K5,slot_tuple_getitem->K6,wpS_forRange->K7,callWith_type1->Lk,wpS_mono->LM,IntsAre->LY,numOf->Mu,wpS_modify->Mw,oneType'->Nm,failedOf->Nn,wpS_get->NF,assignInOrder_cons->Ot,AllBare->OL,envOfC->OY,wpS_lift->Pm,subscriptTail_builtinR->PQ,pairsOf->PV,pairsOf_size->PX,entry_list_sort->P1,slot_list_sort->Qk,entry_tuple_getitem->Qt,subscriptTail->Qx,listUpdate_at->Qy,args_tuple_getitem->QF,assignInOrder_nil->QT,plain_sorted->Q6,entry_sorted->Q7,seqEpoch_at->Rn,kind_sorted->Ro,iadd_int->Rw,K_congr->Rz,boot_range->RE,Subscript_->RO,mirror->RS,size_push'->RY,isInt_at->Sb,wpS->SJ,stC->SS,isInt->SV
open _root_.Ne renaming symm->qw
open _root_.Option.some renaming inj->ro
open _root_.Nat renaming le_refl->sS,le_trans->Ko,lt_of_lt_of_le->Kw,zero_le->KI,ne_of_lt->KN,le_of_not_lt->Lb,sub_succ_lt_self->Lf,lt_of_le_of_ne->Lh,lt_of_lt_of_eq->Ln,le_of_add_right_le->LZ,add_lt_of_lt_sub'->Me,pred_eq_succ_iff->Mn,le_sub_iff_add_le'->Mz,one_le_iff_ne_zero->MB,lt_irrefl->ML,eq_of_lt_succ_of_not_lt->MV,lt_of_le_of_lt->MY,add_le_add_iff_left->NB,le_of_lt_succ->NG,lt_succ_self->NS,le_add_right->NV,add_sub_of_le->NZ,lt_succ_of_lt->N1,add_le_add_right->N5,le_succ->Oi,min_eq_right->Ol,sub_lt_left_of_lt_add->OG,lt_of_succ_lt->OU,le_of_succ_le->OV,min_eq_left->OW,ne_of_gt->Pf,le_add_right_of_le->PU,eq_zero_of_not_pos->PZ,add_sub_self_left->P5,le_sub_of_add_le'->P6,le_of_ble_eq_true->P7,sub_one_lt_of_le->Qi,add_le_add_left->Qu,sub_add_cancel->QG,le_of_lt->QN,le_of_eq->QV,lt_trans->Q2,succ_le_of_lt->Q4,zero_lt_of_lt->Q5,sub_lt_of_lt->Rc,zero_add->RV,add_le_add->RX,sub_le->SE
open _root_.Option renaming map_eq_some_iff->vr,isSome_iff_exists->Nl,bind_some->NC,map_eq_none_iff->NM,isSome_map->OC,getD_some->Rh,none->SR
open _root_.Sum renaming inl->vu,inr->Ku
open _root_.Bool renaming false_ne_true->DO,false_eq_true->LP,eq_iff_iff->MF,and_eq_true->Nd,and_eq_true_iff->N9,and_false->Qg,or_false->Sn
open _root_.PySem.W renaming Frag->Kq,mg_none_of->KG,kitOne->Nw,kia_one->ND,tabObj->NO,OpenLaw->N6,findIn->Ow,mg_of->Pz,keepIn->PH,cellsFrom_some->PL,methodCall_KW->P4,codeHdIn->Qn,plainGet_of->Rk,WalkO->Ry,kla_obj->RB,plainGet->RF,callWith_K->RG,fnOf->RM,codeIn->RN,methodObj->Sr,hasDictIn->Sv,nsIn->SH
open _root_.PySem.PassesOwn renaming never->Kt
open _root_.Int renaming emod_lt_of_pos->KQ,le_of_lt->K0,emod_nonneg->Ld,le_refl->Lo,le_trans->L0,toNat_natCast->L1,toNat->Na,lt_of_le_of_lt->Ny,toNat_of_nonneg->Og,fmod_eq_emod_of_nonneg->Ov,lt_of_lt_of_le->Oy,natCast_add->Rv,ofNat_lt->SD
open _root_.PySem.F renaming plainAttrs_list->Lq,slot_list_extend->Mr,plainAttrs_dict->MG,slot_dict_get->Np,slot_dict_itemiterator_iter->Nq,slot_list_append->Nt,type_list_append->Nu,slot_dict_setdefault->Od,entry_dict_get->OD,plain_extend_loop->OH,slot_dict_values->Pc,type_list_remove->Pd,slot_list_index->Po,args_dict_get_2->Pp,args_dict_get_3->Pq,slot_dict_items->Pt,slot_list_remove->Pw,type_list_extend->Px,slot_dict_pop->P8,type_dict_get->P9
open _root_.Array renaming length_toList->Ly,toList_append->Lz,getElem?_toList->LJ,perm_iff_toList_perm->Ma,toList_extract->Oz,toList_reverse->OA,toList_push->OT,size_push->Pn,size_map->RZ
open _root_.True renaming intro->LG
open _root_.False renaming elim->LO
open _root_.Iff renaming mpr->Mj,mp->SA
open _root_.PySem.SeqAt renaming EqAt->Mp
open _root_.List.Perm renaming append_right->My,append_left->MO,trans->Oc
open _root_.Eq renaming symm->MU
open _root_.Classical renaming byContradiction->Nh
open _root_.List.Nodup renaming mem_erase_iff->Nr
open _root_.PySem.Data renaming cell->NR,fields->OO,seq->SU
open _root_.PySem.IsL renaming update->NT
open _root_.List.Pairwise renaming nil->OS,map->Tf
open _root_.Prod.mk renaming inj->OX
open _root_.PySem.SeqAt.RcNeAt renaming lists->Pb,lists_lengths->Q8,tuples->Si
open _root_.PySem.SeqAt.EqAt renaming int_str->Qz,str_int->QA,of_refs->QI
open _root_.PyProof.Rows.SortSt renaming mk'->QH
open _root_.PySem.Around renaming under->QW
open _root_.PySem.Code renaming isFrame->QX,frames->SQ
open _root_.Prod renaming ext->QZ
open _root_.Sum.inl renaming inj->Rj
open _root_.Array.Perm renaming refl->Rr
open _root_.ForInStep renaming yield->Rt
open _root_.PySem.EqMixed renaming eq_bool_str->Se,eq_str_bool->Sf,ne_bool_str->Sg,ne_str_bool->Sh,eq_int_str->Sj,eq_str_int->Sk,ne_int_str->Sl,ne_str_int->Sm
open _root_.PyProof.Rows.LSm renaming kept_iter->So
open _root_.PyProof.Rows.IsTup renaming new->Su
open _root_.PySem.Walks renaming range->SN,list->Te
open _root_.PySem.IsRange renaming new->SO
open _root_.PySem.W.Looks renaming here->S9
open _root_.PySem.W.WShape renaming has->Ta
open _root_.Or renaming inl->Tc,inr->Td
theorem Tg {c:Prop}{h:Decidable c}(n:¬c){α:Sort u}{t e:α}:ite c t e=e:=if_neg n
theorem Th {c:Prop}{h:Decidable c}(n:c){α:Sort u}{t e:α}:ite c t e=t:=if_pos n
namespace L2
open PySem PySem.Spec PyProof.Rows
abbrev Key:=Sum Int Str
def mZ:Key->Value->Bool
 |.inl k,v=>Value.isInt k v
 |.inr x,v=>Value.isStrOf x v
def Jw (w:Kl):Key->Int
 |.inl k=>hashInt k
 |.inr x=>hashStr w x
theorem ck:∀{k:Key}{v:Value},mZ k v=true->(∃i t,k=vu i/\v=Value.int i t)\/(∃x t,k=Ku x/\v=Value.str x t)
 |.inl i,v,h=>by
  obtain⟨t,e⟩:=Value.isInt_shape (k:=i) (v:=v) h;exact .inl ⟨i,t,rfl,e⟩
 |.inr x,v,h=>by
  obtain⟨t,e⟩:=Value.isStrOf_shape (x:=x) (v:=v) h;exact .inr ⟨x,t,rfl,e⟩
theorem yd (i:Int) (t:SK):mZ (.inl i) (.int i t)=true:=by simp[mZ,Value.isInt]
theorem yA (x:Str) (t:SK):mZ (.inr x) (.str x t)=true:=by simp[mZ,Value.isStrOf]
theorem EN (a b:Int):decide ((vu a:Key)=vu b)=(a==b):=by
 by_cases e:a=b
 .subst e;simp
 .have h:¬ (vu a:Key)=vu b:=λq=>e (Rj q);rw[decide_eq_false h];exact(beq_eq_false_iff_ne.mpr e).symm
theorem EE (a b:Str):decide ((Ku a:Key)=Ku b)=decide (a=b):=by
 by_cases e:a=b
 .subst e;simp
 .have h:¬ (Ku a:Key)=Ku b:=λq=>e (Sum.inr.inj q);rw[decide_eq_false h,decide_eq_false e]
theorem Fd (a:Int) (b:Str):decide ((vu a:Key)=Ku b)=false:=decide_eq_false (λq=>nomatch q)
theorem ED (a:Str) (b:Int):decide ((Ku a:Key)=vu b)=false:=decide_eq_false (λq=>nomatch q)
def br (prog:ti) (w:Kl):PySem.KeyKind prog w Key where
 is:=mZ
 hash:=Jw w
 inj:=λv a b N J=>by
  rcases ck N with⟨i,t,rfl,rfl⟩|⟨x,t,rfl,rfl⟩
  .rcases ck J with⟨j,u,rfl,e⟩|⟨y,u,rfl,e⟩
   .injection e with G _;rw[G]
   .exact nomatch e
  .rcases ck J with⟨j,u,rfl,e⟩|⟨y,u,rfl,e⟩
   .exact nomatch e
   .injection e with G _;rw[G]
 byValue:=λk v h=>by
  rcases ck h with⟨i,t,rfl,rfl⟩|⟨x,t,rfl,rfl⟩<;>rfl
 pyHash:=λI h=>by
  rcases ck I with⟨i,t,rfl,rfl⟩|⟨x,t,rfl,rfl⟩
  .exact wpAny_pyHash_int h
  .exact wpAny_pyHash_str h
 eqBool:=λL I h=>by
  rcases ck L with⟨i,t,rfl,rfl⟩|⟨x,t,rfl,rfl⟩
  .rcases ck I with⟨j,u,rfl,rfl⟩|⟨y,u,rfl,rfl⟩
   .rw[EN]at h;exact wpAny_eqBool_int h
   .rw[Fd]at h;exact Qz i t y u _ _ _ _ h
  .rcases ck I with⟨j,u,rfl,rfl⟩|⟨y,u,rfl,rfl⟩
   .rw[ED]at h;exact QA x t j u _ _ _ _ h
   .rw[EE]at h;exact wpAny_eqBool_str h
 «strs» := λk x t v h=>by
  rcases ck h with⟨i,u,rfl,e⟩|⟨y,u,rfl,e⟩
  .exact nomatch e
  .injection e with G _;subst G;cases v<;>rfl
theorem tJ (prog:ti) (w:Kl) (i:Int) (t:SK):(br prog w).is (.inl i) (.int i t)=true:=yd i t
theorem sj (prog:ti) (w:Kl) (x:Str) (t:SK):(br prog w).is (.inr x) (.str x t)=true:=yA x t
inductive V where
 |non|bl (b:Bool)|int (i:Int)|str (x:Str)|byt (b:Array UInt8)|flt (b:UInt64)|ref (a:Addr)|ty (n:String)
 deriving DecidableEq
def RelV:V->Value->Prop
 |.non,u=>u=Value.none
 |.bl b,u=>u=Value.bool b
 |.int i,u=>∃t,u=Value.int i t
 |.str x,u=>∃t,u=Value.str x t
 |.byt b,u=>∃t,u=Value.bytes b t
 |.flt b,u=>∃t,u=Value.float b t
 |.ref a,u=>u=Value.ref a
 |.ty n,u=>u=Value.type n
abbrev Vals:List V->List Value->Prop:=Paired RelV
theorem Vals.length {xs:List V}{us:List Value}(r:Vals xs us):xs.length=us.length:=Paired.length r
theorem Vals.get:∀{xs:List V}{us:List Value}{i:Nat}{x:V},Vals xs us->xs[i]?=some x->∃u,us[i]?=some u/\RelV x u
 |_,_,_,_,.nil,e=>by simp at e
 |_,_,0,_,.cons r _,e=>by simp at e;subst e;exact⟨_,rfl,r⟩
 |_,_,i+1,x,.cons _ t,e=>by
  obtain⟨u,h1,h2⟩:=Vals.get (i:=i) (x:=x) t (by simpa using e);exact⟨u,by simpa using h1,h2⟩
theorem Vals.set {x:V}{u:Value}(r:RelV x u):∀{xs:List V}{us:List Value}(i:Nat),Vals xs us->Vals (xs.set i x) (us.set i u)
 |_,_,_,.nil=>.nil
 |_,_,0,.cons _ t=>.cons r t
 |_,_,i+1,.cons q t=>.cons q (Vals.set r i t)
theorem Vals.append:∀{xs ys:List V}{us ws:List Value},Vals xs us->Vals ys ws->Vals (xs++ys) (us++ws)
 |_,_,_,_,.nil,s=>s
 |_,_,_,_,.cons r t,s=>.cons r (Vals.append t s)
theorem Vals.take:∀{xs:List V}{us:List Value}(n:Nat),Vals xs us->Vals (xs.take n) (us.take n)
 |_,_,0,_=>.nil
 |_,_,_+1,.nil=>.nil
 |_,_,n+1,.cons r t=>.cons r (Vals.take n t)
theorem Vals.drop:∀{xs:List V}{us:List Value}(n:Nat),Vals xs us->Vals (xs.drop n) (us.drop n)
 |_,_,0,r=>r
 |_,_,_+1,.nil=>.nil
 |_,_,n+1,.cons _ t=>Vals.drop n t
def fM:Option V->Option Value->Prop
 |some v,some u=>RelV v u
 |none,none=>True
 |_,_=>False
def KV {κ:Type}:List (κ×V)->List (κ×Value)->Prop:=Paired λ(p:κ×V) (q:κ×Value)=>p.1=q.1/\RelV p.2 q.2
def kV:Key->V
 |.inl i=>.int i
 |.inr x=>.str x
inductive HO where
  |lst (xs:List V)
  |tup (xs:List V)
  |dK (kvs:List (Key×V))|dT (kvs:List (List Key×V))
  |set (S:Int->Bool) (n:Nat)
  |ins (C dx:Addr) (fs:List (Str×V))
  |own (x:Addr)
  |xd (fs:List (Str×V))
  |met (f x:Addr)
  |rng (lo hi:Int)
  |frz (o:Obj) (u:HO)
  |tbl (ps:Array Value)
  |ext (φ:Heap->Prop)
abbrev Hp:=Addr->Option HO
def upd (H:Hp) (a:Addr) (o:HO):Hp:=λb=>if b=a then some o else H b
theorem ae {H:Hp}{a:Addr}{o:HO}:upd H a o a=some o:=by unfold upd;rw[Th rfl]
theorem ah {H:Hp}{a b:Addr}{o:HO}(h:b≠a):upd H a o b=H b:=by unfold upd;rw[Tg h]
theorem cE {H:Hp}{a b:Addr}{o u:HO}(h:H a=some o) (h':H b=some u) (d:o≠u):a≠b:=by
 intro e;subst e;rw[h]at h';exact d (ro h')
theorem au {H:Hp}{a b:Addr}{o:HO}(h:H a=some o) (h':H b=none):a≠b:=by
 intro e;subst e;rw[h]at h';cases h'
section
variable (P:ti) (w:Kl)
def bS (H:Hp) (h:Heap) (a:Addr):HO->Prop
 |.lst xs=>xs.length<=sizeLine/\∃(its:List Value) (n:Nat),Vals xs its/\h.get? a=some { cls:=.type "list",data:=.seq its.toArray n }
 |.tup xs=>xs.length<=sizeLine/\∃its:List Value,Vals xs its/\IsTup h a its.toArray
 |.dK kvs=>kvs.length<=sizeLine/\(a==Mo)=false/\∃vs,KV kvs vs/\h.DictOf (br P w) a vs
 |.dT kvs=>kvs.length<=sizeLine/\(a==Mo)=false/\∃xs:List (List Key×Addr×Value),
   Paired (λ(p:List Key×V) (q:List Key×Addr×Value)=>p.1=q.1/\H q.2.1=some (.tup (p.1.map kV))/\RelV p.2 q.2.2) kvs xs /\
   ∃o es ep,h.get? a=some o/\o.ExactDict/\o.data=.dict es ep/\es.toList=xs.map (entryOfKey (Om (br P w)))/\(xs.map (·.1)).Nodup
 |.set S n=>h.SetOf (intKind P w) a S n
 |.ins C dx fs=>H dx=some (.own a)/\fs.length<=1000/\dx≠a/\h.get? a=some (instObj C dx) /\
   ∃mA,h.Ns1 dx mA/\(∀f,fM (fs.lookup f) (mA f))/\QM mA (fs.map (·.1))
 |.own _=>∃o,h.get? a=some o
 |.xd fs=>∃mA,h.Ns1 a mA/\∀f,fM (fs.lookup f) (mA f)
 |.rng lo hi=>∃t u v,h.get? a=some { cls:=.type "range",data:=.fields #[.int lo t,.int hi u,.int 1 v] }
 |.frz o u=>h.get? a=some o/\bS H h a u
 |.tbl ps=>h.get? a=some { cls:=.none,data:=.fields ps }
 |.met f x=>h.get? a=some (Sr (.ref f) (.ref x))
 |.ext G=>G h/\(∃o,h.get? a=some o)/\∀h1 h2:Heap, G h1->(∀o,h1.get? a=some o->h2.get? a=some o)->G h2
def iS (H:Hp) (h:Heap):Prop:=∀a o,H a=some o->bS P w H h a o
end
section
variable {P:ti}{w:Kl}{H H':Hp}{h h':Heap}{a:Addr}{o:HO}
theorem bS.lt (x:bS P w H h a o):a<h.objs.size:=by
 cases o with
 |lst xs=>obtain⟨_,_,_,_,e⟩:=x;exact Heap.lt_size e
 |tup xs=>obtain⟨_,_,_,p⟩:=x;exact p.lt
 |dK kvs=>obtain⟨_,_,_,_,o,_,_,e,_⟩:=x;exact Heap.lt_size e
 |dT kvs=>obtain⟨_,_,_,_,o,_,_,e,_⟩:=x;exact Heap.lt_size e
 |set S n=>obtain⟨o,_,_,_,e,_⟩:=x;exact Heap.lt_size e
 |ins C dx fs=>obtain⟨_,_,_,e,_⟩:=x;exact Heap.lt_size e
 |own y=>obtain⟨_,e⟩:=x;exact Heap.lt_size e
 |xd fs=>obtain⟨_,⟨_,_,_,e,_⟩,_⟩:=x;exact Heap.lt_size e
 |rng lo hi=>obtain⟨_,_,_,e⟩:=x;exact Heap.lt_size e
 |frz I u=>obtain⟨e,_⟩:=x;exact Heap.lt_size e
 |tbl ps=>exact Heap.lt_size (show h.get? a=some _ from x)
 |met f y=>exact Heap.lt_size (show h.get? a=some _ from x)
 |ext G=>obtain⟨_,⟨_,e⟩,_⟩:=x;exact Heap.lt_size e
theorem Paired.yo {α I:Type}{F G:α->I->Prop}:∀{l₁:List α}{l₂:List I},Paired F l₁ l₂->(∀a b,F a b->G a b)->Paired G l₁ l₂
 |_,_,.nil,_=>.nil
 |_,_,.cons r t,f=>.cons (f _ _ r) (Paired.yo t f)
theorem bS.lQ (x:bS P w H h a o) (k:∀b u,(b=a\/H b=some (.own a))->h.get? b=some u->h'.get? b=some u)
  (O:∀b,H b=some (.own a)->H' b=some (.own a)) (N:∀b xs,H b=some (.tup xs)->H' b=some (.tup xs)):bS P w H' h' a o:=by
 induction o with
 |lst xs=>obtain⟨z,its,n,r,e⟩:=x;exact⟨z,its,n,r,k _ _ (.inl rfl) e⟩
 |tup xs=>obtain⟨z,its,r,G,e,c⟩:=x;exact⟨z,its,r,G,k _ _ (.inl rfl) e,c⟩
 |dK kvs=>obtain⟨z,y,vs,r,G,es,ep,e,c⟩:=x;exact⟨z,y,vs,r,G,es,ep,k _ _ (.inl rfl) e,c⟩
 |dT kvs =>
  obtain⟨z,y,xs,r,G,es,ep,e,c⟩:=x;exact⟨z,y,xs,Paired.yo r λp q z=>⟨z.1,N _ _ z.2.1,z.2.2⟩,G,es,ep,k _ _ (.inl rfl) e,c⟩
 |set S n=>obtain⟨G,es,ep,t,e,c⟩:=x;exact⟨G,es,ep,t,k _ _ (.inl rfl) e,c⟩
 |ins C dx fs =>
  obtain⟨d,z,L,e,mA,⟨od,es,ep,J,c⟩,r⟩:=x;exact⟨O _ d,z,L,k _ _ (.inl rfl) e,mA,⟨od,es,ep,k _ _ (.inr d) J,c⟩,r⟩
 |own y=>obtain⟨G,e⟩:=x;exact⟨G,k _ _ (.inl rfl) e⟩
 |xd fs=>obtain⟨mA,⟨od,es,ep,e,c⟩,r⟩:=x;exact⟨mA,⟨od,es,ep,k _ _ (.inl rfl) e,c⟩,r⟩
 |rng lo hi=>obtain⟨t,u,v,e⟩:=x;exact⟨t,u,v,k _ _ (.inl rfl) e⟩
 |frz G u I=>obtain⟨e,q⟩:=x;exact⟨k _ _ (.inl rfl) e,I q⟩
 |tbl ps =>
  have e:h.get? a=some { cls:=.none,data:=.fields ps }:=x;show h'.get? a=some { cls:=.none,data:=.fields ps };exact k a _ (.inl rfl) e
 |met f y =>
  have e:h.get? a=some (Sr (.ref f) (.ref y)):=x;show h'.get? a=some (Sr (.ref f) (.ref y));exact k a _ (.inl rfl) e
 |ext R=>obtain⟨p,⟨o,e⟩,st⟩:=x;exact⟨st _ _ p λo q=>k _ _ (.inl rfl) q,⟨o,k _ _ (.inl rfl) e⟩,st⟩
theorem iS.lt (x:iS P w H h) (e:H a=some o):a<h.objs.size:=(x a o e).lt
theorem iS.fresh (x:iS P w H h) (e:h.objs.size<=a):H a=none:=by
 cases q:H a with
 |none=>rfl
 |some u=>exact absurd (Kw (x.lt q) e) (ML _)
theorem iS.kept (x:iS P w H h) (k:∀b u,h.get? b=some u->h'.get? b=some u):iS P w H h':=λa o e =>
 (x a o e).lQ (λb u _ q=>k b u q) (λ_ q=>q) λ_ _ q=>q
theorem iS.laid (x:iS P w H h) (k:∀b u,h.get? b=some u->h'.get? b=some u) (J:h.objs.size<=a) (new:bS P w (upd H a o) h' a o):iS P w (upd H a o) h':=λb u e=>by
 have I:=x.fresh J;by_cases G:b=a
 .subst G;rw[ae]at e;cases e;exact new
 .rw[ah G]at e;exact(x b u e).lQ (λc v _ q=>k c v q) (λc q=>by rw[ah (au q I)];exact q) λc xs q=>by rw[ah (au q I)];exact q
end
def Rd (H:Hp) (a:Addr) (u:HO):Prop:=H a=some u\/∃o,H a=some (.frz o u)
theorem Rd.ok {P:ti}{w:Kl}{H:Hp}{h:Heap}{a:Addr}{u:HO}(r:Rd H a u) (x:iS P w H h):bS P w H h a u:=by
 rcases r with r|⟨o,r⟩
 .exact x a u r
 .obtain⟨_,q⟩:=x a _ r;exact q
def FR:Option HO->Prop
 |some (.lst _)=>True
 |some (.dK _)=>True
 |some (.dT _)=>True
 |some (.set _ _)=>True
 |some (.ins _ _ _)=>True
 |some (.ext _)=>True
 |_=>False
section
variable {P:ti}{w:Kl}{H:Hp}{h h':Heap}{x e:Addr}{o':HO}
theorem iS.write (ok:iS P w H h) (G:FR (H x)) (O:e=x\/H e=some (.own x)) (k:∀b u,b≠e->h.get? b=some u->h'.get? b=some u) (U:∃u,h'.get? e=some u)
  (new:bS P w (upd H x o') h' x o'):iS P w (upd H x o') h':=λb u q=>by
 have N:∀c y,H c=some (.own y)->c≠x:=λc y r z=>(by subst z;rw[r]at G;exact G);have S:∀c xs,H c=some (.tup xs)->c≠x:=λc xs r z=>(by subst z;rw[r]at G;exact G);by_cases J:b=x
 .subst J;rw[ae]at q;cases q;exact new
 .rw[ah J]at q;by_cases I:b=e
  .have R:H b=some (.own x):=by
    rcases O with z|z
    .exact absurd (I.trans z) J
    .rw[I];exact z
   rw[q]at R;cases R;obtain⟨v,Y⟩:=U;exact⟨v,by rw[I];exact Y⟩
  .refine(ok b u q).lQ (λc v L r=>k c v ?_ r) (λc r=>by rw[ah (N c b r)];exact r) λc xs r=>(by rw[ah (S c xs r)];exact r);rcases L with rfl|L
   .exact I
   .rintro rfl;rcases O with z|z
    .exact N c b L z
    .rw[L]at z;cases z;exact J rfl
end
structure Un (fs ex:List Addr) (H H':Hp) (h h':Heap):Prop where
 keep:∀b o,h.get? b=some o->H b=none->b∉fs->b∉ex->h'.get? b=some o
 slot:∀b o,h.get? b=some o->H b=none->b∈fs->b∉ex->∃sl,h'.get? b=some { o with slots:=sl }
 free:∀b o,h.get? b=some o->H b=none->b∉ex->H' b=none
 there:∀b o,h.get? b=some o->b∉ex->∃o',h'.get? b=some o'
 qX:∀b xs,H b=some (.tup xs)->H' b=some (.tup xs)
 oq:∀b o u,H b=some (.frz o u)->H' b=some (.frz o u)
 oe:∀b ps,H b=some (.tbl ps)->∃more,H' b=some (.tbl (ps++more))
section
variable {fs fs' ex ex':List Addr}{H H1 H2:Hp}{h h1 h2 h':Heap}{a x e:Addr}{o:HO}
theorem Un.any (u:Un fs ex H H1 h h1) {b:Addr}{G:Obj}(q:h.get? b=some G) (n:H b=none) (J:b∉ex):∃sl,h1.get? b=some { G with slots:=sl }:=by
 by_cases I:b∈fs
 .exact u.slot b G q n I J
 .exact⟨G.slots,u.keep b G q n I J⟩
theorem Un.kept (k:∀b u,h.get? b=some u->h'.get? b=some u):Un fs ex H H h h' :=
 ⟨λb G q _ _ _=>k b G q,λb G q _ _ _=>⟨G.slots,k b G q⟩,λ_ _ _ n _=>n,λb G q _=>⟨G,k b G q⟩,λ_ _ q=>q,λ_ _ _ q=>q,λ_ ps q=>⟨#[],by rw[q];simp⟩⟩
theorem Un.refl:Un fs ex H H h h:=Un.kept λ_ _ q=>q
theorem Un.laid (k:∀b u,h.get? b=some u->h'.get? b=some u) (I:h.objs.size<=a) (G:H a=none):Un fs ex H (upd H a o) h h' where
 keep:=λb u q _ _ _=>k b u q
 slot:=λb u q _ _ _=>⟨u.slots,k b u q⟩
 free:=λb u q n _=>by rw[ah (KN (Kw (Heap.lt_size q) I))];exact n
 there:=λb u q _=>⟨u,k b u q⟩
 qX:=λb xs q=>by rw[ah (au q G)];exact q
 oq:=λb u xs q=>by rw[ah (au q G)];exact q
 oe:=λb ps q=>⟨#[],by rw[ah (au q G),q];simp⟩
theorem Un.write (G:FR (H x)) (R:e=x\/H e=some (.own x)) (k:∀b u,b≠e->h.get? b=some u->h'.get? b=some u) (O:∃u,h'.get? e=some u):Un fs ex H (upd H x o) h h':=by
 have N:∀b,H b=none->b≠x:=λb n z=>(by subst z;rw[n]at G;exact G);have L:∀b,H b=none->b≠e:=λb n z=>by
  subst z;rcases R with r|r
  .exact N b n r
  .rw[n]at r;cases r
 have I:∀b u,H b=some u->¬ FR (some u)->b≠x:=λb u q nm z=>(by subst z;rw[q]at G;exact nm G);refine⟨λb u q n _ _=>k b u (L b n) q,λb u q n _ _=>⟨u.slots,k b u (L b n) q⟩,λb u q n _=>by rw[ah (N b n)];exact n,λb u q _=>?_,
  λb xs q=>by rw[ah (I b _ q λz=>z)];exact q,λb u xs q=>by rw[ah (I b _ q λz=>z)];exact q,λb ps q=>⟨#[],by rw[ah (I b _ q λz=>z),q];simp⟩⟩
 by_cases J:b=e
 .subst J;exact O
 .exact⟨u,k b u J q⟩
end
def HY (h:Heap) (H:Hp):List Addr:=(Kx h.objs.size).filter λa=>(H a).isSome
def ou (h:Heap) (H:Hp):Heap:=PySem.W.hideAll h (HY h H)
theorem xX (h:Heap) (H:Hp):(ou h H).objs.size=h.objs.size:=PySem.W.hideAll_size _ _
theorem An {h:Heap}{H:Hp}{b:Addr}{o:Obj}(e:h.get? b=some o) (n:H b=none):(ou h H).get? b=some o :=
 PySem.W.hideAll_get _ e λG=>by
  have q:(H b).isSome=true:=(ME.mp G).2;rw[n]at q;simp at q
theorem B8 {h:Heap}{H:Hp}{b:Addr}{o:Obj}(e:(ou h H).get? b=some o):h.get? b=some o/\H b=none:=by
 have G:h.get? b=some o:=PySem.W.of_hideAll (HY h H) e;refine⟨G,?_⟩;cases q:H b with
 |none=>rfl
 |some x =>
  have I:b∈HY h H:=ME.mpr ⟨KZ.mpr (Heap.lt_size G),by simp[q]⟩;have z:(ou h H).get? b=none:=PySem.W.hideAll_none (HY h H) I;rw[z]at e;cases e
structure Mod (K:Kq) (mg:Str->Option Value) (base:Heap):Prop where
 HD:K.In base
 glob:base.Ns KP mg
 blt:∃mb,base.Ns RC mb/\∀x:Str,x ≠ "__name__" -> mb x=KS x
 nolimit:base.NoLimit
structure Cx where
 prog:ti
 w:Kl
 K:Kq
 mg:Str->Option Value
 base:Heap
 A:KA
 N:List Str
 s₀:mu
 H₀:Hp
 env:Ss
 outer:List Ss
 stack:List Ss
 ex:List Addr
 fn:Str->Bool
 calm:Bool
 pn:List (Addr×Obj)
 xe:Value->mu->Prop
def yY (l:List Ss):List Addr:=l.filterMap (·.frame)
abbrev Cx.fs (X:Cx):List Addr:=yY X.outer
def HW (G:N3) (x:Str):Prop:=G.names.lookup x=some .local\/G.names.lookup x=some .cell\/G.names.lookup x=some .free
def Loc (G:N3) (x:Str):Prop:=G.names.lookup x=some .local\/G.names.lookup x=some .cell
def Look (env:Ss) (h:Heap) (m:Str->Option Value) (x:Str) (u:Value):Prop :=
 (env.kindOf x=some .local/\m x=some u)\/((env.kindOf x=some .cell\/env.kindOf x=some .free)/\∃c,env.cells.lookup x=some c/\h.IsCell c (some u))
structure Cx.Ok (X:Cx):Prop where
 mod:Mod X.K X.mg X.base
 kind:X.env.scope.kind=.function
 glob:X.env.globals=KP
 blt:X.env.builtins=RC
 above:X.s₀.heap.objs.size<=X.env.locals
 inj:∀x y c,X.env.cells.lookup x=some c->X.env.cells.lookup y=some c->x=y
 has:∀x,(X.env.kindOf x=some .cell\/X.env.kindOf x=some .free)->∃c,X.env.cells.lookup x=some c
 Fv:∀x c,X.fn x=true->X.env.cells.lookup x=some c->X.s₀.heap.objs.size<=c
 hd:X.calm=true->X.A.handled=none
 frames:X.A.frames=some X.stack
 Ha:X.stack=X.outer\/(X.stack=X.env::X.outer/\X.env.frame=some X.env.locals)
 Ij:∀b∈X.ex,b≠X.env.locals/\∀x c,X.env.cells.lookup x=some c->c≠b
 bs:∀b o,X.base.get? b=some o->X.s₀.heap.get? b=some o/\X.H₀ b=none
 AE:X.base.objs.size<=X.s₀.heap.objs.size
 xR:∀b o,X.base.get? b=some o->b∉X.ex
 yN:∀b∈X.ex,b∉X.fs
 kg:X.s₀.heap.FunFrames X.base X.outer
 Dj:∀b∈X.fs,X.H₀ b=none
structure Inv (X:Cx) (pins:List (Addr×Obj)) (σ:List (Option V)) (H:Hp) (s:mu):Prop where
 ok:X.Ok
 os:s.os=X.s₀.os
 bare:OL s.gens
 base:Un X.fs X.ex X.H₀ H X.s₀.heap s.heap
 loc:∃m,s.heap.Ns X.env.locals m/\∀(i:Nat) (x:Str) (v:V),X.N[i]?=some x->σ[i]?=some (some v)->HW X.env.scope x->∃u,RelV v u/\Look X.env s.heap m x u
 cell:∀x c,X.env.cells.lookup x=some c->∃v,s.heap.IsCell c v
 free:H X.env.locals=none
 gK:∀x c,X.env.cells.lookup x=some c->H c=none
 pin:∀p∈X.pn++pins,s.heap.get? p.1=some p.2/\H p.1=none/\p.1≠X.env.locals/\p.1∉X.fs/\∀v,p.2.data≠.cell v
 bE:iS X.prog X.w H s.heap
 len:σ.length=X.N.length
section
variable {X:Cx}{pins:List (Addr×Obj)}{σ:List (Option V)}{H H':Hp}{s:mu}{h':Heap}
theorem Cx.Ok.Jc (ok:X.Ok) {b:Addr}{o:Obj}(e:X.base.get? b=some o):b∉X.fs:=λG=>by
 have:=(ok.kg.mem G).1;rw[e]at this;cases this
theorem Inv.bs (I:Inv X pins σ H s):∀b o,X.base.get? b=some o->s.heap.get? b=some o/\H b=none:=λb o e =>
 ⟨I.base.keep b o (I.ok.bs b o e).1 (I.ok.bs b o e).2 (I.ok.Jc e) (I.ok.xR b o e),I.base.free b o (I.ok.bs b o e).1 (I.ok.bs b o e).2 (I.ok.xR b o e)⟩
theorem Inv.bk (I:Inv X pins σ H s):∀b o,X.base.get? b=some o->s.heap.get? b=some o:=λb o e=>(I.bs b o e).1
theorem Inv.mod (I:Inv X pins σ H s):Mod X.K X.mg X.base:=I.ok.mod
theorem Inv.jW (I:Inv X pins σ H s):X.K.In s.heap:=I.ok.mod.HD.keeps I.bk
theorem Inv.lt (I:Inv X pins σ H s):X.env.locals<s.heap.objs.size:=let ⟨_,G,_⟩:=I.loc;G.lt
theorem Inv.sz (I:Inv X pins σ H s):X.s₀.heap.objs.size<=s.heap.objs.size:=Ko I.ok.above (QN I.lt)
theorem Inv.Hg (I:Inv X pins σ H s) {a:Addr}(h:s.heap.objs.size<=a):a∉X.fs:=λG=>by
 obtain⟨_,o,J,_⟩:=I.ok.kg.mem G;exact absurd (Kw (Heap.lt_size J) (Ko I.sz h)) (ML _)
theorem Inv.Dv (I:Inv X pins σ H s):∀x c,X.env.cells.lookup x=some c->c≠X.env.locals:=λx c e z=>by
 obtain⟨v,o,G,hd⟩:=I.cell x c e;obtain⟨m,⟨o',es,ep,J,L,_⟩,_⟩:=I.loc;rw[z,J]at G;cases G;rw[L]at hd;cases hd
theorem Inv.kg (I:Inv X pins σ H s):s.heap.FunFrames X.base X.outer:=by
 have all:∀(l:List Ss),(∀b∈yY l,b∈X.fs)->X.s₀.heap.FunFrames X.base l->s.heap.FunFrames X.base l:=by
  intro l
  induction l with
  |nil=>intro _ _;trivial
  |cons env r R =>
   intro hs U;obtain⟨O,⟨L,o,N,S,Y,hd⟩,hr⟩:=U;have G:L∈X.fs:=hs L (by unfold yY;rw[Oe,N];exact KW);obtain⟨sl,e⟩:=I.base.slot L o Y (I.ok.Dj L G) G λz=>I.ok.yN L z G;exact⟨O,⟨L,_,N,S,e,hd⟩,R (λb J=>hs b (by unfold yY;rw[Oe,N];exact KD _ J)) hr⟩
 exact all X.outer (λ_ J=>J) I.ok.kg
theorem Inv.stack (I:Inv X pins σ H s):s.heap.FunFrames X.base X.stack:=by
 rcases I.ok.Ha with e|⟨e,J⟩
 .rw[e];exact I.kg
 .rw[e];obtain⟨m,G,_⟩:=I.loc;refine .cons (by rw[I.ok.kind];decide) J G ?_ I.kg;exact Heap.get?_none_of_le (Ko I.ok.AE I.ok.above)
theorem Inv.pI (I:Inv X pins σ H s):∀b∈yY X.stack,b∈X.env.locals::X.fs:=λb G=>by
 rcases I.ok.Ha with e|⟨e,J⟩
 .rw[e]at G;exact KD _ G
 .rw[e]at G;unfold yY at G;rw[Oe,J]at G;exact G
theorem Inv.xj (I:Inv X pins σ H s):∀b∈yY X.stack,H b=none:=λb G=>by
 rcases E3.mp (I.pI b G)with e|G
 .rw[e];exact I.free
 .obtain⟨_,o,J,_⟩:=I.ok.kg.mem G;exact I.base.free b o J (I.ok.Dj b G) λz=>I.ok.yN b z G
theorem Inv.step {g':Array QO}{t':Nat}{d':Drawn}{ch:List Addr}(I:Inv X pins σ H s)
  (S:∀b∈ch,(b∈X.ex\/X.s₀.heap.objs.size<=b)/\b≠X.env.locals/\(∀x c,X.env.cells.lookup x=some c->c≠b)/\∀p∈X.pn++pins,p.1≠b)
  (keep:∀b o,b≠X.env.locals->b∉X.fs->b∉ch->s.heap.get? b=some o->H b=none->h'.get? b=some o)
  (slot:∀b o,b≠X.env.locals->b∈X.fs->b∉ch->s.heap.get? b=some o->H b=none->∃sl,h'.get? b=some { o with slots:=sl }) (free:∀b o,b∉ch->s.heap.get? b=some o->H b=none->H' b=none)
  (there:∀b o,b∉ch->s.heap.get? b=some o->∃o',h'.get? b=some o')
  (qX:∀b xs,H b=some (.tup xs)->H' b=some (.tup xs)) (oq:∀b o u,H b=some (.frz o u)->H' b=some (.frz o u)) (oe:∀b ps,H b=some (.tbl ps)->∃ap,H' b=some (.tbl (ps++ap)))
  (ns:∀m,s.heap.Ns X.env.locals m->h'.Ns X.env.locals m) (bE:iS X.prog X.w H' h') (hg:OL g') :
  Inv X pins σ H' { s with heap:=h',gens:=g',drawn:=d',toks:=t' }:=by
 have ab:∀b o,X.s₀.heap.get? b=some o->b≠X.env.locals:=λb o e=>KN (Kw (Heap.lt_size e) I.ok.above);have U:∀b o,X.s₀.heap.get? b=some o->b∉X.ex->b∉ch:=λb o e G L=>by
  rcases(S b L).1 with z|z
  .exact G z
  .exact absurd (Kw (Heap.lt_size e) z) (ML _)
 have ac:∀x c,X.env.cells.lookup x=some c->∀v,s.heap.IsCell c v->h'.IsCell c v:=λx c e v ai=>by
  obtain⟨o,N,hd⟩:=ai;have R:c∉ch:=λz=>(S c z).2.2.1 x c e rfl;by_cases hc:c∈X.fs
  .obtain⟨sl,q⟩:=slot c o (I.Dv x c e) hc R N (I.gK x c e);exact⟨_,q,hd⟩
  .exact⟨o,keep c o (I.Dv x c e) hc R N (I.gK x c e),hd⟩
 refine⟨I.ok,I.os,hg,⟨λb o e n L G=>?_,λb o e n L G=>?_,λb o e n G=>?_,λb o e G=>?_,λb xs e=>qX b xs (I.base.qX b xs e),λb o xs e=>oq b o xs (I.base.oq b o xs e),λb ps e=>?_⟩,?_,λx c e=>?_,?_,λx c e=>?_,λp hp=>?_,bE,I.len⟩
 .exact keep b o (ab b o e) L (U b o e G) (I.base.keep b o e n L G) (I.base.free b o e n G)
 .obtain⟨sl,J⟩:=I.base.slot b o e n L G;obtain⟨am,O⟩:=slot b _ (ab b o e) L (U b o e G) J (I.base.free b o e n G);exact⟨am,O⟩
 .obtain⟨o',J⟩:=I.base.there b o e G;exact free b o' (U b o e G) J (I.base.free b o e n G)
 .obtain⟨o',J⟩:=I.base.there b o e G;exact there b o' (U b o e G) J
 .obtain⟨m1,J⟩:=I.base.oe b ps e;obtain⟨m2,O⟩:=oe b _ J;exact⟨m1++m2,by rw[O,Array.append_assoc]⟩
 .obtain⟨m,hn,hl⟩:=I.loc;refine⟨m,ns m hn,λi x v J O e3=>?_⟩;obtain⟨u,r,l⟩:=hl i x v J O e3;refine⟨u,r,?_⟩;rcases l with l|⟨k,c,e,z⟩
  .exact .inl l
  .exact .inr ⟨k,c,e,ac x c e _ z⟩
 .obtain⟨v,z⟩:=I.cell x c e;exact⟨v,ac x c e v z⟩
 .obtain⟨m,⟨o,_,_,N,_⟩,_⟩:=I.loc;exact free _ o (λz=>(S _ z).2.1 rfl) N I.free
 .obtain⟨v,o,N,hd⟩:=I.cell x c e;exact free c o (λz=>(S c z).2.2.1 x c e rfl) N (I.gK x c e)
 .obtain⟨e,n,Y,nf,d⟩:=I.pin p hp;have R:p.1∉ch:=λz=>(S p.1 z).2.2.2 p hp rfl;exact⟨keep p.1 p.2 Y nf R e n,free p.1 p.2 R e n,Y,nf,d⟩
theorem Inv.un {t':Nat}(I:Inv X pins σ H s) (u:Un X.fs [] H H' s.heap h') (Y:iS X.prog X.w H' h'):Inv X pins σ H' { s with heap:=h',toks:=t' }:=by
 obtain⟨m,⟨o,es,ep,L,r⟩,_⟩:=id I.loc;obtain⟨sl,R⟩:=u.any L I.free (by simp);exact I.step (g':=s.gens) (d':=s.drawn) (ch:=[]) (λ_ z=>nomatch z) (λb o _ G _ e n=>u.keep b o e n G (by simp)) (λb o _ G _ e n=>u.slot b o e n G (by simp)) (λb o _ e n=>u.free b o e n (by simp)) (λb o _ e=>u.there b o e (by simp)) u.qX u.oq u.oe (λm' N=>by
  obtain⟨o',O,S,J,U⟩:=N;rw[L]at J;cases J;exact⟨_,O,S,R,U⟩) Y I.bare
theorem Inv.call {g':Array QO}{t':Nat}{d':Drawn}{ch:List Addr}(I:Inv X pins σ H s) (u:Un (yY X.stack) ch H H' s.heap h') (bE:iS X.prog X.w H' h') (U:OL g')
  (O:∀b∈ch,(b∈X.ex\/X.s₀.heap.objs.size<=b)/\b≠X.env.locals/\(∀x c,X.env.cells.lookup x=some c->c≠b)/\∀p∈X.pn++pins,p.1≠b) :
  Inv X pins σ H' { s with heap:=h',gens:=g',drawn:=d',toks:=t' }:=by
 obtain⟨m,⟨o,es,ep,N,r⟩,_⟩:=id I.loc;obtain⟨sl,J⟩:=u.any N I.free λz=>(O _ z).2.1 rfl;exact I.step (ch:=ch) O (λb o J hb G e n=>u.keep b o e n (λz=>(E3.mp (I.pI b z)).elim J hb) G) (λb o _ _ G e n=>u.any e n G) (λb o G e n=>u.free b o e n G) (λb o G e=>u.there b o e G) u.qX u.oq u.oe (λm' hm=>by
  obtain⟨o',R,S,L,Y⟩:=hm;rw[N]at L;cases L;exact⟨_,R,S,J,Y⟩) bE U
theorem Inv.turned {t':Nat}{G:Addr}(I:Inv X pins σ H s) (k:∀b o,b≠G->s.heap.get? b=some o->h'.get? b=some o) (R:H G=none) (L:G≠X.env.locals)
  (h1:G∈X.ex\/X.s₀.heap.objs.size<=G) (h2:∀x c,X.env.cells.lookup x=some c->c≠G) (Y:∀p∈X.pn++pins,p.1≠G):Inv X pins σ H { s with heap:=h',toks:=t' }:=by
 have N:∀b u,H b=some u->b≠G:=λb u e z=>(by rw[z,R]at e;cases e);refine I.step (g':=s.gens) (d':=s.drawn) (ch:=[G]) (λb S=>?_) (λb o _ _ J e _=>k b o (λz=>J (by simp[z])) e) (λb o _ _ J e _=>⟨o.slots,k b o (λz=>J (by simp[z])) e⟩) (λ_ _ _ _ n=>n)
  (λb o J e=>⟨o,k b o (λz=>J (by simp[z])) e⟩) (λ_ _ e=>e) (λ_ _ _ e=>e) (λb ps e=>⟨#[],by rw[e];simp⟩) (λm O=>?_) (λb u e=>?_) I.bare
 .have e:b=G:=(by simpa using S);subst e;exact⟨h1,L,h2,Y⟩
 .obtain⟨o,es,ep,U,r⟩:=O;exact⟨o,es,ep,k _ o (qw L) U,r⟩
 .refine(I.bE b u e).lQ (λc v J q=>k c v ?_ q) (λ_ q=>q) λ_ _ q=>q;rcases J with z|z
  .rw[z];exact N b u e
  .exact N c _ z
theorem Inv.tok (I:Inv X pins σ H s) (t:Nat):Inv X pins σ H { s with toks:=t }:=I.un (h':=s.heap) (t':=t) Un.refl I.bE
theorem Inv.kept {t':Nat}(I:Inv X pins σ H s) (k:∀b u,s.heap.get? b=some u->h'.get? b=some u):Inv X pins σ H { s with heap:=h',toks:=t' }:=I.un (Un.kept k) (I.bE.kept k)
theorem Inv.laid {a:Addr}{o:HO}{t':Nat}(I:Inv X pins σ H s) (k:∀b u,s.heap.get? b=some u->h'.get? b=some u) (G:s.heap.objs.size<=a) (new:bS X.prog X.w (upd H a o) h' a o) :
  Inv X pins σ (upd H a o) { s with heap:=h',toks:=t' }:=I.un (Un.laid k G (I.bE.fresh G)) (I.bE.laid k G new)
theorem Inv.write {x e:Addr}{o:HO}{t':Nat}(I:Inv X pins σ H s) (G:FR (H x)) (L:e=x\/H e=some (.own x)) (k:∀b u,b≠e->s.heap.get? b=some u->h'.get? b=some u) (J:∃u,h'.get? e=some u)
  (new:bS X.prog X.w (upd H x o) h' x o):Inv X pins σ (upd H x o) { s with heap:=h',toks:=t' }:=I.un (Un.write G L k J) (I.bE.write G L k J new)
theorem Inv.lM {G:List (Addr×Obj)}(I:Inv X pins σ H s) (h:∀p∈G,s.heap.get? p.1=some p.2/\H p.1=none/\p.1≠X.env.locals/\p.1∉X.fs/\∀v,p.2.data≠.cell v):Inv X G σ H s :=
 ⟨I.ok,I.os,I.bare,I.base,I.loc,I.cell,I.free,I.gK,λp J=>(pa.mp J).elim (λz=>I.pin p (Lp _ z)) (h p),I.bE,I.len⟩
theorem tG {N:List Str}(G:N.Nodup) {i j:Nat}{x:Str}(a:N[i]?=some x) (b:N[j]?=some x):i=j:=by
 obtain⟨h1,J⟩:=j1.mp a;obtain⟨h2,I⟩:=j1.mp b;exact(List.getElem_inj G).mp (J.trans I.symm)
theorem oY {M:Model}{A:KA}{E:Value->mu->Prop}{i:Nat}{x:Str}{v:V}{u:Value}{Q:Unit->mu->Prop}(I:Inv X pins σ H s) (hN:X.N.Nodup) (hi:X.N[i]?=some x) (L:Loc X.env.scope x) (r:RelV v u)
  (h:∀s',Inv X pins (σ.set i (some v)) H s'->(∃a,Heap.SameBut a s.heap s'.heap/\(a=X.env.locals\/X.env.cells.lookup x=some a))->Q () s') (hf:X.fn x=true\/X.env.scope.names.lookup x=some .local:=by first|exact .inl rfl|exact .inr rfl|assumption):wpAny M A (storeName X.env x u) Q E s:=by
 obtain⟨m,hn,hl⟩:=id I.loc;have a0:(X.env.scope.kind == .class||(X.env.scope.kind == .module&&X.env.locals != X.env.globals))=false:=(by rw[I.ok.kind];rfl);have as:i<σ.length:=(by rw[I.len];exact(j1.mp hi).1);have Dv:=I.Dv;have ap:∀{a:Addr}{h':Heap},(∃o,s.heap.get? a=some o/\H a=none)->Heap.SameBut a s.heap h'->iS X.prog X.w H h':=λ{a h'} ha hs b ob e=>by
  obtain⟨_,_,ai⟩:=ha;refine(I.bE b ob e).lQ (λc w' J q=>(hs.2 c ?_).trans q) (λ_ q=>q) λ_ _ q=>q;rintro rfl;rcases J with rfl|J
  .rw[ai]at e;cases e
  .rw[ai]at J;cases J
 rcases L with R|R
 .refine wpAny_storeName_local R hn (λh' a1 hs=>?_) a0;obtain⟨oL,_,_,a2,_⟩:=id hn;refine h _ ⟨I.ok,I.os,I.bare,⟨λb o e n U L=>?_,λb o e n U L=>?_,I.base.free,λb o e L=>?_,I.base.qX,I.base.oq,I.base.oe⟩,⟨_,a1,λj y v' G O e3=>?_⟩,λy c e=>?_,I.free,I.gK,λp hp=>?_,ap ⟨oL,a2,I.free⟩ hs,by simpa using I.len⟩ ⟨_,hs,.inl rfl⟩
  .exact(hs.2 b (KN (Kw (Heap.lt_size e) I.ok.above))).trans (I.base.keep b o e n U L)
  .obtain⟨sl,G⟩:=I.base.slot b o e n U L;exact⟨sl,(hs.2 b (KN (Kw (Heap.lt_size e) I.ok.above))).trans G⟩
  .obtain⟨o',G⟩:=I.base.there b o e L;exact⟨o',(hs.2 b (KN (Kw (Heap.lt_size e) I.ok.above))).trans G⟩
  .by_cases S:j=i
   .subst S;rw[hi]at G;cases G;rw[La as]at O;cases O;exact⟨u,r,.inl ⟨R,by simp⟩⟩
   .rw[KY (qw S)]at O;obtain⟨u',r',q⟩:=hl j y v' G O e3;refine⟨u',r',?_⟩;rcases q with⟨k,e⟩|⟨k,c,e,z⟩
    .refine .inl ⟨k,?_⟩;have:y≠x:=λe=>S (tG hN G (e▸hi));simp[this,e]
    .exact .inr ⟨k,c,e,z.sameBut hs (Dv y c e)⟩
  .obtain⟨w',z⟩:=I.cell y c e;exact⟨w',z.sameBut hs (Dv y c e)⟩
  .obtain⟨e,n,ne,nf,d⟩:=I.pin p hp;exact⟨(hs.2 p.1 ne).trans e,n,ne,nf,d⟩
 .have ab:X.fn x=true:=by
   rcases hf with z|z
   .exact z
   .rw[z]at R;cases R
  obtain⟨c,J⟩:=I.ok.has x (.inl R);obtain⟨w',z⟩:=I.cell x c J;refine wpAny_storeName_cell I.ok.kind R J z (λh' aB hs=>?_);obtain⟨oc,ac,aT⟩:=id z;refine h { s with heap:=h' } ⟨I.ok,I.os,I.bare,⟨λb o e n U L=>?_,λb o e n U L=>?_,I.base.free,λb o e L=>?_,I.base.qX,I.base.oq,I.base.oe⟩,⟨m,hn.sameBut hs (qw (Dv x c J)),λj y v' G O e3=>?_⟩,λy Y e=>?_,I.free,I.gK,λp hp=>?_,ap ⟨oc,ac,I.gK x c J⟩ hs,by simpa using I.len⟩ ⟨c,hs,.inr J⟩
  .exact(hs.2 b (KN (Kw (Heap.lt_size e) (I.ok.Fv x c ab J)))).trans (I.base.keep b o e n U L)
  .obtain⟨sl,G⟩:=I.base.slot b o e n U L;exact⟨sl,(hs.2 b (KN (Kw (Heap.lt_size e) (I.ok.Fv x c ab J)))).trans G⟩
  .obtain⟨o',G⟩:=I.base.there b o e L;exact⟨o',(hs.2 b (KN (Kw (Heap.lt_size e) (I.ok.Fv x c ab J)))).trans G⟩
  .by_cases S:j=i
   .subst S;rw[hi]at G;cases G;rw[La as]at O;cases O;exact⟨u,r,.inr ⟨.inl R,c,J,aB⟩⟩
   .rw[KY (qw S)]at O;obtain⟨u',r',q⟩:=hl j y v' G O e3;refine⟨u',r',?_⟩;rcases q with q|⟨k,Y,e,z'⟩
    .exact .inl q
    .refine .inr ⟨k,Y,e,z'.sameBut hs ?_⟩;rintro rfl;exact S (tG hN G (I.ok.inj _ _ _ e J▸hi))
  .by_cases am:Y=c
   .subst am;exact⟨_,aB⟩
   .obtain⟨w2,z2⟩:=I.cell y Y e;exact⟨w2,z2.sameBut hs am⟩
  .obtain⟨e,n,ne,nf,d⟩:=I.pin p hp;refine⟨(hs.2 p.1 ?_).trans e,n,ne,nf,d⟩;intro q;rw[q,ac]at e;have q':oc=p.2:=ro e;exact d w' (by rw[<-q'];exact aT)
theorem gO {M:Model}{A:KA}{E:Value->mu->Prop}{i:Nat}{x:Str}{v:V}{u:Value}{Q:Unit->mu->Prop}(I:Inv X pins σ H s) (G:X.N.Nodup) (hi:X.N[i]?=some x) (L:Loc X.env.scope x) (r:RelV v u)
  (h:∀s',Inv X pins (σ.set i (some v)) H s'->Q () s') (J:X.fn x=true\/X.env.scope.names.lookup x=some .local:=by first|exact .inl rfl|exact .inr rfl|assumption):wpAny M A (storeName X.env x u) Q E s :=
 oY I G hi L r (λs' O _=>h s' O) J
theorem Inv.FZ {s':mu}{ch:List Addr}(I:Inv X pins σ H s) (G:s'.os=s.os) (u:Un (yY X.stack) ch H H' s.heap s'.heap) (N:iS X.prog X.w H' s'.heap) (L:OL s'.gens)
  (J:∀b∈ch,(b∈X.ex\/X.s₀.heap.objs.size<=b)/\b≠X.env.locals/\(∀x c,X.env.cells.lookup x=some c->c≠b)/\∀p∈X.pn++pins,p.1≠b):Inv X pins σ H' s':=by
 obtain⟨h',g',d',t',o'⟩:=s';have e:o'=s.os:=G;subst e;exact I.call (g':=g') (t':=t') (d':=d') u N L J
end
abbrev XK:=Value->Option Addr->Hp->Prop
abbrev St:=List (Option V)
abbrev VK:=V->Hp->Prop
abbrev TE:=St->Hp->VK->Prop
abbrev TT:=St->Hp->(Bool->Hp->Prop)->Prop
abbrev TA:=St->Hp->(List V->Hp->Prop)->Prop
structure Ends where
 nx:St->Hp->Prop
 rt:VK
 bk:St->Hp->Prop:=λ_ _=>False
 ct:St->Hp->Prop:=λ_ _=>False
abbrev TS:=Ends->St->Hp->Prop
def EP (X:Cx) (pins:List (Addr×Obj)) (σ:St) (Q:VK) (u:Value) (s':mu):Prop:=∃v H',Inv X pins σ H' s'/\RelV v u/\Q v H'
def TP (X:Cx) (pins:List (Addr×Obj)) (σ:St) (Q:Bool->Hp->Prop) (b:Bool) (s':mu):Prop:=∃H',Inv X pins σ H' s'/\Q b H'
def AP (X:Cx) (pins:List (Addr×Obj)) (σ:St) (Q:List V->Hp->Prop) (us:List Value) (s':mu):Prop:=∃vs H',Inv X pins σ H' s'/\Vals vs us/\Q vs H'
def SP (X:Cx) (pins:List (Addr×Obj)) (D:Ends) (f:Flow) (s':mu):Prop :=
 match f with
 |.next=>∃G H',Inv X pins G H' s'/\D.nx G H'
 |.brk=>∃G H',Inv X pins G H' s'/\D.bk G H'
 |.cont=>∃G H',Inv X pins G H' s'/\D.ct G H'
 |.ret u=>∃v G H',Inv X pins G H' s'/\RelV v u/\D.rt v H'
def PE (X:Cx) (e:KJ) (t:TE):Prop :=
 ∀(pins:List (Addr×Obj)) (s:mu) (σ:St) (H:Hp) (Q:VK),Inv X pins σ H s->t σ H Q->wpAny (model X.prog X.w) X.A (eval e X.env) (EP X pins σ Q) X.xe s
def PT (X:Cx) (e:KJ) (t:TT):Prop :=
 ∀(pins:List (Addr×Obj)) (s:mu) (σ:St) (H:Hp) (Q:Bool->Hp->Prop),Inv X pins σ H s->t σ H Q->wpAny (model X.prog X.w) X.A (isTrue e X.env (eval e X.env)) (TP X pins σ Q) X.xe s
def PW (X:Cx) (e:KJ) (t:TT):Prop :=
 ∀(G:QP Value) (pins:List (Addr×Obj)) (s:mu) (σ:St) (H:Hp) (Q:Bool->Hp->Prop),Inv X pins σ H s->t σ H Q->wpAny (model X.prog X.w) X.A (isTrue e X.env G) (TP X pins σ Q) X.xe s
theorem PW.pt {X:Cx}{e:KJ}{t:TT}(h:PW X e t):PT X e t:=h _
def PA (X:Cx) (es:List KJ) (t:TA):Prop :=
 ∀(pos:Nj) (pins:List (Addr×Obj)) (s:mu) (σ:St) (H:Hp) (Q:List V->Hp->Prop),Inv X pins σ H s->t σ H Q->wpAny (model X.prog X.w) X.A (spliced (backTo pos (starEach es X.env))) (AP X pins σ Q) X.xe s
def PS (X:Cx) (st:KO) (t:TS):Prop :=
 ∀(pins:List (Addr×Obj)) (s:mu) (σ:St) (H:Hp) (D:Ends),Inv X pins σ H s->t D σ H->wpAny (model X.prog X.w) X.A (exec st X.env) (SP X pins D) X.xe s
def uc (X:Cx) (st:List KO) (t:TS):Prop :=
 ∀(pins:List (Addr×Obj)) (s:mu) (σ:St) (H:Hp) (D:Ends),Inv X pins σ H s->t D σ H->wpAny (model X.prog X.w) X.A (execs st X.env) (SP X pins D) X.xe s
theorem bT {α:Type}{t:QP α}{Q G:α->mu->Prop}{M:Model}{A:KA}{E:Value->mu->Prop}{s:mu}(h:wpAny M A t Q E s) (I:∀a s,Q a s->G a s):wpAny M A t G E s:=Nv h I λ_ _ x=>x
section
variable {X:Cx}
inductive sJ (i:Nat) (σ:St) (H:Hp) (Q:VK):Prop
 |mk (v:_) (_:σ[i]?=some (some v)) (_:Q v H):sJ i σ H Q
def tC (v:V):TE:=λ_ H Q=>Q v H
theorem EW {i:Nat}{x:Str}{pos:Nj}(S:X.N[i]?=some x) (hv:HW X.env.scope x) (hd:(x==("__debug__" : Str))=false:=by decide) (Y:(x==("__classdict__" : Str))=false:=by decide):PE X (.Name x pos) (sJ i):=by
 intro pins s σ H Q I h;obtain⟨v,e,h⟩:=h;obtain⟨m,U,hl⟩:=I.loc;obtain⟨u,r,l⟩:=hl i x v S e hv;have J:EP X pins σ Q u s:=⟨v,H,I,r,h⟩;rcases l with⟨G,R⟩|⟨G,c,L,O⟩
 .exact PB (Qb I.ok.kind G U R J) hd
 .rcases G with G|G
  .exact PB (wpAny_loadName_cell I.ok.kind G L O J) hd
  .exact PB (Qs I.ok.kind G L O J Y) hd
theorem ak {i j pos}:PE X (.Constant (.int i) j pos) (tC (.int i)):=λ_ _ _ H _ I h=>Oo ⟨.int i,H,I.tok _,⟨_,rfl⟩,h⟩
theorem pA {b j pos}:PE X (.Constant (.bool b) j pos) (tC (.bl b)):=λ_ _ _ H _ I h=>Constant_bool ⟨.bl b,H,I,rfl,h⟩
theorem qN {j pos}:PE X (.Constant .none j pos) (tC .non):=λ_ _ _ H _ I h=>Constant_none ⟨.non,H,I,rfl,h⟩
theorem aN {x j pos}:PE X (.Constant (.str x) j pos) (tC (.str x)):=λ_ _ _ H _ I h=>Calls.Constant_str ⟨.str x,H,I.tok _,⟨_,rfl⟩,h⟩
def Gl (X:Cx) (x:Str):Prop:=X.env.kindOf x=some .globalImplicit
theorem lq {E:Value->mu->Prop}{pins:List (Addr×Obj)}{s:mu}{σ:St}{H:Hp}{x:Str}{u:Value}{pos:Nj}{Q:Value->mu->Prop}(I:Inv X pins σ H s) (J:Gl X x) (G:X.mg x=some u) (h:Q u s)
  (hd:(x==("__debug__" : Str))=false:=by decide):wpAny (model X.prog X.w) X.A (eval (.Name x pos) X.env) Q E s :=
 Calls.Name_function_global I.ok.kind J (Calls.loadGlobal_global (by rw[I.ok.glob];exact I.mod.glob.keeps I.bk) G h) hd
theorem gE {E:Value->mu->Prop}{pins:List (Addr×Obj)}{s:mu}{σ:St}{H:Hp}{x:Str}{u:Value}{pos:Nj}{Q:Value->mu->Prop}(I:Inv X pins σ H s) (J:Gl X x) (G:X.mg x=none) (N:KS x=some u) (h:Q u s)
  (L:x ≠ "__name__" := by decide) (hd:(x==("__debug__" : Str))=false:=by decide):wpAny (model X.prog X.w) X.A (eval (.Name x pos) X.env) Q E s:=by
 obtain⟨O,h1,h2⟩:=I.mod.blt;exact Calls.Name_function_global I.ok.kind J (Calls.loadGlobal_builtin (by rw[I.ok.glob];exact I.mod.glob.keeps I.bk) G (by rw[I.ok.blt];exact h1.keeps I.bk) ((h2 x L).trans N) h) hd
theorem cj {x:Str}{v:V}{u:Value}{pos:Nj}(J:Gl X x) (G:X.mg x=some u) (r:RelV v u) (hd:(x==("__debug__" : Str))=false:=by decide):PE X (.Name x pos) (tC v):=
 λ_ _ _ H _ I h=>lq I J G ⟨v,H,I,r,h⟩ hd
theorem eM {x:Str}{v:V}{u:Value}{pos:Nj}(J:Gl X x) (G:X.mg x=none) (L:KS x=some u) (r:RelV v u) (N:x ≠ "__name__" := by decide) (hd:(x==("__debug__" : Str))=false:=by decide):PE X (.Name x pos) (tC v):=
 λ_ _ _ H _ I h=>gE I J G L ⟨v,H,I,r,h⟩ N hd
variable {a b:KJ}{ta tb:TE}{pos:Nj}
def PC (X:Cx) (I:SM) (a b:KJ) (t:TE):Prop :=
 ∀(pins:List (Addr×Obj)) (s:mu) (σ:St) (H:Hp) (Q:VK),Inv X pins σ H s->t σ H Q ->
  wpAny (model X.prog X.w) X.A (eval a X.env) (λv J=>wpAny (model X.prog X.w) X.A (eval b X.env) (λu G=>wpAny (model X.prog X.w) X.A (LB I v u) (EP X pins σ Q) X.xe G) X.xe J) X.xe s
inductive J1 (t:TE) (Q:Bool->Hp->Prop) (x:V) (H1:Hp):Prop
 |mk (c:_) (_:x=.bl c) (_:Q c H1):J1 t Q x H1
def tB (t:TE):TT:=λσ H Q=>t σ H λx H1=>J1 t Q x H1
theorem vt {G:SM}{t:TE}(h:PC X G a b t) (h1:Nk G b=false:=by first|exact nobehind _ av av|rfl):PE X (.Compare a [G] [b] pos) t:=λpins s σ H Q I J=>wpAny_Compare1 (h pins s σ H Q I J) h1
theorem jd {G:SM}{t:TE}(h:PC X G a b t) (h1:Nk G b=false:=by first|exact nobehind _ av av|rfl):PT X (.Compare a [G] [b] pos) (tB t):=by
 intro pins s σ H Q I O;refine P2 (bT (h pins s σ H _ I O) λv U h1=>bT h1 λu S h2=>bT h2 λc Y L=>?_) h1;obtain⟨x,H1,R,N,J⟩:=L;obtain⟨d,rfl,q⟩:=J;cases N;exact LF ⟨H1,R,q⟩
theorem gA {e:KJ}{t:TE}(h:PE X e t) (R:∀G,isTrue e X.env G=(do let v <-G;QR e.pos;OM [v] (truthy v)):=by intro _;rfl):PT X e (tB t):=by
 intro pins s σ H Q I O;refine isTrue_plain (bT (h pins s σ H _ I O) λv U L=>?_) (R _);obtain⟨x,H1,S,N,J⟩:=L;obtain⟨d,rfl,q⟩:=J;cases N;exact LF ⟨H1,S,q⟩
variable {tA tB':TT}{rest:List KJ}
def Ir (t u:TT):TT:=λσ H Q=>t σ H λc H1=>if c=true then u σ H1 Q else Q false H1
def J4 (t u:TT):TT:=λσ H Q=>t σ H λc H1=>if c=true then Q true H1 else u σ H1 Q
def Jg (t:TT):TT:=λσ H Q=>t σ H λc H1=>Q (!c) H1
theorem qE (G:PT X a tA):PW X (.BoolOp .And [a] pos) tA:=by
 intro J pins s σ H Q I h;refine isTrue_and (bT (G pins s σ H Q I h) λc L e=>?_);cases c with
 |true=>exact isTrue_and_nil e
 |false=>exact e
theorem fK (G:PT X a tA):PW X (.BoolOp .Or [a] pos) tA:=by
 intro J pins s σ H Q I h;refine isTrue_or (bT (G pins s σ H Q I h) λc L e=>?_);cases c with
 |false=>exact isTrue_or_nil e
 |true=>exact e
theorem ug (O:PT X a tA) (S:PW X (.BoolOp .And (b::rest) pos) tB'):PW X (.BoolOp .And (a::b::rest) pos) (Ir tA tB'):=by
 intro R pins s σ H Q I h;refine isTrue_and (bT (O pins s σ H _ I h) λc N L=>?_);obtain⟨H1,J,G⟩:=L;cases c with
 |true=>exact S R pins N σ H1 Q J G
 |false=>exact⟨H1,J,G⟩
theorem gL (N:PT X a tA) (R:PW X (.BoolOp .Or (b::rest) pos) tB'):PW X (.BoolOp .Or (a::b::rest) pos) (J4 tA tB'):=by
 intro O pins s σ H Q I h;refine isTrue_or (bT (N pins s σ H _ I h) λc L S=>?_);obtain⟨H1,J,G⟩:=S;cases c with
 |true=>exact⟨H1,J,G⟩
 |false=>exact R O pins L σ H1 Q J G
theorem Bp (G:PT X a tA):PT X (.UnaryOp .Not a pos) (Jg tA):=by
 intro pins s σ H Q I h;exact isTrue_not (G pins s σ H (λc H1=>Q (!c) H1) I h)
inductive zx (ta tb:TE) (σ:St) (Q:VK) (x:V) (H1:Hp):Prop
 |mk (c:_) (_:x=.bl c) (_:if c=true then tb σ H1 Q else Q (.bl false) H1):zx ta tb σ Q x H1
def Hi (ta tb:TE):TE:=λσ H Q=>ta σ H λx H1=>zx ta tb σ Q x H1
inductive Ds (ta tb:TE) (σ:St) (Q:VK) (x:V) (H1:Hp):Prop
 |mk (c:_) (_:x=.bl c) (_:if c=true then Q (.bl true) H1 else tb σ H1 Q):Ds ta tb σ Q x H1
def IL (ta tb:TE):TE:=λσ H Q=>ta σ H λx H1=>Ds ta tb σ Q x H1
inductive zl (ta:TE) (Q:VK) (x:V) (H1:Hp):Prop
 |mk (c:_) (_:x=.bl c) (_:Q (.bl (!c)) H1):zl ta Q x H1
def Gs (ta:TE):TE:=λσ H Q=>ta σ H λx H1=>zl ta Q x H1
theorem vK {op} {t:TE}(h:PE X a t):PE X (.BoolOp op [a] pos) t:=λpins s σ H Q I G=>BoolOp_one (h pins s σ H Q I G)
theorem zd (O:PE X a ta) (R:PE X (.BoolOp .And (b::rest) pos) tb):PE X (.BoolOp .And (a::b::rest) pos) (Hi ta tb):=by
 intro pins s σ H Q I h;refine BoolOp_and (bT (O pins s σ H _ I h) λv N S=>?_);obtain⟨x,H1,J,L,G⟩:=S;obtain⟨c,rfl,G⟩:=G;cases L;refine LF ?_;cases c with
 |true=>exact R pins N σ H1 Q J G
 |false=>exact⟨.bl false,H1,J,rfl,G⟩
theorem Ga (R:PE X a ta) (S:PE X (.BoolOp .Or (b::rest) pos) tb):PE X (.BoolOp .Or (a::b::rest) pos) (IL ta tb):=by
 intro pins s σ H Q I h;refine BoolOp_or (bT (R pins s σ H _ I h) λv O L=>?_);obtain⟨x,H1,J,N,G⟩:=L;obtain⟨c,rfl,G⟩:=G;cases N;refine LF ?_;cases c with
 |false=>exact S pins O σ H1 Q J G
 |true=>exact⟨.bl true,H1,J,rfl,G⟩
theorem DN (L:PE X a ta):PE X (.UnaryOp .Not a pos) (Gs ta):=by
 intro pins s σ H Q I h;refine UnaryOp_ (bT (L pins s σ H _ I h) λv R O=>?_);obtain⟨x,H1,N,J,G⟩:=O;obtain⟨c,rfl,G⟩:=G;cases J;exact not_of (LF ⟨.bl (!c),H1,N,rfl,G⟩)
end
def bq (K:Kq) (H:Hp) (a:Addr) (xs:List V):Prop :=
 Rd H a (.lst xs) \/
  ∃(o:Obj) (its:Array Value) (n:Nat),K.lookup a=some o/\o.cls=.type "list" /\ o.dict=none/\o.data=.seq its n/\its.size<=sizeLine/\Vals xs its.toList
def bZ (K:Kq) (H:Hp) (a:Addr) (xs:List V):Prop :=
 Rd H a (.tup xs) \/
  ∃(o:Obj) (its:Array Value) (n:Nat),K.lookup a=some o/\o.cls=.type "tuple" /\ o.data=.seq its n/\its.size<=sizeLine/\Vals xs its.toList
def Jk:Value->Option V
 |.none=>some .non
 |.bool b=>some (.bl b)
 |.int i _=>some (.int i)
 |.str x _=>some (.str x)
 |.bytes b _=>some (.byt b)
 |.float b _=>some (.flt b)
 |.ref a=>some (.ref a)
 |.type n=>some (.ty n)
 |_=>none
theorem RelV.abs {x:V}{u:Value}(r:RelV x u):Jk u=some x:=by
 cases x with
 |non=>cases r;rfl
 |bl _=>cases r;rfl
 |int _=>obtain⟨t,rfl⟩:=r;rfl
 |str _=>obtain⟨t,rfl⟩:=r;rfl
 |byt _=>obtain⟨t,rfl⟩:=r;rfl
 |flt _=>obtain⟨t,rfl⟩:=r;rfl
 |ref _=>cases r;rfl
 |ty _=>cases r;rfl
theorem RelV.inj {x y:V}{u:Value}(r:RelV x u) (q:RelV y u):x=y:=ro (r.abs.symm.trans q.abs)
theorem Vals.inj:∀{xs ys:List V}{us:List Value},Vals xs us->Vals ys us->xs=ys
 |_,_,_,.nil,.nil=>rfl
 |_,_,_,.cons r t,.cons G t'=>by rw[r.inj G,Vals.inj t t']
section
variable {X:Cx}{pins:List (Addr×Obj)}{σ:St}{H:Hp}{s:mu}{a:Addr}{xs ys:List V}
theorem bq.of {K:Kq}(h:H a=some (.lst xs)):bq K H a xs:=.inl (.inl h)
theorem bZ.of {K:Kq}(h:H a=some (.tup xs)):bZ K H a xs:=.inl (.inl h)
theorem Inv.list (I:Inv X pins σ H s) (h:bq X.K H a xs):∃its:List Value,Vals xs its/\PlainL s.heap a its.toArray/\xs.length<=sizeLine:=by
 rcases h with h|⟨o,its,n,G,J,hd,hs,L,r⟩
 .obtain⟨z,its,n,r,e⟩:=h.ok I.bE;exact⟨its,r,⟨_,n,e,rfl,rfl,rfl⟩,z⟩
 .refine⟨its.toList,r,⟨o,n,I.jW a o G,J,hd,by simpa using hs⟩,?_⟩;have e:=r.length;simp only[Ly]at e;omega
theorem Inv.tuple (I:Inv X pins σ H s) (h:bZ X.K H a xs):∃its:List Value,Vals xs its/\IsTup s.heap a its.toArray/\xs.length<=sizeLine:=by
 rcases h with h|⟨o,its,n,G,J,hs,L,r⟩
 .obtain⟨z,its,r,p⟩:=h.ok I.bE;exact⟨its,r,p,z⟩
 .refine⟨its.toList,r,⟨o,I.jW a o G,J,n,by simpa using hs⟩,?_⟩;have e:=r.length;simp only[Ly]at e;omega
theorem Inv.jz (I:Inv X pins σ H s) (h:bq X.K H a xs) (h':bq X.K H a ys):xs=ys:=by
 obtain⟨its,r,⟨o,n,e,_,_,d⟩,_⟩:=I.list h;obtain⟨its',L,⟨o',N,G,_,_,d'⟩,_⟩:=I.list h';rw[e]at G;cases G;rw[d]at d';injection d' with J _;have:its=its':=(by simpa using congrArg toList J);subst this;exact r.inj L
theorem Inv.yc (I:Inv X pins σ H s) (h:bZ X.K H a xs) (h':bZ X.K H a ys):xs=ys:=by
 obtain⟨its,r,⟨o,e,_,n,d⟩,_⟩:=I.tuple h;obtain⟨its',L,⟨o',G,_,N,d'⟩,_⟩:=I.tuple h';rw[e]at G;cases G;rw[d]at d';injection d' with J _;have:its=its':=(by simpa using congrArg toList J);subst this;exact r.inj L
end
abbrev Cx.nY (X:Cx) (E:Value->mu->Prop):Cx:={ X with xe:=E }
abbrev Cx.Bz (X:Cx):Cx:=X.nY λ_ _=>False
theorem Cx.Ok.nY {X:Cx}(ok:X.Ok) (E:Value->mu->Prop):(X.nY E).Ok :=
 ⟨ok.mod,ok.kind,ok.glob,ok.blt,ok.above,ok.inj,ok.has,ok.Fv,ok.hd,ok.frames,ok.Ha,ok.Ij,ok.bs,ok.AE,ok.xR,ok.yN,ok.kg,ok.Dj⟩
theorem Cx.Ok.gZ {X:Cx}{E:Value->mu->Prop}(ok:(X.nY E).Ok):X.Ok :=
 ⟨ok.mod,ok.kind,ok.glob,ok.blt,ok.above,ok.inj,ok.has,ok.Fv,ok.hd,ok.frames,ok.Ha,ok.Ij,ok.bs,ok.AE,ok.xR,ok.yN,ok.kg,ok.Dj⟩
section
variable {X:Cx}{pins:List (Addr×Obj)}{σ:St}{H:Hp}{s:mu}{E:Value->mu->Prop}
theorem Inv.nY (I:Inv X pins σ H s) (E:Value->mu->Prop):Inv (X.nY E) pins σ H s:=⟨I.ok.nY E,I.os,I.bare,I.base,I.loc,I.cell,I.free,I.gK,I.pin,I.bE,I.len⟩
theorem Inv.gZ (I:Inv (X.nY E) pins σ H s):Inv X pins σ H s:=⟨I.ok.gZ,I.os,I.bare,I.base,I.loc,I.cell,I.free,I.gK,I.pin,I.bE,I.len⟩
theorem SP.gZ {D:Ends}{f:Flow}{s':mu}(h:SP (X.nY E) pins D f s'):SP X pins D f s':=by
 cases f with
 |next=>obtain⟨G,H',I,q⟩:=h;exact⟨G,H',I.gZ,q⟩
 |brk=>obtain⟨G,H',I,q⟩:=h;exact⟨G,H',I.gZ,q⟩
 |cont=>obtain⟨G,H',I,q⟩:=h;exact⟨G,H',I.gZ,q⟩
 |ret u=>obtain⟨v,G,H',I,r,q⟩:=h;exact⟨v,G,H',I.gZ,r,q⟩
theorem uc.Bz {st:List KO}{t:TS}(h:uc X.Bz st t):uc X st t:=λpins s σ H D I G =>
 Nv (h pins s σ H D (I.nY _) G) (λ_ _ q=>q.gZ) λ_ _ z=>LO z
end
section
variable {X:Cx}{st:KO}{rest:List KO}{t u:TS}{e:KJ}{te:TE}{pos:Nj}
def kP:TS:=λD σ H=>D.nx σ H
def iZ (t u:TS):TS:=λD σ H=>t { D with nx:=u D } σ H
theorem aH:uc X [] kP:=λ_ _ σ H _ I h=>Ob ⟨σ,H,I,h⟩
theorem ag (h1:PS X st t) (h2:uc X rest u):uc X (st::rest) (iZ t u):=by
 intro pins s σ H D I h;refine Rb (bT (h1 pins s σ H { D with nx:=u D } I h) λf G q=>?_);cases f with
 |next =>
  obtain⟨J,H',L,q⟩:=q;exact h2 pins G J H' D L q
 |ret v=>exact q
 |brk=>exact q
 |cont=>exact q
theorem ao (h1:PS X st t):uc X [st] t:=by
 intro pins s σ H D I h;refine Rb (bT (h1 pins s σ H D I h) λf G q=>?_);cases f with
 |next=>exact Ob q
 |ret v=>exact q
 |brk=>exact q
 |cont=>exact q
def Ht:TS:=λD σ H=>D.ct σ H
theorem rS:PS X (.Continue pos) Ht:=λ_ _ σ H _ I h=>wpAny_Continue ⟨σ,H,I,h⟩
theorem Inv.quiet {pins:List (Addr×Obj)}{σ:St}{H:Hp}{s:mu}(I:Inv X pins σ H s):interactive X.env=false:=by simp[interactive,I.ok.kind]
def Bg (te:TE):TS:=λD σ H=>te σ H λ_ H1=>D.nx σ H1
theorem aL (J:PE X e te) (hs:Pe e none pos.line X.env=pure false:=by rfl):PS X (.Expr e pos) (Bg te):=by
 intro pins s σ H D I h;exact wpAny_Expr_any (bT (J pins s σ H _ I h) λv R N=>by obtain⟨x,H1,L,O,G⟩:=N;exact⟨σ,H1,L,G⟩) I.quiet hs
def zb (te:TE):TS:=λD σ H=>te σ H D.rt
theorem aG (J:PE X e te):PS X (.Return (some e) pos) (zb te):=by
 intro pins s σ H D I h;exact wpAny_Return_some (bT (J pins s σ H _ I h) λv R O=>by obtain⟨x,H1,N,L,G⟩:=O;exact⟨x,σ,H1,N,L,G⟩)
def Hl:TS:=λD _ H=>D.rt .non H
theorem pV:PS X (.Return none pos) Hl:=λ_ _ σ H _ I h=>wpAny_Return_none ⟨.non,σ,H,I,rfl,h⟩
def lU (c:TT) (t u:TS):TS:=λD σ H=>c σ H λb H1=>if b=true then t D σ H1 else u D σ H1
theorem aU {c:KJ}{a b:List KO}{tc:TT}(S:PT X c tc) (O:uc X a t) (R:uc X b u):PS X (.If c a b pos) (lU tc t u):=by
 intro pins s σ H D I h;refine wpAny_If (bT (S pins s σ H _ I h) λd J N=>?_);obtain⟨H1,L,G⟩:=N;cases d with
 |true=>exact O pins J σ H1 D L G
 |false=>exact R pins J σ H1 D L G
def Ba:TS:=λ_ _ _=>False
theorem dP:PS X st Ba:=λ_ _ _ _ _ _ h=>h.elim
theorem cN {sts:List KO}:uc X sts Ba:=λ_ _ _ _ _ _ h=>h.elim
end
abbrev TG:=V->St->Hp->(St->Hp->Prop)->Prop
abbrev Ft:=List V->St->Hp->(St->Hp->Prop)->Prop
def PG (X:Cx) (I:KJ) (t:TG):Prop :=
 ∀(pins:List (Addr×Obj)) (s:mu) (σ:St) (H:Hp) (v:V) (u:Value) (Q:St->Hp->Prop),Inv X pins σ H s->RelV v u->t v σ H Q ->
  wpAny (model X.prog X.w) X.A (QB I X.env u) (λ_ s'=>∃G H',Inv X pins G H' s'/\Q G H') X.xe s
def HM (X:Cx) (ts:List KJ) (t:Ft):Prop :=
 ∀(pins:List (Addr×Obj)) (s:mu) (σ:St) (H:Hp) (vs:List V) (us:List Value) (Q:St->Hp->Prop),Inv X pins σ H s->Vals vs us->t vs σ H Q ->
  wpAny (model X.prog X.w) X.A (Qw ((Oq ts X.env).map (·.2)) us) (λ_ s'=>∃G H',Inv X pins G H' s'/\Q G H') X.xe s
abbrev yz:=V->V->V->Hp->(Hp->Prop)->Prop
def B6 (X:Cx) (t:yz):Prop :=
 ∀(pins:List (Addr×Obj)) (s:mu) (σ:St) (H:Hp) (o i v:V) (ov G u:Value) (Q:Hp->Prop),Inv X pins σ H s->RelV o ov->RelV i G->RelV v u->t o i v H Q ->
  wpAny (model X.prog X.w) X.A (Sy ov G u) (λ_ s'=>∃H',Inv X pins σ H' s'/\Q H') X.xe s
abbrev HL:=V->V->Hp->VK->Prop
def Jt (X:Cx) (G:QS) (t:HL):Prop :=
 ∀(pins:List (Addr×Obj)) (s:mu) (σ:St) (H:Hp) (x y:V) (v u:Value) (Q:VK),Inv X pins σ H s->RelV x v->RelV y u->t x y H Q ->
  wpAny (model X.prog X.w) X.A (inplaceOp G v u) (EP X pins σ Q) X.xe s
section
variable {X:Cx}{pos:Nj}
def ma (i:Nat):TG:=λv σ H Q=>Q (σ.set i (some v)) H
theorem CL {i:Nat}{x:Str}(G:X.N.Nodup) (hi:X.N[i]?=some x) (L:Loc X.env.scope x) (J:X.fn x=true\/X.env.scope.names.lookup x=some .local:=by first|exact .inl rfl|exact .inr rfl|assumption):PG X (.Name x pos) (ma i):=by
 intro pins s σ H v u Q I r h;exact ON (gO I G hi L r (λs' O=>⟨_,H,O,h⟩) J)
theorem gG (i:Nat) {x:Str}(G:X.N.Nodup) (hi:X.N[i]?=some x:=by rfl) (I:Loc X.env.scope x:=by first|exact .inl rfl|exact .inr rfl) (J:X.fn x=true\/X.env.scope.names.lookup x=some .local:=by first|exact .inl rfl|exact .inr rfl|assumption):PG X (.Name x pos) (ma i):=CL G hi I J
def Jx:Ft:=λvs σ H Q=>vs=[]/\Q σ H
inductive z7 (t:TG) (u:Ft) (vs:List V) (σ:St) (H:Hp) (Q:St->Hp->Prop):Prop
 |mk (v:_) (r:_) (_:vs=v::r) (_:t v σ H λσ' H'=>u r σ' H' Q):z7 t u vs σ H Q
theorem cX:HM X [] Jx:=by
 intro pins s σ H vs us Q I r h;obtain⟨e,h⟩:=h;subst e;cases r;exact QT ⟨σ,H,I,h⟩
theorem bo {e:KJ}{es:List KJ}{t:TG}{u:Ft}(h1:PG X e t) (h2:HM X es u)
  (hs:(Oq (e::es) X.env).map (·.2)=QB e X.env::(Oq es X.env).map (·.2):=by rfl):HM X (e::es) (z7 t u):=by
 intro pins s σ H vs us Q I r h;obtain⟨v,U,S,h⟩:=h;subst S;cases r with
 |cons r O =>
  rw[hs];refine Ot (bT (h1 pins s σ H _ _ _ I r h) λ_ N L=>?_);obtain⟨J,H1,R,G⟩:=L;exact h2 pins N J H1 _ _ Q R O G
inductive Gw (K:Kq) (n:Nat) (t:Ft) (v:V) (σ:St) (H:Hp) (Q:St->Hp->Prop):Prop
 |mk (a:_) (xs:_) (_:v=.ref a) (_:bZ K H a xs) (_:xs.length=n) (_:t xs σ H Q):Gw K n t v σ H Q
theorem dS {es:List KJ}{k:Nat}{t:Ft}{n:Nat}(hc:X.calm=true) (h:HM X es t)
  (N:(Oq es X.env).length=n:=by rfl) (R:(Oq es X.env).findIdx? (·.1)=none:=by rfl):PG X (.Tuple es k pos) (Gw X.K n t):=by
 intro pins s σ H v u Q I r G;obtain⟨a,xs,e1,O,S,G⟩:=G;subst e1;cases r;obtain⟨its,J,L,hz⟩:=I.tuple O;refine assign_Tuple_tuple (I.ok.hd hc) L (by simp[N, <-S,J.length]) R λh' Y=>?_;have U:Inv X pins σ H { s with heap:=h' }:=I.kept (t':=s.toks) λb o e=>Y b o (KN (Heap.lt_size e)) e;exact h pins _ σ H xs _ Q U (by simpa using J) G
def Ju (to G:TE) (t:yz):TG:=λv σ H Q=>to σ H λo H1=>G σ H1 λi H2=>t o i v H2 λI=>Q σ I
theorem d0 {o i:KJ}{to J:TE}{t:yz}(ho:PE X o to) (hi:PE X i J) (hs:B6 X t)
  (ha:∀v,QB (.Subscript o i pos) X.env v=(do
   let ov <-OM [v] (eval o X.env)
   let G <-OM [v,ov] (eval i X.env)
   QR pos
   OM [v,ov,G] (Sy ov G v)
   release [v,ov,G] []):=by intro _;rfl):PG X (.Subscript o i pos) (Ju to J t):=by
 intro pins s σ H v u Q I r h;rw[ha];refine oR (LS (bT (ho pins s σ H _ I h) λov N ab=>?_));obtain⟨x,H1,I1,r1,q1⟩:=ab;refine oR (LS (bT (hi pins N σ H1 _ I1 q1) λG s2 U=>?_));obtain⟨y,H2,R,L,q2⟩:=U;refine oR (NX (oR (LS (bT (hs pins s2 σ H2 x y v ov G u _ R r1 L r q2) λ_ s3 ac=>?_))));obtain⟨S,O,Y⟩:=ac;exact wpAny_release ⟨σ,S,O,Y⟩
def zi (te:TE) (g:TG):TS:=λD σ H=>te σ H λx H1=>g x σ H1 D.nx
theorem cK {tg e:KJ}{te:TE}{g:TG}(R:PE X e te) (N:PG X tg g) (hs:swapsWithSole [tg] e pos.line X.env=pure false:=by rfl) (O:swappedStores [tg] e X.env=pure none:=by rfl)
  (h1:(Oq [tg] X.env).map (·.2)=[QB tg X.env]:=by rfl):PS X (.Assign [tg] e pos) (zi te g):=by
 intro pins s σ H D I h;refine wpAny_Assign_stores (bT (R pins s σ H _ I h) λv L U=>?_) hs O;obtain⟨x,H1,S,J,G⟩:=U;rw[h1];exact bT (N pins L σ H1 x v _ S J G) λ_ Y q=>q
theorem EJ {i:Nat}{x:Str}{e:KJ}{te:TE}{pos':Nj}(J:X.N.Nodup) (hi:X.N[i]?=some x) (hx:Loc X.env.scope x) (S:PE X e te) (hs:Pe e (some (.Name x pos')) pos.line X.env=pure false:=by rfl) (Y:X.fn x=true\/X.env.scope.names.lookup x=some .local:=by first|exact .inl rfl|exact .inr rfl|assumption) :
  PS X (.Assign [.Name x pos'] e pos) (zi te (ma i)):=by
 intro pins s σ H D I h;refine wpAny_Assign_Name (bT (S pins s σ H _ I h) λv s1 R=>?_) hs;obtain⟨y,H1,U,L,G⟩:=R;exact gO U J hi hx L (λs2 O=>⟨_,H1,O,G⟩) Y
theorem dA (i:Nat) {x:Str}{e:KJ}{te:TE}{pos':Nj}(G:X.N.Nodup) (I:PE X e te) (hi:X.N[i]?=some x:=by rfl) (L:Loc X.env.scope x:=by first|exact .inl rfl|exact .inr rfl) (hs:Pe e (some (.Name x pos')) pos.line X.env=pure false:=by rfl) (J:X.fn x=true\/X.env.scope.names.lookup x=some .local:=by first|exact .inl rfl|exact .inr rfl|assumption):PS X (.Assign [.Name x pos'] e pos) (zi te (ma i)):=EJ G hi L I hs J
def JD (i j:Nat) (ta:TA):TS:=λD σ H=>ta σ H λvs H1=>y7 λv w=>vs=[v,w]/\D.nx ((σ.set i (some v)).set j (some w)) H1
theorem Fl {i j:Nat}{x y:Str}{a b:KJ}{ta:TA}{px R pt:Nj}{kt k2 pt2} (hc:X.calm=true) (Y:X.N.Nodup) (hi:X.N[i]?=some x) (hj:X.N[j]?=some y) (ac:i≠j)
  (U:X.env.scope.names.lookup x=some .local) (S:X.env.scope.names.lookup y=some .local) (ha:PA X [a,b] ta)
  (hw:swappedStores [.Tuple [.Name x px,.Name y R] kt pt] (.Tuple [a,b] k2 pt2) X.env=pure (some [x,y]))
  (hs:swapsWithSole [.Tuple [.Name x px,.Name y R] kt pt] (.Tuple [a,b] k2 pt2) pos.line X.env=pure false:=by rfl) :
  PS X (.Assign [.Tuple [.Name x px,.Name y R] kt pt] (.Tuple [a,b] k2 pt2) pos) (JD i j ta):=by
 intro pins s σ H D I h;rw[exec_Assign_arm];refine oR (NX ?_);rw[hs];refine oR (By ?_);rw[Tg av];refine oR (Tuple_ (bT (ha _ pins s σ H _ I h) λus G ai=>?_));obtain⟨vs,H1,I1,r1,O⟩:=ai;obtain⟨v,w,e1,O⟩:=O;subst e1;obtain⟨J,L,rfl,rv,am⟩:∃J L,us=[J,L]/\RelV v J/\RelV w L:=by
  cases r1 with
  |cons p q =>
   cases q with
   |cons p' q' =>
    cases q';exact⟨_,_,rfl,p,p'⟩
 refine Mh ?_ fE;have I2:Inv X pins σ H1 { G with heap:=G.heap.push { cls:=.type "tuple",data:=.seq [J,L].toArray } }:=I1.kept (t':=G.toks) λb o e=>Heap.get?_push_of_some _ e;rw[hw];refine oR (By ?_);show wpAny (model X.prog X.w) X.A (do rule "assign.swapped-stores";let items <-unpackItems (.ref G.heap.objs.size) 2 none;Qw [λv=>RD X.env y v,λv=>RD X.env x v] items.reverse;pure Flow.next) _ _ _;refine oR (MX (oR (unpackItems_tuple (items := #[J,L]) (I.ok.hd hc) (Su G.heap _) λh' ab=>?_)));have I3:=I2.kept (h':=h') (t':=G.toks) λb o e=>ab b o (KN (Heap.lt_size e)) e;show wpAny _ _ (Qw [λv=>RD X.env y v,λv=>RD X.env x v] [L,J]>>=λ_=>pure Flow.next) _ _ _;refine oR (Ot (wpAny_bindName (gO I3 Y hj (.inl S) am (λs2 I4=>?_) (.inr S))));refine Ot (wpAny_bindName (gO I4 Y hi (.inl U) rv (λs3 I5=>QT (By ?_)) (.inr U)));rw[List.set_comm _ _ (qw ac)]at I5;exact⟨_,H1,I5,O⟩
def HI (to J te:TE) (S:V->V->Hp->VK->Prop) (G:HL) (R:yz):TS:=λD σ H=>to σ H λo H1=>J σ H1 λi H2=>S o i H2 λx N=>te σ N λy O=>G x y O λz L=>R o i z L λI=>D.nx σ I
def HG (X:Cx) (t:V->V->Hp->VK->Prop):Prop :=
 ∀(pins:List (Addr×Obj)) (s:mu) (σ:St) (H:Hp) (o i:V) (ov G:Value) (Q:VK),Inv X pins σ H s->RelV o ov->RelV i G->t o i H Q ->
  wpAny (model X.prog X.w) X.A (NY ov G) (EP X pins σ Q) X.xe s
theorem wY {o i e:KJ}{to N te:TE}{Y:V->V->Hp->VK->Prop}{L:HL}{U:yz}{S:QS}{tpos:Nj}(ho:PE X o to) (hi:PE X i N) (hg:HG X Y) (he:PE X e te) (hp:Jt X S L) (hs:B6 X U)
  (ha:∀ov G new,augStore i ov G new=(do OM [new,ov,G] (Sy ov G new);release [new,ov,G] [];pure .next):=by intros;rfl):PS X (.AugAssign (.Subscript o i tpos) S e pos) (HI to N te Y L U):=by
 intro pins s σ H D I h;refine wpAny_AugAssign_SubscriptAny (bT (ho pins s σ H _ I h) λov s1 as=>?_) ha;obtain⟨O,H1,I1,R,q1⟩:=as;refine bT (hi pins s1 σ H1 _ I1 q1) λG s2 ab=>?_;obtain⟨x2,H2,I2,J,q2⟩:=ab;refine bT (hg pins s2 σ H2 O x2 ov G _ I2 R J q2) λap s3 ac=>?_;obtain⟨x3,H3,I3,r3,q3⟩:=ac;refine bT (he pins s3 σ H3 _ I3 q3) λv s4 aB=>?_;obtain⟨x4,H4,I4,r4,q4⟩:=aB;refine bT (hp pins s4 σ H4 x3 x4 ap v _ I4 r3 r4 q4) λnew s5 am=>?_;obtain⟨x5,H5,I5,r5,q5⟩:=am;exact bT (hs pins s5 σ H5 O x2 x5 ov G new _ I5 R J r5 q5) λ_ s6 ai=>by obtain⟨H6,I6,q6⟩:=ai;exact⟨σ,H6,I6,q6⟩
def JJ (f:Int->Int->Int):HL:=λx y H Q=>∃i j,x=.int i/\y=.int j/\Q (.int (f i j)) H
theorem El:Jt X .Add (JJ λi j=>i+j):=by
 intro pins s σ H x y v u Q I J G h;obtain⟨i,j,N,L,q⟩:=h;subst N;subst L;obtain⟨t,rfl⟩:=J;obtain⟨t',rfl⟩:=G;exact Rw ⟨.int _,H,I.tok _,⟨_,rfl⟩,q⟩
theorem Ew:Jt X .Sub (JJ λi j=>i-j):=by
 intro pins s σ H x y v u Q I J G h;obtain⟨i,j,N,L,q⟩:=h;subst N;subst L;obtain⟨t,rfl⟩:=J;obtain⟨t',rfl⟩:=G;exact isub_int ⟨.int _,H,I.tok _,⟨_,rfl⟩,q⟩
end
section
variable {X:Cx}{pos:Nj}
def Fh (c:TT) (tb:TS):TS:=λD σ H=>∃W:Nat->St->Hp->Prop,(∃m,W m σ H)/\∀m σ H,W m σ H ->
 c σ H λb H1=>if b=true then ∃N:St->Hp->Prop,(∀I H',N I H'->∃G,G<m/\W G I H')/\tb { D with nx:=N,ct:=N,bk:=D.nx } σ H1 else D.nx σ H1
theorem r9 {c:KJ}{body:List KO}{tc:TT}{tb:TS}(hp:PassesOwn (model X.prog X.w) X.A X.env X.xe) (hc:PT X c tc) (hb:uc X body tb):PS X (.While c body [] pos) (Fh tc tb):=by
 intro pins s σ H D I h;obtain⟨W,⟨m0,w0⟩,ac⟩:=h;refine wpAny_While (codeAny_whileLoop (λn s'=>∃ab H',Inv X pins ab H' s'/\W n ab H') ?_ m0 ⟨σ,H,I,w0⟩);rintro n s1 ⟨L,H1,I1,w1⟩;refine Mg hp (bT (hc pins s1 L H1 _ I1 (ac n L H1 w1)) λb s2 ai=>?_);obtain⟨H2,I2,R⟩:=ai;cases b with
 |true =>
  obtain⟨N,hN,R⟩:=R;rw[Th rfl];refine Mg hp (bT (hb pins s2 L H2 _ I2 R) λf s3 O=>?_);cases f with
  |next =>
   obtain⟨J,G,S,Y⟩:=O;obtain⟨m',hm,U⟩:=hN J G Y;exact⟨m',hm,J,G,S,U⟩
  |cont =>
   obtain⟨J,G,S,Y⟩:=O;obtain⟨m',hm,U⟩:=hN J G Y;exact⟨m',hm,J,G,S,U⟩
  |brk=>exact O
  |ret v=>exact O
 |false =>
  rw[Tg DO];exact Ob ⟨L,H2,I2,R⟩
end
structure It where
 go:Nat->Hp->Prop
 Cg:Nat->Hp->V->Hp->Prop
 stop:Nat->Hp->Prop
def gf (X:Cx) (pins:List (Addr×Obj)) (H:Hp) (b:Addr):Prop :=
 H b=none/\b≠X.env.locals/\b∉X.fs/\(b∈X.ex\/X.s₀.heap.objs.size<=b)/\(∀x c,X.env.cells.lookup x=some c->c≠b)/\∀p∈X.pn++pins,p.1≠b
theorem Inv.jy {X:Cx}{pins:List (Addr×Obj)}{σ:St}{H H':Hp}{s:mu}{b:Addr}(I:Inv X pins σ H s) (G:s.heap.objs.size<=b) (L:H' b=none):gf X pins H' b:=by
 refine⟨L,Pf (Kw I.lt G),I.Hg G,.inr (Ko I.sz G),λx c e z=>?_,λp J z=>?_⟩
 .obtain⟨v,q⟩:=I.cell x c e;exact absurd (Kw q.lt (by rw[z];exact G)) (ML _)
 .exact absurd (Kw (Heap.lt_size (I.pin p J).1) (by rw[z];exact G)) (ML _)
structure Turn (P:ti) (w:Kl) (K:Kq) (tg:KJ) (J:It) (fp:List Addr) (it:Addr) (tn:Nat->Heap->Prop):Prop where
 mem:it∈fp
 obj:∀i h,tn i h->∀b∈fp,∃o,h.get? b=some o/\∀v,o.data≠.cell v
 keep:∀i h h',tn i h->(∀b∈fp,∀o,h.get? b=some o->h'.get? b=some o)->tn i h'
 item:∀(X:Cx),X.prog=P->X.w=w->X.K=K->X.calm=true->∀(i:Nat) (pins:List (Addr×Obj)) (s:mu) (σ:St) (H:Hp) (E:Value->mu->Prop),Inv X pins σ H s->(∀b∈fp,gf X pins H b)->tn i s.heap->J.go i H ->
  wpAny (model P w) X.A (pyNext (.ref it)) (λr s1=>∃u,r=some u /\
   wpAny (model P w) X.A (P0 tg (.ref it) u) (λ_ s2=>∃x H',Inv X pins σ H' s2/\RelV x u/\J.Cg i H x H'/\tn (i+1) s2.heap/\∀b∈fp,H' b=none) E s1) E s
 done:∀(X:Cx),X.prog=P->X.w=w->X.K=K->X.calm=true->∀(i:Nat) (pins:List (Addr×Obj)) (s:mu) (σ:St) (H:Hp) (E:Value->mu->Prop),Inv X pins σ H s->(∀b∈fp,gf X pins H b)->tn i s.heap->J.stop i H ->
  wpAny (model P w) X.A (pyNext (.ref it)) (λr s1=>r=none/\Inv X pins σ H s1) E s
 self:∀(A:KA) (i:Nat) (s:mu) (Q:Value->mu->Prop) (E:Value->mu->Prop),tn i s.heap->Q (.ref it) s->wpAny (model P w) A (pyIter (.ref it)) Q E s
abbrev TI:=St->Hp->(It->Hp->Prop)->Prop
def JX (X:Cx) (pins:List (Addr×Obj)) (σ:St) (tg:KJ) (R:It->Hp->Prop) (N:Value) (G:mu):Prop :=
 ∃(L:Addr) (fp:List Addr) (I:Nat->Heap->Prop) (J:It) (H':Hp),N=.ref L/\Inv X pins σ H' G/\Turn X.prog X.w X.K tg J fp L I/\I 0 G.heap/\(∀b∈fp,gf X pins H' b)/\R J H'
def PI (X:Cx) (tg iter:KJ) (wi:TI):Prop :=
 ∀(pins:List (Addr×Obj)) (s:mu) (σ:St) (H:Hp) (R:It->Hp->Prop),Inv X pins σ H s->wi σ H R ->
  wpAny (model X.prog X.w) X.A (eval iter X.env) (λv G=>wpAny (model X.prog X.w) X.A (pyIter v) (JX X pins σ tg R) X.xe G) X.xe s
theorem pz {M:Model}{A:KA}{E:Value->mu->Prop}{s:mu}{tg:KJ}{I:Addr}{u:Value}{o:Obj}{n:String}{vs:Array Value}{Q:Unit->mu->Prop}(J:s.heap.get? I=some o) (N:o.cls=.type n) (hd:o.data=.fields vs)
  (L:["enumerate","zip","dict_itemiterator","dict_reverseitemiterator","odict_iterator","itertools.zip_longest","itertools.pairwise"].contains n=false) (G:Q () s):wpAny M A (P0 tg (.ref I) u) Q E s:=by
 unfold P0;cases tg<;>first
  |exact By G
  |(cases u<;>first
    |exact By G
    |(refine oR (wpAny_load J ?_)
      rw[N,hd];show wpAny M A (if (["enumerate","zip","dict_itemiterator","dict_reverseitemiterator","odict_iterator","itertools.zip_longest","itertools.pairwise"].contains n&&vs[0]?==some (Sz _))=true then _ else _) Q E s;rw[Tg (by intro h;rw[L,Bool.false_and]at h;cases h)];exact By G))
def DX (K:Kq) (a:Addr):It :=
 ⟨λi H=>∃xs x,bq K H a xs/\xs[i]?=some x,λi H x H'=>H'=H/\∀xs,bq K H a xs->xs[i]?=some x,λi H=>∃xs,bq K H a xs/\xs.length<=i⟩
def Ie (K:Kq) (a:Addr):It :=
 ⟨λi H=>∃xs x,bZ K H a xs/\xs[i]?=some x,λi H x H'=>H'=H/\∀xs,bZ K H a xs->xs[i]?=some x,λi H=>∃xs,bZ K H a xs/\xs.length<=i⟩
def BQ (lo:Int) (n:Nat):It:=⟨λi _=>i<n,λi H x H'=>H'=H/\x=.int (lo+i),λi _=>n<=i⟩
theorem yb {P:ti}{w:Kl}{K:Kq}{tg:KJ}(a G:Addr):Turn P w K tg (DX K a) [G] G (λi h=>h.IsListIter G a i) where
 mem:=by simp
 obj:=λi h st b J=>by
  have e:b=G:=(by simpa using J);subst e;obtain⟨o,e,c,d⟩:=st;exact⟨o,e,λv z=>by rw[d]at z;cases z⟩
 keep:=λi h h' st k=>st.at λo e=>k G (by simp) o e
 item:=by
  intro X hP Y R hc i pins s σ H E I L st U;subst hP Y R;obtain⟨xs,x,O,N⟩:=U;obtain⟨its,rv,p,hz⟩:=I.list O;obtain⟨u,hu,ru⟩:=rv.get N;obtain⟨f0,f1,f2,S,f4,f5⟩:=L G (by simp);refine wpAny_pyNext_list_item st p.isList (x:=u) (by simpa using hu) λh' ab sb=>?_;have I1:Inv X pins σ H { s with heap:=h' }:=I.turned (t':=s.toks) (λb o J e=>(sb.2 b J).trans e) f0 f1 S f4 f5;obtain⟨o,e,c,d⟩:=id ab;exact⟨u,rfl,pz (s:={ s with heap:=h' }) e c d av ⟨x,H,I1,ru,⟨rfl,λys hy=>by rw[I.jz hy O];exact N⟩,ab,λb J=>(L b J).1⟩⟩
 done:=by
  intro X hP Y R hc i pins s σ H E I L st U;subst hP Y R;obtain⟨xs,O,N⟩:=U;obtain⟨its,rv,p,hz⟩:=I.list O;obtain⟨f0,f1,f2,S,f4,f5⟩:=L G (by simp);have hl:=rv.length;exact wpAny_pyNext_list_end (I.ok.hd hc) st p.isList (by simp;exact le_of_eq_of_le (id (MU hl)) N) λh' eb=>⟨rfl,I.turned (t':=s.toks) (λb o J e=>eb b o J e) f0 f1 S f4 f5⟩
 self:=λ_ _ _ _ _ st h=>wpAny_pyIter_listiter st h
theorem we {P:ti}{w:Kl}{K:Kq}{tg:KJ}(a G:Addr):Turn P w K tg (Ie K a) [G] G (λi h=>h.IsTupleIter G a i) where
 mem:=by simp
 obj:=λi h st b J=>by
  have e:b=G:=(by simpa using J);subst e;obtain⟨o,e,c,d⟩:=st;exact⟨o,e,λv z=>by rw[d]at z;cases z⟩
 keep:=λi h h' st k=>st.at λo e=>k G (by simp) o e
 item:=by
  intro X hP Y R hc i pins s σ H E I L st U;subst hP Y R;obtain⟨xs,x,O,N⟩:=U;obtain⟨its,rv,p,hz⟩:=I.tuple O;obtain⟨u,hu,ru⟩:=rv.get N;obtain⟨f0,f1,f2,S,f4,f5⟩:=L G (by simp);refine wpAny_pyNext_tuple_item st (show s.heap.IsTuple a its.toArray from p) (x:=u) (by simpa using hu) λh' ab sb=>?_;have I1:Inv X pins σ H { s with heap:=h' }:=I.turned (t':=s.toks) (λb o J e=>(sb.2 b J).trans e) f0 f1 S f4 f5;obtain⟨o,e,c,d⟩:=id ab;exact⟨u,rfl,pz (s:={ s with heap:=h' }) e c d av ⟨x,H,I1,ru,⟨rfl,λys hy=>by rw[I.yc hy O];exact N⟩,ab,λb J=>(L b J).1⟩⟩
 done:=by
  intro X hP Y R hc i pins s σ H E I L st U;subst hP Y R;obtain⟨xs,O,N⟩:=U;obtain⟨its,rv,p,hz⟩:=I.tuple O;obtain⟨f0,f1,f2,S,f4,f5⟩:=L G (by simp);have hl:=rv.length;exact wpAny_pyNext_tuple_end (I.ok.hd hc) st (show s.heap.IsTuple a its.toArray from p) (by simp;exact le_of_eq_of_le (id (MU hl)) N) λh' eb=>⟨rfl,I.turned (t':=s.toks) (λb o J e=>eb b o J e) f0 f1 S f4 f5⟩
 self:=λ_ _ _ _ _ st h=>wpAny_pyIter_tupleiter st h
theorem uz {P:ti}{w:Kl}{K:Kq}{tg:KJ}(G:Addr) (lo:Int) (n:Nat):Turn P w K tg (BQ lo n) [G] G (λi h=>Qc h G (lo+(i:Nat)*1) ((n:Int)-(i:Nat)) 1) where
 mem:=by simp
 obj:=λi h st b J=>by
  have e:b=G:=(by simpa using J);subst e;exact⟨_,st,λv z=>by
   have z':OO _=NR v:=z;cases z'⟩
 keep:=λi h h' st k=>k G (by simp) _ st
 item:=by
  intro X Y S N hc i pins s σ H E I L st R;subst Y S N;obtain⟨f0,f1,f2,O,U,f5⟩:=L G (by simp);have W:=SN (prog:=X.prog) (w:=X.w) (I.ok.hd hc) G lo 1 n;refine W.item i s _ _ R st λv h' tk hv ab kk=>?_;obtain⟨t,rfl⟩:=hv;have I1:Inv X pins σ H { s with heap:=h',toks:=tk }:=I.turned (λb o J e=>kk b o (by simpa using J) e) f0 f1 O U f5;refine⟨_,rfl,pz (s:={ s with heap:=h',toks:=tk }) (n := "range_iterator") ab rfl rfl av ⟨.int (lo+i),H,I1,⟨t,?_⟩,⟨rfl,rfl⟩,ab,λb J=>(L b J).1⟩⟩;rw[Int.mul_one]
 done:=by
  intro X Y S N hc i pins s σ H E I L st R;subst Y S N;obtain⟨f0,f1,f2,O,U,f5⟩:=L G (by simp);exact PD (I.ok.hd hc) st (by have:n<=i:=R;omega) λh' eb=>⟨rfl,I.turned (t':=s.toks) (λb o J e=>eb b o J e) f0 f1 O U f5⟩
 self:=λ_ _ _ _ _ st h=>PF st h
section
variable {X:Cx}{tg:KJ}
def Gp (K:Kq) (tl:TE):TI:=λσ H R=>tl σ H λx H1=>∃a,x=.ref a/\(∃xs,bq K H1 a xs)/\R (DX K a) H1
def Io (K:Kq) (tl:TE):TI:=λσ H R=>tl σ H λx H1=>∃a,x=.ref a/\(∃xs,bZ K H1 a xs)/\R (Ie K a) H1
theorem eK {l:KJ}{tl:TE}(U:PE X l tl):PI X tg l (Gp X.K tl):=by
 intro pins s σ H R I h;refine bT (U pins s σ H _ I h) λv G N=>?_;obtain⟨x,H1,J,O,L⟩:=N;obtain⟨a,e,⟨xs,S⟩,q⟩:=L;subst e;cases O;obtain⟨its,rv,p,hz⟩:=J.list S;refine OP p.isList ?_;refine⟨G.heap.objs.size,[G.heap.objs.size],_,_,H1,rfl,J.kept (t':=G.toks) λb o e=>Heap.get?_push_of_some _ e,yb a _,⟨_,Heap.get?_push_size _ rfl,rfl,rfl⟩,λb Y=>?_,q⟩;have e:b=G.heap.objs.size:=(by simpa using Y);subst e;exact J.jy (sS _) (J.bE.fresh (sS _))
theorem DQ {l:KJ}{tl:TE}(U:PE X l tl):PI X tg l (Io X.K tl):=by
 intro pins s σ H R I h;refine bT (U pins s σ H _ I h) λv G S=>?_;obtain⟨x,H1,J,N,L⟩:=S;obtain⟨a,e,⟨xs,O⟩,q⟩:=L;subst e;cases N;obtain⟨its,rv,p,hz⟩:=J.tuple O;refine wpAny_pyIter_tuple (show G.heap.IsTuple a its.toArray from p) ?_;refine⟨G.heap.objs.size,[G.heap.objs.size],_,_,H1,rfl,J.kept (t':=G.toks) λb o e=>Heap.get?_push_of_some _ e,we a _,⟨_,Heap.get?_push_size _ rfl,rfl,rfl⟩,λb Y=>?_,q⟩;have e:b=G.heap.objs.size:=(by simpa using Y);subst e;exact J.jy (sS _) (J.bE.fresh (sS _))
theorem tI {pins:List (Addr×Obj)}{σ:St}{H:Hp}{s:mu}{R:It->Hp->Prop}{E:Value->mu->Prop}{lo hi:Int}{t u v:SK}{tk:Nat}(I:Inv X pins σ H s) (h1 : -(2^62)<=lo) (h2:lo<2^62) (S : -(2^62)<=hi) (L:hi<2^62)
  (q:R (BQ lo (hi-lo).toNat) H):wpAny (model X.prog X.w) X.A (pyIter (.ref s.heap.objs.size)) (JX X pins σ tg R) E { s with heap:=s.heap.push { cls:=.type "range",data:=.fields #[.int lo t,.int hi u,.int 1 v] },toks:=tk }:=by
 refine QC (SO ..) (small_one h1 h2 S L) ?_;have G:Inv X pins σ H { s with heap:=s.heap.push { cls:=.type "range",data:=.fields #[.int lo t,.int hi u,.int 1 v] },toks:=tk }:=I.kept λb o e=>Heap.get?_push_of_some _ e;refine⟨(s.heap.push { cls:=.type "range",data:=.fields #[.int lo t,.int hi u,.int 1 v] }).objs.size,[(s.heap.push { cls:=.type "range",data:=.fields #[.int lo t,.int hi u,.int 1 v] }).objs.size],_,_,H,rfl,
  G.kept (t':=tk) λb o e=>Heap.get?_push_of_some _ e,uz _ lo (hi-lo).toNat,?_,λb N=>?_,q⟩
 .have O:lo+((0:Nat):Int)*1=lo:=(by simp);have J:(((hi-lo).toNat:Nat):Int)-((0:Nat):Int)=Builtin.Range.rangeSize lo hi 1:=(by rw[rangeSize_one];split<;>omega);show Qc _ _ (lo+((0:Nat):Int)*1) ((((hi-lo).toNat:Nat):Int)-((0:Nat):Int)) 1;rw[O,J];exact Heap.get?_push_size _ rfl
 .have e:b=(s.heap.push { cls:=.type "range",data:=.fields #[.int lo t,.int hi u,.int 1 v] }).objs.size:=(by simpa using N);subst e;exact G.jy (sS _) (G.bE.fresh (sS _))
def Gf (ta:TA):TI:=λσ H R=>ta σ H λvs H1=>∃j:Int,vs=[.int j] /\ -(2^62)<=j/\j<2^62/\R (BQ 0 j.toNat) H1
def GY (ta:TA):TI:=λσ H R=>ta σ H λvs H1=>y7 λ(i j:Int)=>rF (vs=[.int i,.int j]) ((-(2^62)<=i/\i<2^62 /\ -(2^62)<=j/\j<2^62)) (R (BQ i (j-i).toNat) H1)
theorem yq {a:KJ}{ta:TA}{p pos:Nj}(S:Gl X "range") (J:X.mg "range" = none) (N:PA X [a] ta) (hs:starEach [a] X.env=[(false,eval a X.env)]:=by rfl):PI X tg (.Call (.Name "range" p) [a] [] pos) (Gf ta):=by
 intro pins s σ H R I h;refine Call_ (gE I S J RE (Lk (bT (N pos pins s σ H _ I h) λus s1 U=>?_) hs rfl));obtain⟨vs,H1,Y,L,G⟩:=U;obtain⟨j,e,G,q2,q⟩:=G;subst e;cases L with
 |cons r O =>
  cases O;obtain⟨t,rfl⟩:=r;exact call_range_1 (tI Y af af G q2 (by simpa using q))
theorem dH {a b:KJ}{ta:TA}{p pos:Nj}(N:Gl X "range") (hm:X.mg "range" = none) (ha:PA X [a,b] ta) (hs:starEach [a,b] X.env=[(false,eval a X.env),(false,eval b X.env)]:=by rfl) (L:starEach [b] X.env=[(false,eval b X.env)]:=by rfl) :
  PI X tg (.Call (.Name "range" p) [a,b] [] pos) (GY ta):=by
 intro pins s σ H R I h;refine Call_ (gE I N hm RE (Lk (bT (ha pos pins s σ H _ I h) λus s1 ⟨vs,H1,I1,r1,G⟩=>?_) (by rw[hs,L]) (by rw[L];rfl)));obtain⟨i,j,e,⟨G,U,O,S⟩,q⟩:=G;subst e;cases r1 with
 |cons r J =>
  cases J with
  |cons Y J =>
   cases J;obtain⟨t,rfl⟩:=r;obtain⟨t',rfl⟩:=Y;exact call_range_2 (tI I1 G U O S q)
def Jy (wi:TI) (g:TG) (tb:TS):TS:=λD σ H=>wi σ H λJ H1=>∃W:Nat->Nat->St->Hp->Prop,(∃m,W 0 m σ H1)/\∀i m σ H,W i m σ H ->
 (J.stop i H/\D.nx σ H)\/(J.go i H/\∃N:St->Hp->Prop,(∀I H',N I H'->∃G,G<m/\W (i+1) G I H')/\∀x H',J.Cg i H x H'->g x σ H' λL H2=>tb { D with nx:=N,ct:=N,bk:=D.nx } L H2)
def nu (fp:List Addr) (h:Heap):List (Addr×Obj):=fp.filterMap λb=>(h.get? b).map λo=>(b,o)
theorem gz {fp:List Addr}{h:Heap}{b:Addr}{o:Obj}(G:b∈fp) (e:h.get? b=some o):(b,o)∈nu fp h:=Ou.mpr ⟨b,G,by rw[e];rfl⟩
theorem yj {fp:List Addr}{h:Heap}{p:Addr×Obj}(I:p∈nu fp h):p.1∈fp/\h.get? p.1=some p.2:=by
 obtain⟨b,G,e⟩:=Ou.mp I;cases q:h.get? b with
 |none=>rw[q]at e;cases e
 |some o =>
  rw[q]at e;have J:(b,o)=p:=ro e;subst J;exact⟨G,q⟩
theorem Inv.pinned {pins:List (Addr×Obj)}{σ:St}{H:Hp}{s:mu}{fp:List Addr}(I:Inv X pins σ H s) (S:∀b∈fp,gf X pins H b) (R:∀b∈fp,∃o,s.heap.get? b=some o/\∀v,o.data≠.cell v):Inv X (pins++nu fp s.heap) σ H s :=
 I.lM λp U=>(pa.mp U).elim (λz=>I.pin p (KL _ z)) λz=>by
  obtain⟨G,e⟩:=yj z;obtain⟨N,L,O,_⟩:=S p.1 G;obtain⟨o,J,d⟩:=R p.1 G;rw[e]at J;cases J;exact⟨e,N,L,O,d⟩
theorem Inv.nD {pins pl:List (Addr×Obj)}{σ:St}{H:Hp}{s:mu}(I:Inv X (pins++pl) σ H s):Inv X pins σ H s:=I.lM λp G=>I.pin p (KL _ (Lp _ G))
theorem cL {iter:KJ}{body:List KO}{wi:TI}{g:TG}{tb:TS}{pos:Nj}(hp:PassesOwn (model X.prog X.w) X.A X.env X.xe) (hc:X.calm=true) (hi:PI X tg iter wi) (hg:PG X tg g) (L:uc X body tb)
  (hs:∀x,OQ iter X.env x=pure x:=by intro _;rfl):PS X (.For tg iter body [] pos) (Jy wi g tb):=by
 intro pins s σ H D I h;refine wpAny_For (bT (hi pins s σ H _ I h) λv s1 h1=>bT h1 λa6 s2 h2=>?_) hs;obtain⟨it,fp,tn,J,H2,e,I2,T,a5,f2,W,⟨m0,w0⟩,a4⟩:=h2;subst e;have ab:∀{H':Hp},(∀b∈fp,H' b=none)->∀b∈fp,gf X pins H' b:=λhn b L=>⟨hn b L,(f2 b L).2⟩;refine codeAny_forLoop_any (λn s'=>∃i U H',Inv X pins U H' s'/\tn i s'.heap/\(∀b∈fp,H' b=none)/\W i n U H') ?_ m0 ⟨0,σ,H2,I2,a5,λb L=>(f2 b L).1,w0⟩;rintro n s3 ⟨i,Y,H3,I3,ai,am,w3⟩;rcases a4 i n Y H3 w3 with⟨aB,qn⟩|⟨go,N,hN,step⟩
 .refine Mg hp (bT (T.done X rfl rfl rfl hc i pins s3 Y H3 X.xe I3 (ab am) ai aB) λr s4 a0=>?_);obtain⟨hr,I4⟩:=a0;subst hr;exact Ob ⟨Y,H3,I4,qn⟩
 .refine Mg hp (bT (T.item X rfl rfl rfl hc i pins s3 Y H3 X.xe I3 (ab am) ai go) λr s4 as=>?_);obtain⟨u,hr,h4⟩:=as;subst hr;refine Mg hp (bT h4 λ_ s5 a2=>?_);obtain⟨x,H5,I5,r5,y5,ac,a1⟩:=a2;have ap:=I5.pinned (ab a1) (T.obj _ _ ac);refine Mg hp (bT (hg _ s5 Y H5 x u _ ap r5 (step x H5 y5)) λ_ s6 aT=>?_);obtain⟨a3,H6,I6,q6⟩:=aT;refine Mg hp (bT (L _ s6 a3 H6 _ I6 q6) λf s7 S=>?_);have again:∀{G:St}{O:Hp},Inv X (pins++nu fp s5.heap) G O s7->N G O->∃m,m<n/\∃i U H',Inv X pins U H' s7/\tn i s7.heap/\(∀b∈fp,H' b=none)/\W i m U H':=λ{G O} R n7=>by
   obtain⟨m',hm,w7⟩:=hN G O n7;refine⟨m',hm,i+1,G,O,R.nD,T.keep _ _ _ ac λb L o e=>(R.pin (b,o) (KL _ (KL _ (gz L e)))).1,λb L=>?_,w7⟩;obtain⟨o,e,d⟩:=T.obj _ _ ac b L;exact(R.pin (b,o) (KL _ (KL _ (gz L e)))).2.1
  cases f with
  |next=>obtain⟨G,O,R,n7⟩:=S;exact again R n7
  |cont=>obtain⟨G,O,R,n7⟩:=S;exact again R n7
  |brk=>obtain⟨G,O,R,S⟩:=S;exact⟨G,O,R.nD,S⟩
  |ret v=>obtain⟨x7,G,O,R,r7,S⟩:=S;exact⟨x7,G,O,R.nD,r7,S⟩
end
theorem eh {K:Kq}{a:Addr}{xs:List V}{g:TG}{tb:TS}{D:Ends}{σ:St}{H:Hp}(Pv:Nat->St->Hp->Prop) (S:Pv 0 σ H) (R:∀i σ H,i<=xs.length->Pv i σ H->bq K H a xs)
  (hs:∀i x σ H,xs[i]?=some x->Pv i σ H->g x σ H λJ H2=>tb { D with nx:=Pv (i+1),ct:=Pv (i+1),bk:=D.nx } J H2) (hd:∀σ H,Pv xs.length σ H->D.nx σ H) :
  ∃W:Nat->Nat->St->Hp->Prop,(∃m,W 0 m σ H)/\∀i m σ H,W i m σ H ->
   ((DX K a).stop i H/\D.nx σ H)\/((DX K a).go i H/\∃N:St->Hp->Prop,(∀I H',N I H'->∃L,L<m/\W (i+1) L I H')/\∀x H',(DX K a).Cg i H x H'->g x σ H' λJ H2=>tb { D with nx:=N,ct:=N,bk:=D.nx } J H2):=by
 refine⟨λi m σ H=>m=xs.length-i/\i<=xs.length/\Pv i σ H,⟨xs.length,by simp,KI _,S⟩,?_⟩;rintro i m σ H ⟨rfl,hi,p⟩;have q:=R i σ H hi p;by_cases G:i<xs.length
 .refine .inr ⟨⟨xs,xs[i],q,by simp[G]⟩,Pv (i+1),λI H' O=>⟨xs.length-(i+1),Lf (LI xs) i G,rfl,G,O⟩,λx H' y=>?_⟩;obtain⟨e,y⟩:=y;subst e;exact hs i x σ _ (y xs q) p
 .have e:i=xs.length:=af;subst e;exact .inl ⟨⟨xs,q,sS _⟩,hd σ H p⟩
theorem eY {lo:Int}{n:Nat}{g:TG}{tb:TS}{D:Ends}{σ:St}{H:Hp}(Pv:Nat->St->Hp->Prop) (R:Pv 0 σ H)
  (hs:∀i σ H,i<n->Pv i σ H->g (.int (lo+i)) σ H λJ H2=>tb { D with nx:=Pv (i+1),ct:=Pv (i+1),bk:=D.nx } J H2) (hd:∀σ H,Pv n σ H->D.nx σ H) :
  ∃W:Nat->Nat->St->Hp->Prop,(∃m,W 0 m σ H)/\∀i m σ H,W i m σ H ->
   ((BQ lo n).stop i H/\D.nx σ H)\/((BQ lo n).go i H/\∃N:St->Hp->Prop,(∀I H',N I H'->∃L,L<m/\W (i+1) L I H')/\∀x H',(BQ lo n).Cg i H x H'->g x σ H' λJ H2=>tb { D with nx:=N,ct:=N,bk:=D.nx } J H2):=by
 refine⟨λi m σ H=>m=n-i/\i<=n/\Pv i σ H,⟨n,by simp,KI _,R⟩,?_⟩;rintro i m σ H ⟨rfl,hi,p⟩;by_cases G:i<n
 .refine .inr ⟨G,Pv (i+1),λI H' O=>⟨n-(i+1),Lf n i G,rfl,G,O⟩,λx H' y=>?_⟩;obtain⟨e,y⟩:=y;subst e y;exact hs i σ _ G p
 .have e:i=n:=af;subst e;exact .inl ⟨sS _,hd σ H p⟩
abbrev R2:=V->V->Hp->VK->Prop
def j4 (X:Cx) (f:Value->Value->QP Value) (r:R2):Prop :=
 ∀(pins:List (Addr×Obj)) (s:mu) (σ:St) (H:Hp) (x y:V) (v u:Value) (Q:VK),Inv X pins σ H s->RelV x v->RelV y u->r x y H Q ->
  wpAny (model X.prog X.w) X.A (f v u) (EP X pins σ Q) X.xe s
def Im (X:Cx) (f:Value->QP Value) (r:V->Hp->VK->Prop):Prop :=
 ∀(pins:List (Addr×Obj)) (s:mu) (σ:St) (H:Hp) (x:V) (v:Value) (Q:VK),Inv X pins σ H s->RelV x v->r x H Q ->
  wpAny (model X.prog X.w) X.A (f v) (EP X pins σ Q) X.xe s
def dt (X:Cx) (f:Value) (r:List V->Hp->VK->Prop):Prop :=
 ∀(pins:List (Addr×Obj)) (s:mu) (σ:St) (H:Hp) (xs:List V) (us:List Value) (Q:VK),Inv X pins σ H s->Vals xs us->r xs H Q ->
  wpAny (model X.prog X.w) X.A (call f us) (EP X pins σ Q) X.xe s
def Bw (r:R2) (ta tb:TE):TE:=λσ H Q=>ta σ H λx H1=>tb σ H1 λy H2=>r x y H2 Q
def J5 (r:V->Hp->VK->Prop) (ta:TE):TE:=λσ H Q=>ta σ H λx H1=>r x H1 Q
inductive rI (C:Int->Int->Prop) (g:Int->Int->V) (x:V) (y:V) (H:Hp) (Q:VK):Prop
 |mk (i:_) (j:_) (_:x=.int i) (_:y=.int j) (_:C i j) (_:Q (g i j) H):rI C g x y H Q
inductive Dr (g:Int->Int->V) (x:V) (y:V) (H:Hp) (Q:VK):Prop
 |mk (i:_) (j:_) (_:x=.int i) (_:y=.int j) (_:Q (g i j) H):Dr g x y H Q
inductive rU (g:Int->V) (x:V) (H:Hp) (Q:VK):Prop
 |mk (i:_) (_:x=.int i) (_:Q (g i) H):rU g x H Q
section
variable {X:Cx}{a b c:KJ}{ta tb tc:TE}{pos:Nj}
theorem EO (U:PE X a ta) (hb:PE X b tb) {pins:List (Addr×Obj)}{s:mu}{σ:St}{H:Hp}{R:V->V->Hp->Prop}(I:Inv X pins σ H s)
  (h:ta σ H λx H1=>tb σ H1 λy H2=>R x y H2) {Q:Value->mu->Prop}{f:Value->Value->QP Value}
  (hf:∀v u G x y H2,Inv X pins σ H2 G->RelV x v->RelV y u->R x y H2->wpAny (model X.prog X.w) X.A (f v u) Q X.xe G) :
  wpAny (model X.prog X.w) X.A (eval a X.env) (λv O=>wpAny (model X.prog X.w) X.A (eval b X.env) (λu ab=>wpAny (model X.prog X.w) X.A (f v u) Q X.xe ab) X.xe O) X.xe s:=by
 refine bT (U pins s σ H _ I h) λv S ai=>?_;obtain⟨x,H1,I1,N,J⟩:=ai;refine bT (hb pins S σ H1 _ I1 J) λu G ac=>?_;obtain⟨y,H2,Y,L,q2⟩:=ac;exact hf v u G x y H2 Y N L q2
theorem ay {G:QS}{r:R2}(U:j4 X (N4 G) r) (L:PE X a ta) (S:PE X b tb):PE X (.BinOp a G b pos) (Bw r ta tb):=by
 intro pins s σ H Q I h;exact Qd (EO L S I h λv u J x y H2 R O N q=>U pins J σ H2 x y v u Q R O N q)
theorem FK {G:UnaryOp}{r:V->Hp->VK->Prop}(S:Im X (unaryOp G) r) (R:PE X a ta):PE X (.UnaryOp G a pos) (J5 r ta):=by
 intro pins s σ H Q I h;exact UnaryOp_ (bT (R pins s σ H _ I h) λv O L=>by obtain⟨x,H1,U,N,J⟩:=L;exact S pins O σ H1 x v Q U N J)
theorem HP {f:Value->Value->QP Value}{C:Int->Int->Prop}{g:Int->Int->Int}
  (rule:∀(i j:Int) (t u:SK) (s:mu) (Q:Value->mu->Prop) (E:Value->mu->Prop),C i j->Q (.int (g i j) s.toks) { s with toks:=s.toks+1 }->wpAny (model X.prog X.w) X.A (f (.int i t) (.int j u)) Q E s) :
  j4 X f (rI C λi j=>.int (g i j)):=by
 intro pins s σ H x y v u Q I J G h;obtain⟨i,j,rfl,rfl,L,q⟩:=h;obtain⟨t,rfl⟩:=J;obtain⟨t',rfl⟩:=G;exact rule i j t t' s _ _ L ⟨.int (g i j),H,I.tok _,⟨_,rfl⟩,q⟩
theorem Gn {f:Value->Value->QP Value}{g:Int->Int->Int}
  (rule:∀(i j:Int) (t u:SK) (s:mu) (Q:Value->mu->Prop) (E:Value->mu->Prop),Q (.int (g i j) s.toks) { s with toks:=s.toks+1 }->wpAny (model X.prog X.w) X.A (f (.int i t) (.int j u)) Q E s) :
  j4 X f (Dr λi j=>.int (g i j)):=by
 intro pins s σ H x y v u Q I J G h;obtain⟨i,j,rfl,rfl,q⟩:=h;obtain⟨t,rfl⟩:=J;obtain⟨t',rfl⟩:=G;exact rule i j t t' s _ _ ⟨.int (g i j),H,I.tok _,⟨_,rfl⟩,q⟩
theorem Fe {f:Value->Value->QP Value}{g:Int->Int->Bool}
  (rule:∀(i j:Int) (t u:SK) (s:mu) (Q:Value->mu->Prop) (E:Value->mu->Prop),Q (.bool (g i j)) s->wpAny (model X.prog X.w) X.A (f (.int i t) (.int j u)) Q E s) :
  j4 X f (Dr λi j=>.bl (g i j)):=by
 intro pins s σ H x y v u Q I J G h;obtain⟨i,j,rfl,rfl,q⟩:=h;obtain⟨t,rfl⟩:=J;obtain⟨t',rfl⟩:=G;exact rule i j t t' s _ _ ⟨.bl (g i j),H,I,rfl,q⟩
def IK (i j:Int):Prop:=0<j/\j<1073741824
def JC (i j:Int):Prop:=0<=j/\j<=1000000/\i.natAbs<2^64
def ye (i j:Int):Prop:=(-(2^64)<i/\i<2^64)\/(-(2^64)<j/\j<2^64)
theorem ye.ok {i j:Int}(h:ye i j):IntMulOk i j:=by
 rcases h with⟨h1,h2⟩|⟨h1,h2⟩
 .exact .of_left (intBits_le_64 h1 h2)
 .exact .of_right (intBits_le_64 h1 h2)
theorem aV:j4 X (N4 .Add) (Dr λi j=>.int (i+j)):=Gn λ_ _ _ _ _ _ _ q=>add_int q
theorem kl:j4 X (N4 .Sub) (Dr λi j=>.int (i-j)):=Gn λ_ _ _ _ _ _ _ q=>sub_int q
theorem dR:j4 X (N4 .Mult) (rI ye λi j=>.int (i*j)):=HP λ_ _ _ _ _ _ _ G q=>mul_int q G.ok
theorem bB:j4 X (N4 .FloorDiv) (rI IK λi j=>.int (i/j)):=HP λi j _ _ _ _ _ G q=>by
 have h1:(0:Int)<j:=G.1;have h2:j<1073741824:=G.2;exact floordiv_int af (by rw[Int.fdiv_eq_ediv_of_nonneg i af];exact q) (.inl (PyProof.noPylong_small af))
theorem bu:j4 X (N4 .Mod) (rI (λ_ j=>0<j) λi j=>.int (i%j)):=HP λi j _ _ _ _ _ G q=>by
 have h1:(0:Int)<j:=G;exact mod_int' af (by rw[Ov i af];exact q)
theorem gQ:j4 X (N4 .Pow) (rI JC λi j=>.int (i^j.toNat)):=HP λ_ _ _ _ _ _ _ G q=>pow_int_small G.1 G.2.1 G.2.2 q
theorem J9 {f:Value->QP Value}{g:Int->Int}
  (rule:∀(i:Int) (t:SK) (s:mu) (Q:Value->mu->Prop) (E:Value->mu->Prop),Q (.int (g i) s.toks) { s with toks:=s.toks+1 }->wpAny (model X.prog X.w) X.A (f (.int i t)) Q E s) :
  Im X f (rU λi=>.int (g i)):=by
 intro pins s σ H x v Q I G h;obtain⟨i,rfl,q⟩:=h;obtain⟨t,rfl⟩:=G;exact rule i t s _ _ ⟨.int (g i),H,I.tok _,⟨_,rfl⟩,q⟩
theorem D0:Im X (unaryOp .USub) (rU λi=>.int (-i)):=J9 λ_ _ _ _ _ q=>neg_int q
end
def tR:V->V->Bool
 |.non,.non=>true|.non,.int _=>true|.int _,.non=>true|.non,.bl _=>true|.bl _,.non=>true|.non,.str _=>true|.str _,.non=>true
 |.int _,.int _=>true|.bl _,.bl _=>true|.str _,.str _=>true|.byt _,.byt _=>true
 |.int _,.str _=>true|.str _,.int _=>true|.bl _,.str _=>true|.str _,.bl _=>true
 |_,_=>false
def Eu:R2:=λx y H Q=>tR x y=true/\Q (.bl (decide (x=y))) H
def Kd:R2:=λx y H Q=>tR x y=true/\Q (.bl (!decide (x=y))) H
theorem xp {i j:Int}:decide (V.int i=V.int j)=(i==j):=by
 rw[MF];simp
theorem Ai {i j:Bool}:decide (V.bl i=V.bl j)=(i==j):=by
 rw[MF];simp
theorem xg {i j:Str}:decide (V.str i=V.str j)=(i==j):=by
 rw[MF];simp
theorem xc {i j:Array UInt8}:decide (V.byt i=V.byt j)=(i.toList==j.toList):=by
 rw[MF];cases i;cases j;simp
section
variable {X:Cx}{a b c:KJ}{ta tb tc:TE}{pos:Nj}
theorem bK {pins:List (Addr×Obj)}{σ:St}{H:Hp}{s:mu}{Q:VK}{k G:Bool}(I:Inv X pins σ H s) (q:Q (.bl k) H) (e:k=G):EP X pins σ Q (.bool G) s:=by
 subst e;exact⟨.bl k,H,I,rfl,q⟩
theorem bR:j4 X (LB .Eq) Eu:=by
 intro pins s σ H x y v u Q I J G h;obtain⟨hs,q⟩:=h;cases x with
 |non =>
  cases J;cases y with
  |non=>cases G;exact PySem.EqNone.eq_none_none (bK I q (by simp))
  |bl j=>cases G;exact PySem.EqNone.eq_none_bool (bK I q (by simp))
  |int j=>obtain⟨t',rfl⟩:=G;exact PySem.EqNone.eq_none_int (bK I q (by simp))
  |str j=>obtain⟨t',rfl⟩:=G;exact PySem.EqNone.eq_none_str (bK I q (by simp))
  |_=>exact absurd (show false=true from hs) DO
 |bl i =>
  cases J;cases y with
  |non=>cases G;exact PySem.EqNone.eq_bool_none (bK I q (by simp))
  |bl j=>cases G;exact eq_bool (bK I q Ai)
  |str j=>obtain⟨t',rfl⟩:=G;exact Se (bK I q (by simp))
  |_=>exact absurd (show false=true from hs) DO
 |int i =>
  obtain⟨t,rfl⟩:=J;cases y with
  |non=>cases G;exact PySem.EqNone.eq_int_none (bK I q (by simp))
  |int j=>obtain⟨t',rfl⟩:=G;exact eq_int (bK I q xp)
  |str j=>obtain⟨t',rfl⟩:=G;exact Sj (bK I q (by simp))
  |_=>exact absurd (show false=true from hs) DO
 |str i =>
  obtain⟨t,rfl⟩:=J;cases y with
  |non=>cases G;exact PySem.EqNone.eq_str_none (bK I q (by simp))
  |bl j=>cases G;exact Sf (bK I q (by simp))
  |int j=>obtain⟨t',rfl⟩:=G;exact Sk (bK I q (by simp))
  |str j=>obtain⟨t',rfl⟩:=G;exact eq_str (bK I q xg)
  |_=>exact absurd (show false=true from hs) DO
 |byt i =>
  obtain⟨t,rfl⟩:=J;cases y with
  |byt j=>obtain⟨t',rfl⟩:=G;exact PySem.W.eq_bytes (bK I q xc)
  |_=>exact absurd (show false=true from hs) DO
 |_=>cases y<;>exact absurd (show false=true from hs) DO
theorem C9:j4 X (LB .NotEq) Kd:=by
 intro pins s σ H x y v u Q I J G h;obtain⟨hs,q⟩:=h;cases x with
 |non =>
  cases J;cases y with
  |non=>cases G;exact PySem.EqNone.ne_none_none (bK I q (by simp))
  |bl j=>cases G;exact PySem.EqNone.ne_none_bool (bK I q (by simp))
  |int j=>obtain⟨t',rfl⟩:=G;exact PySem.EqNone.ne_none_int (bK I q (by simp))
  |str j=>obtain⟨t',rfl⟩:=G;exact PySem.EqNone.ne_none_str (bK I q (by simp))
  |_=>exact absurd (show false=true from hs) DO
 |bl i =>
  cases J;cases y with
  |non=>cases G;exact PySem.EqNone.ne_bool_none (bK I q (by simp))
  |bl j=>cases G;exact ne_bool (bK I q (congrArg not Ai))
  |str j=>obtain⟨t',rfl⟩:=G;exact Sg (bK I q (by simp))
  |_=>exact absurd (show false=true from hs) DO
 |int i =>
  obtain⟨t,rfl⟩:=J;cases y with
  |non=>cases G;exact PySem.EqNone.ne_int_none (bK I q (by simp))
  |int j=>obtain⟨t',rfl⟩:=G;exact ne_int (bK I q (congrArg not xp))
  |str j=>obtain⟨t',rfl⟩:=G;exact Sl (bK I q (by simp))
  |_=>exact absurd (show false=true from hs) DO
 |str i =>
  obtain⟨t,rfl⟩:=J;cases y with
  |non=>cases G;exact PySem.EqNone.ne_str_none (bK I q (by simp))
  |bl j=>cases G;exact Sh (bK I q (by simp))
  |int j=>obtain⟨t',rfl⟩:=G;exact Sm (bK I q (by simp))
  |str j=>obtain⟨t',rfl⟩:=G;exact ne_str (bK I q (congrArg not xg))
  |_=>exact absurd (show false=true from hs) DO
 |byt i =>
  obtain⟨t,rfl⟩:=J;cases y with
  |byt j=>obtain⟨t',rfl⟩:=G;exact PySem.W.ne_bytes (bK I q (congrArg not xc))
  |_=>exact absurd (show false=true from hs) DO
 |_=>cases y<;>exact absurd (show false=true from hs) DO
theorem gH:j4 X (LB .Lt) (Dr λi j=>.bl (decide (i<j))):=Fe λ_ _ _ _ _ _ _ q=>lt_int q
theorem ij:j4 X (LB .Gt) (Dr λi j=>.bl (decide (j<i))):=Fe λ_ _ _ _ _ _ _ q=>gt_int q
theorem FJ:j4 X (LB .GtE) (Dr λi j=>.bl (decide (j<=i))):=Fe λ_ _ _ _ _ _ _ q=>ge_int q
theorem EA:j4 X (LB .Is) (λx y H Q=>y=.non/\Q (.bl (decide (x=.non))) H):=by
 intro pins s σ H x y v u Q I G J h;obtain⟨rfl,q⟩:=h;cases J;refine is_none_gen (bK I q ?_);cases x<;>first
  |(cases G;rfl)
  |(obtain⟨t,rfl⟩:=G;rfl)
theorem aI (b:KJ) {G:SM}(h:G≠.In:=by decide) (h2:G≠.NotIn:=by decide):Nk G b=false:=by
 have J:(G==CmpOp.In)=false:=by cases G<;>first|rfl|exact absurd rfl h
 have I:(G==CmpOp.NotIn)=false:=by cases G<;>first|rfl|exact absurd rfl h2
 cases b<;>simp[Nk,J,I]
theorem jM {G:SM}{r:R2}(Y:j4 X (LB G) r) (N:PE X a ta) (U:PE X b tb) (J:Nk G b=false):PE X (.Compare a [G] [b] pos) (Bw r ta tb):=by
 intro pins s σ H Q I h;exact wpAny_Compare1 (EO N U I h λv u L x y H2 S R O q=>Y pins L σ H2 x y v u Q S R O q) J
inductive zJ (t:TE) (Q:Bool->Hp->Prop) (x:V) (H':Hp):Prop
 |mk (k:_) (_:x=.bl k) (_:Q k H'):zJ t Q x H'
def lW (t:TE):TT:=λσ H Q=>t σ H λx H'=>zJ t Q x H'
theorem aE {G:SM}{r:R2}(ho:j4 X (LB G) r) (Y:PE X a ta) (hb:PE X b tb) (J:Nk G b=false):PT X (.Compare a [G] [b] pos) (lW (Bw r ta tb)):=by
 intro pins s σ H Q I h;refine P2 (bT (Y pins s σ H _ I h) λv S ⟨x,H1,I1,R,L⟩=>bT (hb pins S σ H1 _ I1 L) λu O ⟨y,H2,I2,N,q2⟩ =>
  bT (ho pins O σ H2 x y v u _ I2 R N q2) λc s3 ⟨z,H3,U,r3,k,e,q3⟩=>?_) J
 subst e;cases r3;exact LF ⟨H3,U,q3⟩
theorem l9:(sizeLine:Nat)<2^63:=by rw[BY];decide
theorem vals1 {x:V}{us:List Value}(r:Vals [x] us):∃u,us=[u]/\RelV x u:=by
 cases r with
 |cons I G=>cases G;exact⟨_,rfl,I⟩
theorem vals2 {x y:V}{us:List Value}(r:Vals [x,y] us):∃u G,us=[u,G]/\RelV x u/\RelV y G:=by
 cases r with
 |cons J I =>
  cases I with
  |cons L N=>cases N;exact⟨_,_,rfl,J,L⟩
theorem pB (J:X.calm=true):dt X (.builtin "max") (λxs H Q=>∃i j,xs=[.int i,.int j]/\Q (.int (if j>i then j else i)) H):=by
 intro pins s σ H xs us Q I r h;obtain⟨i,j,rfl,q⟩:=h;obtain⟨u,L,rfl,⟨t,rfl⟩,⟨t',rfl⟩⟩:=vals2 r;refine max_two_ints (I.ok.hd J) λh' tk k=>⟨_,H,I.kept k,?_,q⟩;by_cases G:j>i
 .rw[Th G,Th G];exact⟨_,rfl⟩
 .rw[Tg G,Tg G];exact⟨_,rfl⟩
theorem pb (J:X.calm=true):dt X (.builtin "min") (λxs H Q=>∃i j,xs=[.int i,.int j]/\Q (.int (if j<i then j else i)) H):=by
 intro pins s σ H xs us Q I r h;obtain⟨i,j,rfl,q⟩:=h;obtain⟨u,L,rfl,⟨t,rfl⟩,⟨t',rfl⟩⟩:=vals2 r;refine min_two_ints (I.ok.hd J) λh' tk k=>⟨_,H,I.kept k,?_,q⟩;by_cases G:j<i
 .rw[Th G,Th G];exact⟨_,rfl⟩
 .rw[Tg G,Tg G];exact⟨_,rfl⟩
theorem eV:dt X (.type "int") (λxs H Q=>(∃i,xs=[.int i]/\Q (.int i) H)\/∃k,xs=[.bl k]/\Q (.int (if k then 1 else 0)) H):=by
 intro pins s σ H xs us Q I r h;rcases h with⟨i,rfl,q⟩|⟨k,rfl,q⟩
 .obtain⟨u,rfl,t,rfl⟩:=vals1 r;exact call_int_int ⟨.int i,H,I,⟨_,rfl⟩,q⟩
 .obtain⟨u,rfl,G⟩:=vals1 r;cases G;exact call_int_bool ⟨.int (if k then 1 else 0),H,I.tok _,⟨_,rfl⟩,q⟩
end
structure wx (h:Heap) (x dx C:Addr) (mA:Str->Option Value):Prop where
 obj:h.get? x=some (instObj C dx)
 ns:h.Ns1 dx mA
 ne:dx≠x
theorem yM {h:Heap}{dx:Addr}{mA:Str->Option Value}(n:h.Ns1 dx mA):∃od,h.get? dx=some od/\∀name,lookIn name od=some (mA name):=by
 obtain⟨o,es,ep,O,hd,I,_,G⟩:=n;refine⟨o,O,λname=>?_⟩;have e:=G name;unfold nsFind findBy at e;rw[<-Array.find?_toList]at e;unfold lookIn;rw[hd];dsimp only
 set_option tactic.hygienic true in split
 .rename_i y q;rw[q]at e;exact congrArg some e
 .rename_i q;rw[q]at e;have a:es.toList.any (·.refKey)=false:=by
   rw[QU];intro y J;obtain⟨z,t,N⟩:=I y (Array.mem_toList_iff.mp J);simp[DictEntry.refKey,N]
  have L:¬ es.toList.any (·.refKey)=true:=(by rw[a];exact DO);rw[Tg L];exact congrArg some e
theorem wx.look {h:Heap}{x dx C:Addr}{mA:Str->Option Value}(I:wx h x dx C mA):∃od,PySem.W.InstAt h x (instObj C dx) C (some od)/\∀name,lookIn name od=some (mA name):=
 let ⟨od,J,G⟩:=yM I.ns
 ⟨od,⟨I.obj,rfl,rfl,J⟩,G⟩
section
variable {prog:ti}{w:Kl}{A:KA}{E:Value->mu->Prop}{s:mu}{K:Kq}{x dx C f:Addr}{mA:Str->Option Value}{name:Str}{v:Value}
theorem get_map {U:Bool}{Q:Value->mu->Prop}(X:K.In s.heap) (I:wx s.heap x dx C mA) (R:RF K C name=true) (L:Sv K C=true)
  (O:Ow K (.ref C) name=some none) (N:mA name=some v) (S:handedIn v=true) (h:Q v { s with toks:=s.toks+1 }) :
  wpAny (model prog w) A (getAttr (.ref x) name U) Q E s:=by
 obtain⟨od,J,G⟩:=I.look;exact PySem.W.get_value X J (Rk R).1 (PySem.W.findObj_own L O rfl (by rw[G,N])) S h
theorem zq {pl:QP Bool}{Q:Value×List Value->mu->Prop}(X:K.In s.heap) (I:wx s.heap x dx C mA) (G:RF K C name=true)
  (R:Ow K (.ref C) name=some (some (.ref f))) (O:isFn K (.ref f)=true) (N:mA name=none) (h:Q (.ref f,[.ref x]) s) :
  wpAny (model prog w) A (Ph (.ref x) name pl) Q E s:=by
 obtain⟨od,J,L⟩:=I.look;exact PySem.W.method_fn X J (Rk G).1 (Rk G).2 R (beq_iff_eq.mp O) (by show(lookIn name od).map (·.isSome)=some false;rw[L,N];rfl) h
theorem Cs {ns:List Str}{Q:Unit->mu->Prop}(X:K.In s.heap) (I:wx s.heap x dx C mA)
  (hs:Ow K (.ref C) "__setattr__" = some (some (.builtin "object.__setattr__"))) (hp:plainOver K C=true) (S:takerIn K C name=some none) (R:Sv K C=true)
  (U:QM mA ns) (hsz:ns.length<=sizeLine)
  (h:∀h',wx h' x dx C (λy=>if y=name then some v else mA y)->Heap.SameBut dx s.heap h'->Q () { s with heap:=h',toks:=s.toks+2 }) :
  wpAny (model prog w) A (setAttr (.ref x) name v) Q E s:=by
 obtain⟨od,J,hl⟩:=I.look;refine PySem.W.set_plain X J hs (PySem.W.osa_open (s:={ s with toks:=s.toks+1 }) (r:=none) X J hp S λb=>?_);obtain⟨cd,hc,ab⟩:=PySem.W.any_some R;have hx:s.heap.get? x=some ⟨.ref C,some dx,.plain, #[]⟩:=I.obj;refine oR (By (oR (oR (wpAny_loadPart hx (oR (S9 (s:={ s with toks:=s.toks+1 }) (PySem.W.looks_clsIn X hc) ?_))))));rw[ab];refine By (a:=some dx) (oR (By (oR ?_)));refine wpAny_nsSet1 (s:={ s with toks:=s.toks+1 }) I.ns λh' L G=>?_;obtain⟨oD,ac,ai,N,O,Y⟩:=L.count (PySem.Within.cons name v U);refine oR (wpAny_lookBehind N (by rw[O];exact pastItsLine_dict (Ko Y (by rw[Kp];exact N5 hsz 1))) ?_);exact By (h _ ⟨(G.2 _ (qw I.ne)).trans I.obj,L,I.ne⟩ G)
theorem Af {R:Result->mu->Prop}{vs:List Value}{G:List (Str×Value)}(X:K.In s.heap) (I:makesIn K C=true)
  (hi:Ow K (.ref C) "__init__" = some (some (.ref f))) (J:PySem.W.typeIn K (.ref f)=some (.type "function"))
  (h:Oh (model prog w) (A.under (.builtin "type.__call__" ⟨.ref C::vs,G⟩)) (.call (.ref f) ⟨.ref (s.heap.objs.size+1)::vs,G⟩) (PySem.W.InitBack (s.heap.objs.size+1) R)
   { s with heap:=(s.heap.push emptyDict).push (instObj C s.heap.objs.size) }) :
  Oh (model prog w) A (.call (.ref C) ⟨vs,G⟩) R s:=by
 obtain⟨L,g,d,t,os⟩:=s;exact PySem.W.make_core (PySem.W.makes_of X I) (PySem.W.looks_findIn X hi) (λself=>PySem.W.bind_fn X self J) (.inl rfl) h
end
def bj (f:Str) (v:V):List (Str×V)->List (Str×V)
 | []=>[(f,v)]
 |(g,x)::r=>if g=f then(g,v)::r else(g,x)::bj f v r
theorem aF (f g:Str) (v:V):∀fs:List (Str×V),(bj f v fs).lookup g=if g=f then some v else fs.lookup g
 | []=>by
  show Mi g [(f,v)]=_;by_cases h:g=f
  .have G:(g==f)=true:=beq_iff_eq.mpr h;simp only[Mi,G,Th h]
  .have G:(g==f)=false:=beq_eq_false_iff_ne.mpr h;simp only[Mi,G,Tg h]
 |(k,x)::r=>by
  have J:=aF f g v r;rw[show bj f v ((k,x)::r)=(if k=f then(k,v)::r else(k,x)::bj f v r)from rfl];by_cases I:k=f
  .rw[Th I];by_cases h:g=k
   .have G:(g==k)=true:=beq_iff_eq.mpr h;simp only[Mi,G,Th (h.trans I)]
   .have G:(g==k)=false:=beq_eq_false_iff_ne.mpr h;simp only[Mi,G,Tg (λe:g=f=>h (e.trans I.symm))]
  .rw[Tg I];by_cases h:g=k
   .have G:(g==k)=true:=beq_iff_eq.mpr h;simp only[Mi,G,Tg (λe:g=f=>I (h.symm.trans e))]
   .have G:(g==k)=false:=beq_eq_false_iff_ne.mpr h;simp only[Mi,G];exact J
theorem kj (f:Str) (v:V):∀fs:List (Str×V),f∈(bj f v fs).map (·.1)/\∀g,g∈fs.map (·.1)->g∈(bj f v fs).map (·.1)
 | []=>⟨by simp[bj],λg h=>by simp at h⟩
 |(k,x)::r=>by
  obtain⟨J,I⟩:=kj f v r;rw[show bj f v ((k,x)::r)=(if k=f then(k,v)::r else(k,x)::bj f v r)from rfl];by_cases G:k=f
  .rw[Th G];subst G;exact⟨by simp,λg h=>by simpa using h⟩
  .rw[Tg G];refine⟨?_,λg h=>?_⟩
   .rw[LU];exact KD _ J
   .rw[LU]at h ⊢;rcases E3.mp h with e|e
    .exact E3.mpr (.inl e)
    .exact KD _ (I g e)
theorem kO (f:Str) (v:V):∀fs:List (Str×V),(bj f v fs).length<=fs.length+1
 | []=>by simp[bj]
 |(k,x)::r=>by
  have I:=kO f v r;rw[show bj f v ((k,x)::r)=(if k=f then(k,v)::r else(k,x)::bj f v r)from rfl];by_cases G:k=f
  .rw[Th G,Kp,Kp];omega
  .rw[Tg G,Kp,Kp];exact N5 I 1
theorem fM.some_of {v:V}{o:Option Value}(r:fM (some v) o):∃u,o=some u/\RelV v u:=by
 cases o with
 |none=>exact(show False from r).elim
 |some u=>exact⟨u,rfl,r⟩
theorem fM.none_of {o:Option Value}(r:fM none o):o=none:=by
 cases o with
 |none=>rfl
 |some u=>exact(show False from r).elim
theorem xS {v:V}{u:Value}(r:RelV v u):handedIn u=true:=by
 cases v with
 |non=>cases(show u=Value.none from r);rfl
 |bl b=>cases(show u=Value.bool b from r);rfl
 |int i=>obtain⟨t,e⟩:=(show ∃t,u=Value.int i t from r);cases e;rfl
 |str x=>obtain⟨t,e⟩:=(show ∃t,u=Value.str x t from r);cases e;rfl
 |byt b=>obtain⟨t,e⟩:=(show ∃t,u=Value.bytes b t from r);cases e;rfl
 |flt b=>obtain⟨t,e⟩:=(show ∃t,u=Value.float b t from r);cases e;rfl
 |ref a=>cases(show u=Value.ref a from r);rfl
 |ty n=>cases(show u=Value.type n from r);rfl
section
variable {P:ti}{w:Kl}{H H':Hp}{h h':Heap}{a C dx:Addr}{fs fs':List (Str×V)}
theorem lJ (J:iS P w H h) (e:H a=some (.ins C dx fs)):∃mA,wx h a dx C mA/\(∀f,fM (fs.lookup f) (mA f))/\QM mA (fs.map (·.1))/\fs.length<=1000/\H dx=some (.own a):=by
 obtain⟨d,z,G,I,mA,n,r,q⟩:=(show bS P w H h a (.ins C dx fs)from J a _ e);exact⟨mA,⟨I,n,G⟩,r,q,z,d⟩
end
structure rG (K:Kq) (C:Addr):Prop where
 pg:RF K C Str.empty=true
 hd:Sv K C=true
 po:plainOver K C=true
 sa:Ow K (.ref C) "__setattr__" = some (some (.builtin "object.__setattr__"))
theorem rG.get {K:Kq}{C:Addr}(c:rG K C) (f:Str):RF K C f=true:=c.pg
def cQ (K:Kq) (C:Addr) (f:Str):Prop:=Ow K (.ref C) f=some none
theorem cQ.Gv {K:Kq}{C:Addr}{f:Str}(n:cQ K C f):takerIn K C f=some none:=by
 unfold takerIn;rw[show Ow K (.ref C) f=some none from n];rfl
structure Meth (K:Kq) (C:Addr) (m:Str) (f:Addr):Prop where
 at_:Ow K (.ref C) m=some (some (.ref f))
 fn:isFn K (.ref f)=true
 kp:PH K (.ref f)=true
section
variable {X:Cx}{pins:List (Addr×Obj)}{σ:St}{H:Hp}{s:mu}{a C dx:Addr}{fs:List (Str×V)}{f:Str}{v:V}{A:KA}{E:Value->mu->Prop}
theorem mi {b:Bool}{Q:Value->mu->Prop}(I:Inv X pins σ H s) (e:H a=some (.ins C dx fs)) (c:rG X.K C) (n:cQ X.K C f) (l:fs.lookup f=some v)
  (h:∀u s',Inv X pins σ H s'->RelV v u->Q u s'):wpAny (model X.prog X.w) A (getAttr (.ref a) f b) Q E s:=by
 obtain⟨mA,O,r,_,_,_⟩:=lJ I.bE e;obtain⟨u,J,G⟩:=fM.some_of (v:=v) (o:=mA f) (by rw[<-l];exact r f);exact get_map I.jW O (c.get f) c.hd n J (xS G) (h u _ (I.tok _) G)
theorem mV {m:Str}{g:Addr}{pl:QP Bool}{Q:Value×List Value->mu->Prop}(I:Inv X pins σ H s) (e:H a=some (.ins C dx fs)) (c:rG X.K C) (k:Meth X.K C m g) (l:fs.lookup m=none)
  (h:Q (.ref g,[.ref a]) s):wpAny (model X.prog X.w) A (Ph (.ref a) m pl) Q E s:=by
 obtain⟨mA,O,r,_,_,_⟩:=lJ I.bE e;have G:mA m=none:=fM.none_of (by rw[<-l];exact r m);exact zq I.jW O (c.get m) k.at_ k.fn G h
theorem mO {y:V}{u:Value}{Q:Unit->mu->Prop}(I:Inv X pins σ H s) (e:H a=some (.ins C dx fs)) (c:rG X.K C) (n:cQ X.K C f) (S:fs.length<1000) (N:RelV y u)
  (h:∀s',Inv X pins σ (upd H a (.ins C dx (bj f y fs))) s'->Q () s'):wpAny (model X.prog X.w) A (setAttr (.ref a) f u) Q E s:=by
 obtain⟨mA,O,r,wi,_,J⟩:=lJ I.bE e;have Y:(fs.map (·.1)).length<=sizeLine:=(by rw[nq,BY];omega);refine Cs I.jW O c.sa c.po n.Gv c.hd wi Y λh' G L=>h _ ?_;have hd:∃o,h'.get? dx=some o:=let ⟨o,_,_,e',_⟩:=G.ns;⟨o,e'⟩;refine I.write (x:=a) (e:=dx) (by rw[e];exact LG) (.inr J) (λb q U z=>(L.2 b U).trans z) hd ?_;refine⟨by rw[ah O.ne];exact J,?_,O.ne,G.obj,_,G.ns,λg=>?_,λg R=>?_⟩
 .have:=kO f y fs;exact Ko this S
 .show fM ((bj f y fs).lookup g) (if g=f then some u else mA g);rw[aF];by_cases q:g=f
  .rw[Th q,Th q];exact N
  .rw[Tg q,Tg q];exact r g
 .by_cases q:g=f
  .rw[q];exact(kj f y fs).1
  .refine(kj f y fs).2 g (wi g λz=>R ?_);show(if g=f then some u else mA g)=none;rw[Tg q];exact z
theorem Inv.made (I:Inv X pins σ H s):Inv X pins σ (upd (upd H s.heap.objs.size (.own (s.heap.objs.size+1))) (s.heap.objs.size+1) (.ins C s.heap.objs.size []))
  { s with heap:=(s.heap.push emptyDict).push (instObj C s.heap.objs.size) }:=by
 have J:(s.heap.push emptyDict).get? s.heap.objs.size=some emptyDict:=Heap.get?_push_size s.heap rfl;have N:((s.heap.push emptyDict).push (instObj C s.heap.objs.size)).get? (s.heap.objs.size+1)=some (instObj C s.heap.objs.size):=by
  have:=Heap.get?_push_size (s.heap.push emptyDict) (o:=instObj C s.heap.objs.size) rfl
  rwa [Heap.size_push]at this
 have O:(s.heap.push emptyDict).Ns s.heap.objs.size (λ_=>none):=⟨emptyDict, #[],_,J,rfl,(λe R=>absurd R (by simp)),λ_=>rfl⟩;have S:=I.laid (a:=s.heap.objs.size) (o:=.own (s.heap.objs.size+1)) (h':=s.heap.push emptyDict) (t':=s.toks) (λb u q=>Heap.get?_push_of_some _ q) (sS _) ⟨_,J⟩;refine S.laid (a:=s.heap.objs.size+1) (o:=.ins C s.heap.objs.size []) (t':=s.toks) (λb u q=>Heap.get?_push_of_some _ q) (QV (Heap.size_push _ _)) ?_;have G:s.heap.objs.size≠s.heap.objs.size+1:=KN (NS _);refine⟨by rw[ah G,ae],KI _,G,N,λ_=>none,(Heap.Ns1.of_empty O).at λo q=>Heap.get?_push_of_some _ q,λ_=>LG,λy L=>absurd rfl L⟩
theorem CM {prog:ti}{w:Kl}{env:Ss}{e:KJ}{f:Str}{pos:Nj}{s:mu}{Q:Value->mu->Prop}(G:MN e f env (eval e env)=eval e env)
  (h:wpAny (model prog w) A (eval e env) (λo I=>wpAny (model prog w) A (getAttr o f true) Q E I) E s):wpAny (model prog w) A (eval (.Attribute e f pos) env) Q E s :=
 Attribute_any_ h (by rw[arm_eval_Attribute,G])
end
inductive Dh (K:Kq) (ta:TE) (f:Str) (Q:VK) (x:V) (H1:Hp):Prop
 |mk (a:_) (C:_) (dx:_) (fs:_) (v:_) (_:x=.ref a) (_:H1 a=some (.ins C dx fs)) (_:rG K C) (_:cQ K C f) (_:fs.lookup f=some v) (_:Q v H1):Dh K ta f Q x H1
def Cq (K:Kq) (ta:TE) (f:Str):TE:=λσ H Q=>ta σ H λx H1=>Dh K ta f Q x H1
def ID (K:Kq) (ta tv:TE) (f:Str):TS:=λD σ H=>tv σ H λy H1=>ta σ H1 λx H2=>Ia λa C dx fs=>yk (x=.ref a) (H2 a=some (.ins C dx fs)) (rG K C) (cQ K C f) (fs.length<1000) (D.nx σ (upd H2 a (.ins C dx (bj f y fs))))
def FA (X:Cx) (G:QS) (rd:V->V->Hp->VK->Prop):Prop :=
 ∀(pins:List (Addr×Obj)) (s:mu) (σ:St) (H:Hp) (x y:V) (u v:Value) (Q:VK),Inv X pins σ H s->RelV x u->RelV y v->rd x y H Q->wpAny (model X.prog X.w) X.A (inplaceOp G u v) (EP X pins σ Q) X.xe s
def BR (K:Kq) (ta tv:TE) (rd:V->V->Hp->VK->Prop) (f:Str):TS:=λD σ H=>ta σ H λx H1=>BF λa C dx fs v=>yk (x=.ref a) (H1 a=some (.ins C dx fs)) (rG K C) (cQ K C f) (fs.lookup f=some v) (tv σ H1 λy H2=>rd v y H2 λz I=>∃G fs',I a=some (.ins C G fs')/\fs'.length<1000/\D.nx σ (upd I a (.ins C G (bj f z fs'))))
section
variable {X:Cx}{o e value:KJ}{f:Str}{pos pos' tpos:Nj}{ta tv:TE}
theorem aM (O:PE X e ta) (N:MN e f X.env (eval e X.env)=eval e X.env):PE X (.Attribute e f pos) (Cq X.K ta f):=by
 intro pins s σ H Q I h;refine CM N (bT (O pins s σ H _ I h) λu s1 G=>?_);obtain⟨x,H1,R,J,a,C,dx,fs,v,ex,S,c,n,l,q⟩:=G;subst ex;obtain rfl:u=Value.ref a:=J;exact mi R S c n l λu' Y L U=>⟨v,H1,L,U,q⟩
theorem fb (ha:PE X o ta) (hv:PE X value tv) (hs:Pe value (some (.Attribute o f pos')) pos.line X.env=pure false):PS X (.Assign [.Attribute o f pos'] value pos) (ID X.K ta tv f):=by
 intro pins s σ H D I h;refine plainObj_wpAny_Assign_Attribute (bT (hv pins s σ H _ I h) λu G R=>?_) hs;obtain⟨y,H1,I1,L,q⟩:=R;refine bT (ha pins G σ H1 _ I1 q) λov s2 Y=>?_;obtain⟨x,H2,O,N,a,C,dx,fs,ex,U,c,n,l,S⟩:=Y;subst ex;obtain rfl:ov=Value.ref a:=N;exact mO O U c n l L λs3 J=>⟨σ,_,J,S⟩
theorem yW {G:QS}{rd:V->V->Hp->VK->Prop}(ha:PE X o ta) (hv:PE X value tv) (ab:FA X G rd):PS X (.AugAssign (.Attribute o f tpos) G value pos) (BR X.K ta tv rd f):=by
 intro pins s σ H D I h;refine wpAny_AugAssign_AttributeAny (bT (ha pins s σ H _ I h) λov s1 N=>?_);obtain⟨x,H1,I1,O,a,C,dx,fs,v,ex,ea,c,n,l,q⟩:=N;subst ex;obtain rfl:ov=Value.ref a:=O;refine mi I1 ea c n l λu s2 S ru=>bT (hv pins s2 σ H1 _ S q) λU s3 ac=>?_;obtain⟨y,H2,J,L,q3⟩:=ac;refine bT (ab pins s3 σ H2 v y u U _ J ru L q3) λw4 s4 ai=>?_;obtain⟨z,H3,I4,rz,am,fs',R,Y,q4⟩:=ai;exact mO I4 R c n Y rz λs5 I5=>⟨σ,_,I5,q4⟩
inductive Gz (x:V) (y:V) (H:Hp) (Q:VK):Prop
 |mk (i:_) (j:_) (_:x=.int i) (_:y=.int j) (_:Q (.int (i+j)) H):Gz x y H Q
theorem EC:FA X .Add Gz:=by
 rintro pins s σ H x y u v Q I J G ⟨i,j,rfl,rfl,q⟩;obtain⟨t,rfl⟩:=(show ∃t,u=Value.int i t from J);obtain⟨t',rfl⟩:=(show ∃t',v=Value.int j t' from G);exact Rw ⟨.int (i+j),H,I.tok _,⟨_,rfl⟩,q⟩
end
section
variable {X:Cx}{pins:List (Addr×Obj)}{σ:St}{H:Hp}{s:mu}{A:KA}{E:Value->mu->Prop}{Q:Value->mu->Prop}{c:Value}{b:Bool}
inductive jS (K:Kq) (H:Hp):V->Value->Prop where
 |non:jS K H .non (.type "NoneType")
 |bl (x:Bool):jS K H (.bl x) (.type "bool")
 |int (i:Int):jS K H (.int i) (.type "int")
 |str (x:Str):jS K H (.str x) (.type "str")
 |flt (x:UInt64):jS K H (.flt x) (.type "float")
 |lst {a:Addr}{xs:List V}(e:H a=some (.lst xs)):jS K H (.ref a) (.type "list")
 |frz {a:Addr}{o:Obj}{xs:List V}(e:H a=some (.frz o (.lst xs))):jS K H (.ref a) (.type "list")
 |tup {a:Addr}{xs:List V}(e:H a=some (.tup xs)):jS K H (.ref a) (.type "tuple")
 |dK {a:Addr}{kvs:List (Key×V)}(e:H a=some (.dK kvs)):jS K H (.ref a) (.type "dict")
 |dT {a:Addr}{kvs:List (List Key×V)}(e:H a=some (.dT kvs)):jS K H (.ref a) (.type "dict")
 |ins {a C dx:Addr}{fs:List (Str×V)}(e:H a=some (.ins C dx fs)) (cl:rG K C) (ha:Ow K (.ref C) "__class__" = some (some (.builtin "object.__class__")))
   (hn:PySem.W.specialIn K (.builtin "object.__class__") "__get__" = some (some (.builtin "getset_descriptor.__get__"))) (htk:PySem.W.takesIn K (.builtin "object.__class__")=some true)
   (hm:PySem.W.mroIn K C (.type "object")=some true):jS K H (.ref a) (.ref C)
theorem yx {x:V}{u t:Value}(I:Inv X pins σ H s) (G:RelV x u) (ty:jS X.K H x t) (e:Nw X.K t c=some b) (h:∀tk,Q (.bool b) { s with toks:=tk }) :
  wpAny (model X.prog X.w) A (call (.builtin "isinstance") [u,c]) Q E s:=by
 cases ty with
 |non=>cases(show u=Value.none from G);exact ND PySem.W.kitx_none I.jW LG e (λz=>nomatch z) h
 |bl y=>cases(show u=Value.bool y from G);exact ND PySem.W.kitx_bool I.jW LG e (λz=>nomatch z) h
 |int i=>obtain⟨t,q⟩:=(show ∃t,u=Value.int i t from G);cases q;exact ND PySem.W.kitx_int I.jW LG e (λz=>nomatch z) h
 |str y=>obtain⟨t,q⟩:=(show ∃t,u=Value.str y t from G);cases q;exact ND PySem.W.kitx_str I.jW LG e (λz=>nomatch z) h
 |flt y=>obtain⟨t,q⟩:=(show ∃t,u=Value.float y t from G);cases q;exact ND PySem.W.kitx_float I.jW LG e (λz=>nomatch z) h
 | @lst a xs L =>
  cases(show u=Value.ref a from G);obtain⟨_,_,n,_,h1⟩:=(show bS X.prog X.w H s.heap a (.lst xs)from I.bE a _ L);exact ND kitx_list I.jW ⟨_,h1,rfl⟩ e (λz=>nomatch z) h
 | @frz a Y xs L =>
  cases(show u=Value.ref a from G);obtain⟨_,_,_,n,_,h1⟩:=(show bS X.prog X.w H s.heap a (.frz Y (.lst xs))from I.bE a _ L);exact ND kitx_list I.jW ⟨_,h1,rfl⟩ e (λz=>nomatch z) h
 | @tup a xs L =>
  cases(show u=Value.ref a from G);obtain⟨_,_,_,p⟩:=(show bS X.prog X.w H s.heap a (.tup xs)from I.bE a _ L);obtain⟨o,h1,h2,_⟩:=p;exact ND kitx_tuple I.jW ⟨o,h1,h2⟩ e (λz=>nomatch z) h
 | @dK a kvs L =>
  cases(show u=Value.ref a from G);obtain⟨_,_,vs,_,p⟩:=(show bS X.prog X.w H s.heap a (.dK kvs)from I.bE a _ L);obtain⟨o,es,ep,h1,h2,_⟩:=p;exact ND kitx_dict I.jW ⟨o,h1,h2.1⟩ e (λz=>nomatch z) h
 | @dT a kvs L =>
  cases(show u=Value.ref a from G);obtain⟨_,_,xs,_,o,es,ep,h1,h2,_⟩:=(show bS X.prog X.w H s.heap a (.dT kvs)from I.bE a _ L);exact ND kitx_dict I.jW ⟨o,h1,h2.1⟩ e (λz=>nomatch z) h
 | @ins a C dx fs L cl S U N R =>
  cases(show u=Value.ref a from G);obtain⟨mA,O,_⟩:=lJ I.bE L;obtain⟨od,J,_⟩:=O.look;exact ND (PySem.W.kitx_own (cl.get _) cl.hd S U N R) I.jW J e (λz=>nomatch z) h
end
structure dn (k:Nat) (A:KA):Prop where
 hd:A.handled=none
 dp:A.depth+3*k+5<Ox
 un:A.units+16*k+200<Mt
theorem dn.mono {j k:Nat}{A:KA}(r:dn k A) (h:j<=k):dn j A:=⟨r.hd,by have:=r.dp;omega,by have:=r.un;omega⟩
theorem dn.deeper {k:Nat}{A:KA}(r:dn (k+1) A) (env:Ss):dn k (A.deeper env):=
 ⟨r.hd,by have:=r.dp;show A.depth+1+3*k+5<_;omega,by have:=r.un;show A.units+3+16*k+200<_;omega⟩
theorem wk {A:KA}{C:Addr}{us:List Value}{G:List (Str×Value)}:(A.under (.builtin "type.__call__" ⟨.ref C::us,G⟩)).depth=A.depth+1:=by
 first|rfl|simp[QW,Code.weight,Code.isCreation,Code.isGuard,Code.isCaller,SQ,QX,guardIds]
theorem uA {A:KA}{C:Addr}{us:List Value}{G:List (Str×Value)}:(A.under (.builtin "type.__call__" ⟨.ref C::us,G⟩)).units=A.units+1:=by
 first|rfl|simp[QW,Code.cUnits,SQ,QX]
theorem dn.make {k:Nat}{A:KA}(r:dn (k+1) A) (C:Addr) (us:List Value) (G:List (Str×Value)):dn k (A.under (.builtin "type.__call__" ⟨.ref C::us,G⟩)):=
 ⟨r.hd,by have:=r.dp;rw[wk];omega,by have:=r.un;rw[uA];omega⟩
theorem dn.depth {k:Nat}{A:KA}(r:dn k A):A.depth<Ox:=by have:=r.dp;omega
theorem dn.units {k:Nat}{A:KA}(r:dn k A):A.units+64<Mt:=by have:=r.un;omega
theorem dn.gv {k:Nat}{A:KA}(r:dn k A):A.units<Mt:=by have:=r.un;omega
def BP:TA:=λ_ H Q=>Q [] H
def Hu (ta:TE) (G:TA):TA:=λσ H Q=>ta σ H λx H1=>G σ H1 λxs H2=>Q (x::xs) H2
section
variable {X:Cx}{e:KJ}{es:List KJ}{te:TE}{t:TA}{pos:Nj}
theorem aj:PA X [] BP:=λ_ _ _ _ H Q I h=>Calls.spliced_nil ⟨[],H,I,.nil,h⟩
theorem aa (O:PE X e te) (hr:PA X es t) (hs:starEach (e::es) X.env=(false,eval e X.env)::starEach es X.env:=by rfl):PA X (e::es) (Hu te t):=by
 intro pos pins s σ H Q I h;rw[hs];show wpAny _ _ (spliced ((false,eval e X.env)::backTo pos (starEach es X.env))) _ _ s;refine Calls.spliced_cons (bT (O pins s σ H _ I h) λu N Y=>?_);obtain⟨x,H1,U,L,G⟩:=Y;exact bT (hr pos pins N σ H1 _ U G) λus s2 S=>by obtain⟨xs,H2,R,J,q2⟩:=S;exact⟨x::xs,H2,R,.cons L J,q2⟩
def Js (t:TA):TE:=λσ H Q=>t σ H λxs H1=>xs.length<=sizeLine/\∀p,H1 p=none->Q (.ref p) (upd H1 p (.tup xs))
def GW (t:TA):TE:=λσ H Q=>t σ H λxs H1=>xs.length<=sizeLine/\∀p,H1 p=none->Q (.ref p) (upd H1 p (.lst xs))
theorem cO {x1} (h:PA X es t):PE X (.Tuple es x1 pos) (Js t):=by
 intro pins s σ H Q I N;refine wpAny_Tuple_spliced (bT (h pos pins s σ H _ I N) λus G L=>?_);obtain⟨xs,H1,J,r,z,q⟩:=L;refine⟨by rw[<-r.length];exact z,?_⟩;have O:H1 G.heap.objs.size=none:=J.bE.fresh (sS _);refine⟨.ref G.heap.objs.size,upd H1 G.heap.objs.size (.tup xs),J.laid (t':=G.toks) (λb u e=>Heap.get?_push_of_some _ e) (sS _) ?_,rfl,q _ O⟩;exact⟨z,us,r,⟨_,Heap.get?_push_size _ rfl,rfl,_,rfl⟩⟩
theorem bN (h:PA X es t):PE X (.List es pos) (GW t):=by
 intro pins s σ H Q I L;refine wpAny_List_spliced (bT (h pos pins s σ H _ I L) λus G N=>?_);obtain⟨xs,H1,J,r,z,q⟩:=N;refine⟨by rw[<-r.length];exact z,?_⟩;have O:H1 G.heap.objs.size=none:=J.bE.fresh (sS _);refine⟨.ref G.heap.objs.size,upd H1 G.heap.objs.size (.lst xs),J.laid (t':=G.toks) (λb u e=>Heap.get?_push_of_some _ e) (sS _) ?_,rfl,q _ O⟩;exact⟨z,us,0,r,Heap.get?_push_size _ rfl⟩
end
abbrev Sp:=List V->Hp->VK->XK->Prop
abbrev uO:=List Ss->Hp->mu->XK->Value->mu->Prop
structure vM (P:ti) (w:Kl) (K:Kq) (mg:Str->Option Value) (base:Heap) (A:KA) (outer:List Ss) (s:mu) (H:Hp):Prop where
 frames:A.frames=some outer
 mod:Mod K mg base
 bs:∀b o,base.get? b=some o->s.heap.get? b=some o/\H b=none
 AE:base.objs.size<=s.heap.objs.size
 kg:s.heap.FunFrames base outer
 Dj:∀b∈yY outer,H b=none
 bE:iS P w H s.heap
 bare:OL s.gens
def CE (outer:List Ss) (P:ti) (w:Kl) (H:Hp) (s:mu) (Q:VK) (u:Value) (s':mu):Prop :=
 ∃v H',s'.os=s.os/\OL s'.gens/\Un (yY outer) [] H H' s.heap s'.heap/\iS P w H' s'.heap/\RelV v u/\Q v H'
def CR (CX:uO) (outer:List Ss) (P:ti) (w:Kl) (H:Hp) (s:mu) (Q:VK) (E:XK) (r:Result) (s':mu):Prop :=
 match r with
 |.ok (.ret u)=>CE outer P w H s Q u s'
 |.ok _=>False
 |.error e=>CX outer H s E e s'
structure aZ (P:ti) (w:Kl) (K:Kq) (mg:Str->Option Value) (base:Heap) (CX:uO) (k:Nat) (f:Addr) (fd:rn) (ps:List Str) (sp:Sp):Prop where
 len:∀vs H Q E,sp vs H Q E->vs.length=ps.length
 run:∀(A:KA) (outer:List Ss) (s:mu) (H:Hp) (args:Args) (us:List Value) (vs:List V) (Q:VK) (E:XK),dn k A->vM P w K mg base A outer s H->QY s fd args (ps.zip us)->Vals vs us->sp vs H Q E ->
  Oh (model P w) A (.call (.ref f) args) (CR CX outer P w H s Q E) s
theorem vM.make {P:ti}{w:Kl}{K:Kq}{mg:Str->Option Value}{base:Heap}{A:KA}{outer:List Ss}{s:mu}{H:Hp}(e:vM P w K mg base A outer s H) (C:Addr) (us:List Value) (G:List (Str×Value)) :
  vM P w K mg base (A.under (.builtin "type.__call__" ⟨.ref C::us,G⟩)) outer s H:=⟨by first|exact e.frames|(simpa[QW,Code.envs,QX,pushEnvs]using e.frames),e.mod,e.bs,e.AE,e.kg,e.Dj,e.bE,e.bare⟩
section
variable {X:Cx}{pins:List (Addr×Obj)}{σ:St}{H:Hp}{s s':mu}
theorem Inv.FY (I:Inv X pins σ H s):vM X.prog X.w X.K X.mg X.base X.A X.stack s H :=
 ⟨I.ok.frames,I.ok.mod,I.bs,Ko I.ok.AE I.sz,I.stack,I.xj,I.bE,I.bare⟩
theorem Inv.after {Q:VK}{u:Value}(I:Inv X pins σ H s) (h:CE X.stack X.prog X.w H s Q u s'):EP X pins σ Q u s':=by
 obtain⟨v,H',os,bare,un,L,r,q⟩:=h;obtain⟨J,g,d,t,G⟩:=s';obtain rfl:G=s.os:=os;exact⟨v,H',I.call (h':=J) (g':=g) (d':=d) (t':=t) (ch:=[]) un L bare (λb z=>absurd z (by simp)),r,q⟩
end
def Dl (sp:Sp) (dvs:List V) (E:XK) (t:TA):TE:=λσ H Q=>t σ H λvs H1=>sp (vs++dvs) H1 Q E
inductive AN (C:Addr) (m:Str) (sp:Sp) (dvs:List V) (E:XK) (ta:TE) (t:TA) (σ:St) (Q:VK) (x:V) (H1:Hp):Prop
 |mk (a:_) (dx:_) (fs:_) (_:x=.ref a) (_:H1 a=some (.ins C dx fs)) (_:fs.lookup m=none) (_:t σ H1 λvs H2=>sp (x::(vs++dvs)) H2 Q E):AN C m sp dvs E ta t σ Q x H1
def wH (C:Addr) (m:Str) (sp:Sp) (dvs:List V) (E:XK) (ta:TE) (t:TA):TE:=λσ H Q=>ta σ H λx H1=>AN C m sp dvs E ta t σ Q x H1
def Dw (C:Addr) (sp:Sp) (dvs:List V) (E:XK) (t:TA):TE:=λσ H Q=>t σ H λvs H1=>∀x dx,H1 x=none->H1 dx=none->dx≠x ->
 sp (.ref x::(vs++dvs)) (upd (upd H1 dx (.own x)) x (.ins C dx [])) (λv H2=>v=.non/\Q (.ref x) H2) E
def Binds (K:Kq) (fd:rn) (ps:List Str) (ds:List Value):Prop :=
 ∀(s:mu) (us:List Value),K.In s.heap->(us++ds).length=ps.length->QY s fd ⟨us,[]⟩ (ps.zip (us++ds))
theorem Binds.all {K:Kq}{fd:rn}{ps:List Str}(h:∀us:List Value,us.length=ps.length->Pj fd ⟨us,[]⟩=pure (ps.zip us)):Binds K fd ps []:=λs us _ G=>by
 rw[PJ]at G ⊢;exact .of_eq (h us G)
def Passes (CX:uO) (X:Cx) (E:XK):Prop:=∀(pins:List (Addr×Obj)) (σ:St) (H:Hp) (s:mu) (e:Value) (s':mu),Inv X pins σ H s->CX X.stack H s E e s'->X.xe e s'
section
variable {X:Cx}{CX:uO}{k:Nat}{f C:Addr}{fd:rn}{ps:List Str}{sp:Sp}{dvs:List V}{ds:List Value}{E:XK}{x m:Str}{p pos apos:Nj}{e o:KJ}{es:List KJ}{ta:TE}{t:TA}
theorem uj {pins:List (Addr×Obj)}{σ:St}{H:Hp}{s:mu}{Q:VK}{us:List Value}{vs:List V}(F:aZ X.prog X.w X.K X.mg X.base CX k f fd ps sp) (R:dn k X.A) (O:Binds X.K fd ps ds) (hd:Vals dvs ds) (S:Passes CX X E)
  (I:Inv X pins σ H s) (r:Vals vs us) (h:sp (vs++dvs) H Q E):wpAny (model X.prog X.w) X.A (call (.ref f) us) (EP X pins σ Q) X.xe s:=by
 have J:Vals (vs++dvs) (us++ds):=r.append hd;have N:(us++ds).length=ps.length:=(by rw[<-J.length];exact F.len _ _ _ _ h);refine QD (PK (F.run X.A X.stack s H ⟨us,[]⟩ (us++ds) (vs++dvs) Q E R I.FY (O s us I.jW N) J h) λr s' G=>?_);cases r with
 |error e=>exact S pins σ H s e s' I G
 |ok L =>
  cases L with
  |ret u=>exact I.after G
  |next=>exact LO G
  |brk=>exact LO G
  |cont=>exact LO G
theorem CF (F:aZ X.prog X.w X.K X.mg X.base CX k f fd ps sp) (hr:dn k X.A) (S:Gl X x) (J:X.mg x=some (.ref f)) (L:PH X.K (.ref f)=true) (Y:Binds X.K fd ps ds) (hd:Vals dvs ds) (hx:Passes CX X E)
  (R:PA X (e::es) t) (N:(x==("__debug__" : Str))=false:=by decide) (he:starEach (e::es) X.env=(false,eval e X.env)::starEach es X.env:=by rfl) (U:(backTo pos (starEach es X.env)).any (·.1)=false:=by rfl) :
  PE X (.Call (.Name x p) (e::es) [] pos) (Dl sp dvs E t):=by
 intro pins s σ H Q I h;refine L4 (lq I S J ?_ N);refine RG (h₀:=X.base) I.ok.mod.HD L (bT (R pos pins s σ H _ I h) λus s1 O=>?_) he U;obtain⟨vs,H1,G,r,q⟩:=O;refine⟨G.jW,?_⟩;exact uj F hr Y hd hx G r q
theorem B1 {pl:QP Bool}(he:PE X o ta) (c:rG X.K C) (J:Meth X.K C m f) (F:aZ X.prog X.w X.K X.mg X.base CX k f fd ps sp) (hr:dn k X.A) (hb:Binds X.K fd ps ds) (hd:Vals dvs ds) (hx:Passes CX X E) (ha:PA X (e::es) t)
  (Y:starEach (e::es) X.env=(false,eval e X.env)::starEach es X.env:=by rfl) (S:(backTo pos (starEach es X.env)).any (·.1)=false:=by rfl)
  (ht:eval (.Call (.Attribute o m apos) (e::es) [] pos) X.env=(do
   let ov <-eval o X.env
   QR apos.atName
   let (f,first) <-OM [ov] (Ph ov m pl)
   RH pos f first (backTo pos (starEach (e::es) X.env)) (Pk pos (Nz [] X.env))):=by rfl) :
  PE X (.Call (.Attribute o m apos) (e::es) [] pos) (wH C m sp dvs E ta t):=by
 intro pins s σ H Q I h;refine P4 (pl:=pl) (bT (he pins s σ H _ I h) λu R O=>?_) ht;obtain⟨x,H1,L,U,a,dx,fs,ex,ea,l,q⟩:=O;subst ex;obtain rfl:u=Value.ref a:=U;refine mV L ea c J l ?_;refine RG (first:=[.ref a]) (h₀:=X.base) I.ok.mod.HD J.kp (bT (ha pos pins R σ H1 _ L q) λus s2 N=>?_) Y S;obtain⟨vs,H2,G,r,q2⟩:=N;refine⟨G.jW,?_⟩;exact uj (us:=.ref a::us) (vs:=.ref a::vs) F hr hb hd hx G (.cons rfl r) q2
theorem Br {pl:QP Bool}(S:PE X o ta) (c:rG X.K C) (J:Meth X.K C m f) (F:aZ X.prog X.w X.K X.mg X.base CX k f fd ps sp) (U:dn k X.A) (R:Binds X.K fd ps ds) (hd:Vals dvs ds) (Y:Passes CX X E)
  (L:eval (.Call (.Attribute o m apos) [] [] pos) X.env=(do
   let ov <-eval o X.env
   QR apos.atName
   let (f,first) <-OM [ov] (Ph ov m pl)
   RH pos f first (backTo pos (starEach [] X.env)) (Pk pos (Nz [] X.env))):=by rfl) :
  PE X (.Call (.Attribute o m apos) [] [] pos) (wH C m sp dvs E ta BP):=by
 intro pins s σ H Q I h;refine P4 (pl:=pl) (bT (S pins s σ H _ I h) λu s1 N=>?_) L;obtain⟨x,H1,G,O,a,dx,fs,ex,ea,l,q⟩:=N;subst ex;obtain rfl:u=Value.ref a:=O;refine mV G ea c J l ?_;exact callWith_K0 (first:=[.ref a]) G.jW J.kp (uj (us:=[.ref a]) (vs:=[.ref a]) F U R hd Y G (.cons rfl .nil) q)
structure Mk (K:Kq) (C f:Addr):Prop where
 makes:makesIn K C=true
 init:Ow K (.ref C) "__init__" = some (some (.ref f))
 fn:isFn K (.ref f)=true
 kp:PH K (.ref C)=true
theorem tS {pins:List (Addr×Obj)}{σ:St}{H:Hp}{s:mu}{Q:VK}{us:List Value}{vs:List V}(M:Mk X.K C f) (F:aZ X.prog X.w X.K X.mg X.base CX k f fd ps sp) (U:dn (k+1) X.A) (hb:Binds X.K fd ps ds) (hd:Vals dvs ds)
  (Y:Passes CX X E) (I:Inv X pins σ H s) (r:Vals vs us)
  (h:∀x dx,H x=none->H dx=none->dx≠x->sp (.ref x::(vs++dvs)) (upd (upd H dx (.own x)) x (.ins C dx [])) (λv H2=>v=.non/\Q (.ref x) H2) E) :
  wpAny (model X.prog X.w) X.A (call (.ref C) us) (EP X pins σ Q) X.xe s:=by
 have N:=h (s.heap.objs.size+1) s.heap.objs.size (I.bE.fresh (Oi _)) (I.bE.fresh (sS _)) (KN (NS _));have J:=Inv.made (C:=C) I;have L:Vals (V.ref (s.heap.objs.size+1)::(vs++dvs)) (Value.ref (s.heap.objs.size+1)::(us++ds)):=.cons rfl (r.append hd);have S:(Value.ref (s.heap.objs.size+1)::us++ds).length=ps.length:=by
  have e:=L.length;rw[F.len _ _ _ _ N]at e;exact e.symm
 refine QD (Af (f:=f) I.jW M.makes M.init (beq_iff_eq.mp M.fn) (PK (F.run _ X.stack _ _ ⟨Value.ref (s.heap.objs.size+1)::us,[]⟩ (Value.ref (s.heap.objs.size+1)::(us++ds)) _ _ E (U.make C us [])
  (J.FY.make C us []) (hb _ (Value.ref (s.heap.objs.size+1)::us) J.jW S) L N) λr s' G=>?_))
 cases r with
 |error e=>exact Y pins σ _ _ e s' J G
 |ok O =>
  cases O with
  |ret u =>
   obtain⟨v,H',R,rv,ev,q3⟩:=J.after G;subst ev;exact⟨rv,⟨V.ref (s.heap.objs.size+1),H',R,rfl,q3⟩⟩
  |next=>exact LO G
  |brk=>exact LO G
  |cont=>exact LO G
theorem lI (M:Mk X.K C f) (F:aZ X.prog X.w X.K X.mg X.base CX k f fd ps sp) (Y:dn (k+1) X.A) (O:Gl X x) (J:X.mg x=some (.ref C)) (S:Binds X.K fd ps ds) (hd:Vals dvs ds) (hx:Passes CX X E)
  (N:PA X (e::es) t) (L:(x==("__debug__" : Str))=false:=by decide) (U:starEach (e::es) X.env=(false,eval e X.env)::starEach es X.env:=by rfl) (R:(backTo pos (starEach es X.env)).any (·.1)=false:=by rfl) :
  PE X (.Call (.Name x p) (e::es) [] pos) (Dw C sp dvs E t):=by
 intro pins s σ H Q I h;refine L4 (lq I O J ?_ L);refine RG (h₀:=X.base) I.ok.mod.HD M.kp (bT (N pos pins s σ H _ I h) λus s1 ab=>?_) U R;obtain⟨vs,H1,G,r,q⟩:=ab;refine⟨G.jW,?_⟩;exact tS M F Y S hd hx G r q
theorem sO (M:Mk X.K C f) (F:aZ X.prog X.w X.K X.mg X.base CX k f fd ps sp) (N:dn (k+1) X.A) (R:Gl X x) (G:X.mg x=some (.ref C)) (J:Binds X.K fd ps ds) (hd:Vals dvs ds) (O:Passes CX X E)
  (L:(x==("__debug__" : Str))=false:=by decide):PE X (.Call (.Name x p) [] [] pos) (Dw C sp dvs E BP):=by
 intro pins s σ H Q I h;refine L4 (lq I R G ?_ L);exact callWith_K0 I.jW M.kp (tS (us:=[]) M F N J hd O I .nil h)
end
section
variable {X:Cx}{CX:uO}{k:Nat}{f C:Addr}{fd:rn}{ps ks:List Str}{sp:Sp}{E:XK}{x m:Str}{p pos apos kpos:Nj}{e o:KJ}{es:List KJ}{kws:List Qo}{te ta:TE}{t tk:TA}{nm:Option Str}
variable {g:List Value->List Value->List Value}{gV:List V->List V->List V}
end
structure aD (N P:List Str) (sc:N3):Prop where
 kind:sc.kind=.function
 co:sc.isCoroutine=false
 gen:sc.isGenerator=false
 nd:N.Nodup
 pre:N.take P.length=P
 par:∀x∈P,sc.names.lookup x=some .local\/sc.names.lookup x=some .cell
 E7:∀y∈sc.names,y.2≠.free
theorem bD {N P:List Str}{G:N3}(a:G.kind=.function:=by exact rfl) (b:G.isCoroutine=false:=by exact rfl) (c:G.isGenerator=false:=by exact rfl) (d:N.Nodup:=by decide +kernel) (e:N.take P.length=P:=by exact rfl) (f:∀x∈P,G.names.lookup x=some .local\/G.names.lookup x=some .cell:=by decide +kernel) (g:∀y∈G.names,y.2≠.free:=by decide +kernel):aD N P G:=⟨a,b,c,d,e,f,g⟩
theorem oG {kindOf:Str->Option NameKind}{x:Str}:∀{binds:List (Str×Value)}{m:Str->Option Value},(∀v,(x,v)∉binds)->RJ kindOf binds m x=m x
 | [],_,_=>rfl
 |(n,v)::r,m,h=>by
  unfold RJ;rw[oG λw G=>h w (KD _ G)];split
  .have:x≠n:=(by rintro rfl;exact h v KW);simp[this]
  .rfl
theorem pE {kindOf:Str->Option NameKind}{x:Str}:∀{binds:List (Str×Value)}{m:Str->Option Value},(∀v,(x,v)∉binds)->RK kindOf binds m x=m x
 | [],_,_=>rfl
 |(n,v)::r,m,h=>by
  unfold RK;rw[pE λw G=>h w (KD _ G)];split
  .rfl
  .have:x≠n:=(by rintro rfl;exact h v KW);simp[this]
theorem oX {kindOf:Str->Option NameKind}{x:Str}{v:Value}:∀{P:List Str}{vs:List Value}{i:Nat}{m:Str->Option Value},P.Nodup->P[i]?=some x->vs[i]?=some v->kindOf x=some .local ->
  RJ kindOf (P.zip vs) m x=some v
 | [],_,_,_,_,h,_,_=>by simp at h
 |_::_,[],_,_,_,_,h,_=>by simp at h
 |p::P,w::vs,0,m,I,h1,h2,G=>by
  simp at h1 h2;subst h1;subst h2;show RJ kindOf ((p,w)::P.zip vs) m p=_;unfold RJ;rw[oG λv J=>(Ky.mp I).1 (RL J).1,Th G];simp
 |p::P,w::vs,i+1,m,I,h1,h2,G=>by
  show RJ kindOf ((p,w)::P.zip vs) m x=_;unfold RJ;exact oX (i:=i) (Ky.mp I).2 (by simpa using h1) (by simpa using h2) G
theorem oW {kindOf:Str->Option NameKind}{x:Str}{v:Value}:∀{P:List Str}{vs:List Value}{i:Nat}{m:Str->Option Value},P.Nodup->P[i]?=some x->vs[i]?=some v->kindOf x≠some .local ->
  RK kindOf (P.zip vs) m x=some v
 | [],_,_,_,_,h,_,_=>by simp at h
 |_::_,[],_,_,_,_,h,_=>by simp at h
 |p::P,w::vs,0,m,I,h1,h2,G=>by
  simp at h1 h2;subst h1;subst h2;show RK kindOf ((p,w)::P.zip vs) m p=_;unfold RK;rw[pE λv J=>(Ky.mp I).1 (RL J).1,Tg G];simp
 |p::P,w::vs,i+1,m,I,h1,h2,G=>by
  show RK kindOf ((p,w)::P.zip vs) m x=_;unfold RK;exact oW (i:=i) (Ky.mp I).2 (by simpa using h1) (by simpa using h2) G
def start (N:List Str) (vs:List V):St:=vs.map some++replicate (N.length-vs.length) none
def rW (CX:uO) (P:ti) (w:Kl) (K:Kq) (mg:Str->Option Value) (base:Heap) (N:List Str) (G:Str) (scope:N3) (f:Addr) (cd:Value) (A:KA) (outer:List Ss) (s:mu) (H:Hp) (E:XK):Cx where
 prog:=P
 w:=w
 K:=K
 mg:=mg
 base:=base
 A:=A.deeper (OY G scope s.heap.objs.size f cd)
 N:=N
 s₀:=s
 H₀:=H
 env:=OY G scope s.heap.objs.size f cd
 outer:=outer
 stack:=OY G scope s.heap.objs.size f cd::outer
 ex:=[]
 calm:=true
 fn:=λ_=>true
 pn:=[]
 xe:=λe s'=>wpAny (model P w) (A.deeper (OY G scope s.heap.objs.size f cd)) (leaving (OY G scope s.heap.objs.size f cd) e) (λ_ I=>CX outer H s E e I) (λJ I=>CX outer H s E J I) s'
theorem sX {G:N3}{n:Nat}{x:Str}(h:G.names.lookup x=some .cell):∃c,(Sw n G.names []).lookup x=some c:=by
 have q:=PL G.names n [] (.inl h);exact Nl.mp q
theorem yf {CX:uO}{P:ti}{w:Kl}{K:Kq}{mg:Str->Option Value}{base:Heap}{N ps:List Str}{L:Str}{scope:N3}{f:Addr}{cd:Value}{A:KA}{outer:List Ss}{s U:mu}{H:Hp}{E:XK}{us:List Value}{vs:List V}
  (S:aD N ps scope) (hd:A.handled=none) (G:vM P w K mg base A outer s H) (hl:vs.length=ps.length) (r:Vals vs us)
  (x:InCallC s s.heap.objs.size (RJ (OY L scope s.heap.objs.size f cd).kindOf (ps.zip us) λ_=>none) (Sw (s.heap.objs.size+1) scope.names []) (RK (OY L scope s.heap.objs.size f cd).kindOf (ps.zip us) λ_=>none) U) :
  Inv (rW CX P w K mg base N L scope f cd A outer s H E) [] (start N vs) H U:=by
 have ab:ps.length<=N.length:=(by have:=congrArg LI S.pre;rw[Kv]at this;omega);obtain⟨h1,tk,rfl,R⟩:=x.done;have O:∀b:Addr,b∉(rW CX P w K mg base N L scope f cd A outer s H E).ex:=λb z=>absurd (show b∈([]:List Addr)from z) (by simp);refine⟨⟨G.mod,S.kind,rfl,rfl,sS _,λy z c h1 h2=>?_,λy I=>?_,λy c _ h=>?_,λ_=>hd,Around.frames_deeper G.frames,.inr ⟨rfl,rfl⟩,λb z=>absurd z (O b),G.bs,G.AE,λb _ _=>O b,λb z=>absurd z (O b),G.kg,G.Dj⟩,
  rfl,G.bare,Un.kept R,⟨_,x.toInCall.ns,λi y v h1 h2 h3=>?_⟩,λy c h=>⟨_,x.cell y c h⟩,G.bE.fresh (sS _),λy c h=>?_,λp J=>absurd (show p∈([]:List (Addr×Obj))from J) (by simp),G.bE.kept R,?_⟩
 .exact name_of_addr x.apart (LH h1) (LH h2)
 .have I:scope.names.lookup y=some .cell\/scope.names.lookup y=some .free:=I;rcases I with I|I
  .exact sX I
  .exact absurd rfl (S.E7 _ (LH I))
 .exact QN (x.above y c (LH h))
 .have hi:i<vs.length:=by
   unfold start at h2;by_cases hi:i<vs.length
   .exact hi
   .rw[Lj (by simpa using hi)]at h2;rw[Mv]at h2;split at h2<;>cases h2
  have ha:vs[i]?=some v:=by
   unfold start at h2;rw[Lm (by simpa using hi),wh]at h2;cases e:vs[i]? with
   |none=>rw[e]at h2;cases h2
   |some a=>rw[e]at h2;cases h2;rfl
  obtain⟨u,hu,rv⟩:=r.get ha;have J:ps[i]?=some y:=by
   rw[<-S.pre,List.getElem?_take_of_lt (Ln hi hl)];exact h1
  have Y:ps.Nodup:=(by rw[<-S.pre];exact S.nd.sublist (Nb _ _));refine⟨u,rv,?_⟩;rcases S.par y (DD J)with k|k
  .exact .inl ⟨k,oX Y J hu k⟩
  .obtain⟨c,e⟩:=sX (n:=s.heap.objs.size+1) k;refine .inr ⟨.inl k,c,e,?_⟩;have q:=x.cell y c e;rw[oW Y J hu (by show scope.names.lookup y≠_;rw[k];decide)]at q;exact q
 .exact G.bE.fresh (QN (x.above y c (LH h)))
 .unfold start;show _=N.length;rw[E2,nq,Kn];omega
theorem Dt {CX:uO}{P:ti}{w:Kl}{K:Kq}{mg:Str->Option Value}{base:Heap}{k:Nat}{f:Addr}{name G:Str}{ai:Qp}{body:List KO}{scope:N3}{dV kV am pm L ct oc:Value}{an od:Option Addr}
  {aB:Array (Option Value)}{N ps:List Str}{sp:Sp}(lk:K.lookup f=some ⟨oc,od,.func (RM name G ai body scope dV kV am pm an L ct),aB⟩) (a1:RN K L G=true) (S:aD N ps scope)
  (len:∀vs H Q E,sp vs H Q E->vs.length=ps.length)
  (ap:∀(A:KA) (outer:List Ss) (s:mu) (H:Hp) (vs:List V) (Q:VK) (E:XK),dn k (A.deeper (OY G scope s.heap.objs.size f L))->sp vs H Q E ->
   ∃t,uc (rW CX P w K mg base N G scope f L A outer s H E) body t/\t { nx:=λ_ H'=>Q .non H',rt:=Q } (start N vs) H) :
  aZ P w K mg base CX (k+1) f (RM name G ai body scope dV kV am pm an L ct) ps sp:=by
 refine⟨len,λA outer s H args us vs Q E U O hb r ab=>?_⟩;have hl:=len _ _ _ _ ab;have KX:K.In s.heap:=O.mod.HD.keeps λb o e=>(O.bs b o e).1;have as:s.heap.NoLimit:=O.mod.nolimit.keeps λb o e=>(O.bs b o e).1;have a0:∀y∈ps.zip us,scope.names.lookup y.1=some .local\/(scope.names.lookup y.1=some .cell/\((Sw (s.heap.objs.size+1) scope.names []).lookup y.1).isSome=true):=λaT hy=>by
  obtain⟨n,v⟩:=aT;rcases S.par n (RL hy).1 with q|q
  .exact .inl q
  .exact .inr ⟨q,PL _ _ _ (.inl q)⟩
 refine codeAny_call_function U.depth (KX _ _ lk) rfl S.co S.gen rfl (PySem.W.codeRec_of KX a1) (hb _ _ _ _ ?_);refine wpAny_newFunctionEnv_cells S.kind a0 λenv he s1 x=>?_;subst he;refine⟨as.keeps x.toInCall.keep,codeAny_func ?_⟩;obtain⟨t,ht,hq⟩:=ap A outer s H vs Q E (U.deeper _) ab;have I:Inv (rW CX P w K mg base N G scope f L A outer s H E) [] (start N vs) H s1:=yf S U.hd O hl r x;refine Nv (ht [] s1 (start N vs) H _ I hq) (λfl s' hs=>?_) λe s' hs=>hs;have ac:∀{R:St}{H':Hp}{v:V}{u:Value},Inv (rW CX P w K mg base N G scope f L A outer s H E) [] R H' s'->RelV v u->Q v H'->CE outer P w H s Q u s' :=
  λ{R H' v u} J Y q=>⟨v,H',J.os,J.bare,J.base,J.bE,Y,q⟩
 cases fl with
 |ret u =>
  obtain⟨v,R,H',J,Y,q⟩:=hs;exact ac J Y q
 |next =>
  obtain⟨R,H',J,q⟩:=hs;exact ac (v:=V.non) (u:=Value.none) J rfl q
 |brk =>
  obtain⟨_,_,_,q⟩:=hs;exact LO q
 |cont =>
  obtain⟨_,_,_,q⟩:=hs;exact LO q
section
variable {X:Cx}{x:Str}{p pos:Nj}{e:KJ}{es:List KJ}{t:TA}{id T:String}{r:List V->Hp->VK->Prop}
def JL (r:List V->Hp->VK->Prop) (t:TA):TE:=λσ H Q=>t σ H λvs H1=>r vs H1 Q
theorem aP (hc:dt X (.builtin id) r) (U:Gl X x) (G:X.mg x=none) (hv:KS x=some (.builtin id)) (S:PA X (e::es) t) (hn:x ≠ "__name__" := by decide) (L:(x==("__debug__" : Str))=false:=by decide)
  (he:starEach (e::es) X.env=(false,eval e X.env)::starEach es X.env:=by rfl) (Y:(backTo pos (starEach es X.env)).any (·.1)=false:=by rfl):PE X (.Call (.Name x p) (e::es) [] pos) (JL r t):=by
 intro pins s σ H Q I h;refine L4 (gE I U G hv ?_ hn L);exact PyProof.Rows.callWith_builtin1 (bT (S pos pins s σ H _ I h) λus R O=>by obtain⟨vs,H1,I1,N,J⟩:=O;exact hc pins R σ H1 vs us Q I1 N J) he Y
theorem bG (hc:dt X (.type T) r) (S:Gl X x) (G:X.mg x=none) (hv:KS x=some (.type T)) (R:PA X (e::es) t) (Y:x ≠ "__name__" := by decide) (L:(x==("__debug__" : Str))=false:=by decide)
  (he:starEach (e::es) X.env=(false,eval e X.env)::starEach es X.env:=by rfl) (U:(backTo pos (starEach es X.env)).any (·.1)=false:=by rfl):PE X (.Call (.Name x p) (e::es) [] pos) (JL r t):=by
 intro pins s σ H Q I h;refine L4 (gE I S G hv ?_ Y L);exact Lk (bT (R pos pins s σ H _ I h) λus O ab=>by obtain⟨vs,H1,I1,N,J⟩:=ab;exact hc pins O σ H1 vs us Q I1 N J) he U
end
end L2
namespace HT
open PySem PyProof.Rows
section
open PySem.SeqAt
open PySem.AutoSeq1 (wpAny_loadPart')
open PySem.MeetsSeq PySem.MeetsSeq2 PySem.MeetsSeq3
end
section
variable {prog:ti}{w:Kl}{A:KA}{E:Value->mu->Prop}{s:mu}
def cR (n d:Nat):Option Int->Nat
 |none=>d
 |some v=>if v<0 then(v+(n:Int)).toNat else min v.toNat n
theorem lC (n d k:Nat):cR n d (some (k:Int))=min k n:=by
 show(if (k:Int)<0 then((k:Int)+(n:Int)).toNat else min (k:Int).toNat n)=min k n;rw[Tg af,L1]
theorem DJ (n d:Nat) (hd:d<=n) (o:Option Int):cR n d o<=n:=by
 cases o with
 |none=>exact hd
 |some v =>
  show(if v<0 then(v+(n:Int)).toNat else min v.toNat n)<=n;by_cases G:v<0
  .rw[Th G];omega
  .rw[Tg G];exact Nat.min_le_right _ _
theorem wO (v:Int) (n d:Nat):(if v<0 then max (v+(n:Int)) 0 else min v (n:Int))=((cR n d (some v):Nat):Int):=by
 show(if v<0 then max (v+(n:Int)) 0 else min v (n:Int))=(((if v<0 then(v+(n:Int)).toNat else min v.toNat n):Nat):Int);by_cases G:v<0
 .simp only[Th G];omega
 .simp only[Tg G];omega
theorem vx (lo hi:Option Int) (n:Nat):Builtin.Slice.sliceAdjust lo hi 1 (n:Int)=(((cR n 0 lo:Nat):Int),((cR n n hi:Nat):Int)):=by
 have h1:¬ ((1:Int)<0):=af;unfold Builtin.Slice.sliceAdjust;simp only[h1,if_false];refine QZ ?_ ?_
 .cases lo with
  |none=>rfl
  |some v=>exact wO v n 0
 .cases hi with
  |none=>rfl
  |some v=>exact wO v n n
theorem uu (i j:Nat):Builtin.Slice.slicePlaces (i:Int) (j:Int) 1=j-i:=by
 unfold Builtin.Slice.slicePlaces;have h1:(1:Int)>0:=af;simp only[h1,if_true,Int.ediv_one];split<;>omega
theorem ng {v:Value}{o:Option Int}{Q:Option Int->mu->Prop}(p:PM v o) (h:Q o s):wpAny (model prog w) A (Builtin.Slice.slicePartIndex v) Q E s:=by
 cases p with
 |none=>exact slicePart_none h
 |int i t=>exact slicePart_int h
theorem fW {sl:Addr}{L G:Value}{lo hi:Option Int}{n:Nat}{Q:Int×Int×Nat->mu->Prop}(hs:s.heap.IsSliceOf sl L G .none) (pl:PM L lo) (N:PM G hi)
  (h:Q (((cR n 0 lo:Nat):Int),1,cR n n hi-cR n 0 lo) s):wpAny (model prog w) A (Builtin.Slice.sliceApplied (.ref sl) (pure (n:Int))) Q E s:=by
 obtain⟨os,J,O,I⟩:=id hs;unfold Builtin.Slice.sliceApplied Builtin.Slice.sliceFields;refine oR (oR (Rl J I (x:=L) rfl (oR (Rl J I (x:=G) rfl (oR (Rl J I (x:=.none) rfl (By ?_)))))));refine oR (slicePart_none ?_);show wpAny _ _ (if ((1:Int)==0)=true then _ else _) _ _ s;rw[Tg av];refine oR (ng pl (oR (ng N (oR (By ?_)))));show wpAny _ _ (match Builtin.Slice.sliceAdjust lo hi 1 (n:Int)with|(lo,hi)=>pure (lo,(1:Int),Builtin.Slice.slicePlaces lo hi 1)) _ _ s;rw[vx lo hi n];show wpAny _ _ (pure (((cR n 0 lo:Nat):Int),(1:Int),Builtin.Slice.slicePlaces ((cR n 0 lo:Nat):Int) ((cR n n hi:Nat):Int) 1)) _ _ s;rw[uu];exact By h
theorem zE (xs:Array Value) (i k:Nat):((Kx k).filterMap λ(m:Nat)=>xs[((i:Int)+(m:Int)*1).toNat]?).toArray=((xs.toList.drop i).take k).toArray:=by
 have e:(λ(m:Nat)=>xs[((i:Int)+(m:Int)*1).toNat]?)=λm=>xs[i+m]?:=by
  funext m;have:((i:Int)+(m:Int)*1).toNat=i+m:=af;rw[this]
 rw[e];have:=pick_run xs i k;rw[List.filterMap_map]at this;have G:((λx=>xs[x]?)∘λx=>i+x)=λm=>xs[i+m]?:=rfl;rw[G]at this;rw[this]
theorem jB {t sl:Addr}{items:Array Value}{L J:Value}{lo hi:Option Int}{Q:Value->mu->Prop}(G:IsTup s.heap t items) (hs:s.heap.IsSliceOf sl L J .none) (pl:PM L lo) (O:PM J hi)
  (U:¬ (cR items.size 0 lo=0/\cR items.size items.size hi=items.size))
  (h:Q (.ref s.heap.objs.size) { s with heap:=s.heap.push { cls:=.type "tuple",data:=.seq ((items.toList.drop (cR items.size 0 lo)).take (cR items.size items.size hi-cR items.size 0 lo)).toArray } })
  (hsz:items.size<=sizeLine):wpAny (model prog w) A (NY (.ref t) (.ref sl)) Q E s:=by
 have I:sizeOk (.seq ((items.toList.drop (cR items.size 0 lo)).take (cR items.size items.size hi-cR items.size 0 lo)).toArray):=by
  show((items.toList.drop (cR items.size 0 lo)).take (cR items.size items.size hi-cR items.size 0 lo)).toArray.size<=sizeLine;rw[qj,Kv,LV,Ly];omega
 have hj:cR items.size items.size hi<=items.size:=DJ _ _ (sS _) hi;obtain⟨os,ab,Y,ac⟩:=id hs;have R:s.TypeIs (.ref sl) "slice" := ⟨os,ab,Y⟩;unfold NY
 try with_reducible refine LS ?_
 first|refine oR (By ?_)|skip
 refine oR (Q0 G.typeIs av ?_);refine oR (Pl (name:=Str.ofString "__getitem__") G.typeIs K6
  (Nc K6 G.typeIs Qt ?_ (QF _ _)))
 show wpAny _ _ (Builtin.Tuple.tupleItemsOf (.ref t)>>=_) _ _ s;refine oR (tupleItemsOf_ G ?_);refine oR (PN R ?_);rw[Th av];refine oR (fW hs pl O ?_);have S:¬ ((((cR items.size 0 lo:Nat):Int)==0&&(1:Int)==1&&(cR items.size items.size hi-cR items.size 0 lo)==items.size)=true):=by
  intro q;rw[Nd,Nd]at q;have N:((cR items.size 0 lo:Nat):Int)=0:=eq_of_beq q.1.1;have q2:cR items.size items.size hi-cR items.size 0 lo=items.size:=eq_of_beq q.2;exact U ⟨SA Int.ofNat_eq_zero N,af⟩
 show wpAny _ _ (if (((cR items.size 0 lo:Nat):Int)==0&&(1:Int)==1&&(cR items.size items.size hi-cR items.size 0 lo)==items.size)=true then _ else _) _ _ s;rw[Tg S,zE]
 first
  |exact oR (m:=Builtin.Tuple.tupleExact _) (Mh (By ⟨_,rfl,By h⟩) I)
  |exact oR (m:=Builtin.Tuple.tupleExact _) (Mh (oR (By (By ⟨_,rfl,By h⟩))) I)
  |exact oR (oR (m:=Builtin.Tuple.tupleExact _) (Mh (By (By ⟨_,rfl,By h⟩)) I))
  |exact oR (oR (m:=Builtin.Tuple.tupleExact _) (Mh (By ⟨_,rfl,By h⟩) I))
end
end HT
namespace L2
open PySem PySem.Spec PyProof.Rows
abbrev TO:=St->Hp->(Option Int->Hp->Prop)->Prop
def PO (X:Cx) (e:Option KJ) (t:TO):Prop :=
 ∀(pins:List (Addr×Obj)) (s:mu) (σ:St) (H:Hp) (Q:Option Int->Hp->Prop),Inv X pins σ H s->t σ H Q ->
  wpAny (model X.prog X.w) X.A (evalPart e X.env) (λu s'=>∃o H',Inv X pins σ H' s'/\PM u o/\Q o H') X.xe s
def Ca:TO:=λ_ H Q=>Q none H
def FO (t:TE):TO:=λσ H Q=>t σ H λx H1=>∃i,x=.int i/\Q (some i) H1
theorem intsAre_of {ns:List Int}:∀{us:List Value},Vals (ns.map V.int) us->LY us ns:=by
 induction ns with
 |nil=>intro us r;rw[Rx]at r;cases r;exact .nil
 |cons n ns I =>
  intro us r;rw[LU]at r;cases r with
  |cons J G =>
   obtain⟨t,e⟩:=J;subst e;exact .cons n t (I G)
section
variable {X:Cx}{e:KJ}{te:TE}{lo hi:Option KJ}{tl th:TO}{pos p2:Nj}
theorem fB:PO X none Ca:=by
 intro pins s σ H Q I h;rw[evalPart_none];exact By ⟨none,H,I,.none,h⟩
theorem cW (h:PE X e te):PO X (some e) (FO te):=by
 intro pins s σ H Q I L;rw[evalPart_some];refine bT (h pins s σ H _ I L) λu R N=>?_;obtain⟨x,H1,O,J,G⟩:=N;obtain⟨i,rfl,q⟩:=G;obtain⟨t,rfl⟩:=J;exact⟨some i,H1,O,.int i t,q⟩
def FN (X:Cx) (r:V->Option Int->Option Int->Hp->VK->Prop):Prop :=
 ∀(pins:List (Addr×Obj)) (s:mu) (σ:St) (H:Hp) (x:V) (v I G:Value) (lo hi:Option Int) (sl:Addr) (Q:VK),Inv X pins σ H s->RelV x v->s.heap.IsSliceOf sl I G .none->PM I lo->PM G hi->r x lo hi H Q ->
  ∃T id,typeLookup (.type T) "__getitem__" = pure (some (.builtin id))/\s.TypeIs v T/\wpAny (model X.prog X.w) X.A (NY v (.ref sl)) (EP X pins σ Q) X.xe s
def J3 (r:V->Option Int->Option Int->Hp->VK->Prop) (te:TE) (tl th:TO):TE:=λσ H Q=>te σ H λx H1=>tl σ H1 λl H2=>th σ H2 λu G=>r x l u G Q
theorem cZ {r:V->Option Int->Option Int->Hp->VK->Prop}(hr:FN X r) (he:PE X e te) (hl:PO X lo tl) (hu:PO X hi th):PE X (.Subscript e (.Slice lo hi none p2) pos) (J3 r te tl th):=by
 intro pins s σ H Q I h;refine RO (bT (he pins s σ H _ I h) λv R U=>?_);obtain⟨x,H1,I1,r1,q1⟩:=U;refine wpAny_Slice (bT (hl pins R σ H1 _ I1 q1) λJ s2 ac=>?_);obtain⟨l,H2,I2,pl,q2⟩:=ac;refine bT (hu pins s2 σ H2 _ I2 q2) λL G ab=>?_;obtain⟨u,N,S,O,q3⟩:=ab;rw[evalPart_none];refine By ?_;have I4:Inv X pins σ N { G with heap:=G.heap.push { cls:=.type "slice",data:=.fields #[J,L,.none] } }:=S.kept (t':=G.toks) λb ob q=>Heap.get?_push_of_some _ q;obtain⟨T,id,hT,ht,Y⟩:=hr pins { G with heap:=G.heap.push { cls:=.type "slice",data:=.fields #[J,L,.none] } } σ N x v J L l u G.heap.objs.size Q I4 r1 (Heap.IsSliceOf.new ..) pl O q3;show wpAny (model X.prog X.w) X.A (Qx e (.Slice lo hi none p2) v (.ref G.heap.objs.size)) (EP X pins σ Q) X.xe { G with heap:=G.heap.push { cls:=.type "slice",data:=.fields #[J,L,.none] } };exact tail_any (ops:=[.ref G.heap.objs.size,v]) ht hT Y (by with_unfolding_all rfl)
def fg (xs:List V) (lo hi:Option Int):List V:=(xs.drop (HT.cR xs.length 0 lo)).take (HT.cR xs.length xs.length hi-HT.cR xs.length 0 lo)
theorem kX (xs:List V) (lo hi:Option Int):(fg xs lo hi).length<=xs.length:=by
 unfold fg;rw[Kv,LV];omega
inductive GB (K:Kq) (x:V) (lo:Option Int) (hi:Option Int) (H:Hp) (Q:VK):Prop
 |mk (a:_) (xs:_) (_:x=.ref a) (_:bZ K H a xs) (_:¬ (HT.cR xs.length 0 lo=0/\HT.cR xs.length xs.length hi=xs.length)) (_:∀p,H p=none->Q (.ref p) (upd H p (.tup (fg xs lo hi)))):GB K x lo hi H Q
theorem E9:FN X (GB X.K):=by
 intro pins s σ H x v vl U lo hi sl Q I O hs pl N h;obtain⟨a,xs,rfl,S,R,q⟩:=h;cases O;obtain⟨its,r,J,L⟩:=I.tuple S;have G:its.toArray.size=xs.length:=(by rw[qj];exact r.length.symm);refine⟨"tuple",_,K6.lookup,J.typeIs,?_⟩;refine HT.jB J hs pl N (by rw[G];exact R) ?_ (by rw[G];exact L);rw[G];refine⟨.ref s.heap.objs.size,_,I.laid (t':=s.toks) (o:=.tup (fg xs lo hi)) (λb Y q=>Heap.get?_push_of_some _ q) (sS _) ?_,rfl,q _ (I.bE.fresh (sS _))⟩;exact⟨Ko (kX xs lo hi) L,_,(r.drop (HT.cR xs.length 0 lo)).take (HT.cR xs.length xs.length hi-HT.cR xs.length 0 lo),Su _ _⟩
end
def xw (n:Nat) (i:Int):Option Nat:=if 0<=i then(if i<n then some i.toNat else none)else if -(n:Int)<=i then some (i+n).toNat else none
def BD {α:Type}(xs:List α) (i:Int):Option α:=(xw xs.length i).bind λj=>xs[j]?
theorem wI {n:Nat}{i:Int}{j:Nat}(h:xw n i=some j):Sx i n=some j/\j<n /\ -(n:Int)<=i/\i<n:=by
 unfold xw at h;by_cases G:0<=i
 .rw[Th G]at h;by_cases h1:i<n
  .rw[Th h1]at h;have e:i.toNat=j:=ro h;exact⟨by rw[OR G h1,e],af,af,h1⟩
  .rw[Tg h1]at h;cases h
 .rw[Tg G]at h;by_cases h1 : -(n:Int)<=i
  .rw[Th h1]at h;have e:(i+n).toNat=j:=ro h;exact⟨by rw[seqIndex_neg af h1,e],af,h1,af⟩
  .rw[Tg h1]at h;cases h
theorem rq {α:Type}{xs:List α}{i:Int}{v:α}(h:BD xs i=some v):∃j,Sx i xs.length=some j/\xs[j]?=some v/\j<xs.length /\ -(xs.length:Int)<=i/\i<xs.length:=by
 unfold BD at h;cases e:xw xs.length i with
 |none=>rw[e]at h;cases h
 |some j =>
  rw[e]at h;obtain⟨h1,h2,G,I⟩:=wI e;exact⟨j,h1,h,h2,G,I⟩
theorem jv {α:Type}{xs:List α}{j:Nat}{v:α}(h:xs[j]?=some v):BD xs (j:Int)=some v:=by
 have G:j<xs.length:=(j1.mp h).1;have e:xw xs.length (j:Int)=some j:=by
  unfold xw;rw[Th af,Th (Mj SD G)];simp
 unfold BD;rw[e];exact h
def Cr (b:KJ):Prop:=∀o i,Qe b false o i=operate [o,i] (NY o i)
def Ig (X:Cx) (r:R2):Prop :=
 ∀(value G:KJ) (pins:List (Addr×Obj)) (s:mu) (σ:St) (H:Hp) (x y:V) (v u:Value) (Q:VK),Inv X pins σ H s->RelV x v->RelV y u->r x y H Q ->
  Qe G false v u=operate [v,u] (NY v u)->wpAny (model X.prog X.w) X.A (Qx value G v u) (EP X pins σ Q) X.xe s
def Kb (X:Cx) (id:String) (r:V->List V->Hp->VK->Prop):Prop :=
 ∀(pins:List (Addr×Obj)) (s:mu) (σ:St) (H:Hp) (x:V) (xs:List V) (v:Value) (us:List Value) (Q:VK),Inv X pins σ H s->RelV x v->Vals xs us->r x xs H Q ->
  wpAny (model X.prog X.w) X.A (call (.builtin id) (v::us)) (EP X pins σ Q) X.xe s
section
variable {X:Cx}{a b:KJ}{ta tb:TE}{pos:Nj}
theorem a9 {r:R2}(S:Ig X r) (J:PE X a ta) (R:PE X b tb) (hs:Cr b):PE X (.Subscript a b pos) (Bw r ta tb):=by
 intro pins s σ H Q I h;exact RO (EO J R I h λv u G x y H2 O N L q=>S a b pins G σ H2 x y v u Q O N L q (hs _ _))
inductive Cw (K:Kq) (x:V) (y:V) (H:Hp) (Q:VK):Prop
 |mk (p:_) (xs:_) (i:_) (v:_) (_:x=.ref p) (_:y=.int i) (_:bq K H p xs) (_:BD xs i=some v) (_:Q v H):Cw K x y H Q
inductive Hh (K:Kq) (x:V) (y:V) (H:Hp) (Q:VK):Prop
 |mk (p:_) (xs:_) (i:_) (v:_) (_:x=.ref p) (_:y=.int i) (_:bZ K H p xs) (_:BD xs i=some v) (_:Q v H):Hh K x y H Q
theorem cz:Ig X (Cw X.K):=by
 intro value ac pins s σ H x y v u Q I R O h hs;obtain⟨p,xs,i,z,rfl,rfl,Y,U,q⟩:=h;cases R;obtain⟨t,rfl⟩:=O;obtain⟨its,r,pl,hz⟩:=I.list Y;obtain⟨j,h1,h2,h3,h4,h5⟩:=rq U;obtain⟨w,L,ab⟩:=r.get h2;have S:=r.length;have hn:=l9;have N:EP X pins σ Q w s:=⟨z,H,I,ab,q⟩;by_cases J:0<=i
 .have G:i.toNat=j:=by
   rw[OR J h5]at h1;exact ro h1
  exact item_listR pl.isList J af (by rw[G];simpa using L) N hs
 .have G:(i+(its.toArray.size:Int)).toNat=j:=by
   rw[seqIndex_neg af h4]at h1;rw[qj, <-S];exact ro h1
  exact PQ (x:=w) pl.isList.typeIs Q1.lookup
   (PR (Q:=λr s'=>r=w/\EP X pins σ Q r s') pl.isList af (by rw[qj]<;>omega) af (by rw[G];simpa using L) ⟨rfl,N⟩) hs
theorem bh:Ig X (Hh X.K):=by
 intro value Y pins s σ H x y v u Q I J G h hs;obtain⟨p,xs,i,z,rfl,rfl,O,N,q⟩:=h;cases J;obtain⟨t,rfl⟩:=G;obtain⟨its,r,pl,hz⟩:=I.tuple O;obtain⟨j,h1,h2,h3,h4,h5⟩:=rq N;obtain⟨w,S,R⟩:=r.get h2;have L:=r.length;have hn:=l9;have U:EP X pins σ Q w s:=⟨z,H,I,R,q⟩;exact PQ (x:=w) pl.typeIs K6.lookup
  (getItem_tuple (j:=j) (Q:=λr s'=>r=w/\EP X pins σ Q r s') pl af af (by rw[qj, <-L];exact h1) (by simpa using S) ⟨rfl,U⟩) hs
theorem vQ (its:List Value) (n j:Nat) (u:Value):Obj.mapSeq (·.setIfInBounds j u) { cls:=.type "list",data:=.seq its.toArray n }={ cls:=.type "list",data:=.seq (its.set j u).toArray n }:=by
 simp[Obj.mapSeq]
theorem Inv.lst {pins:List (Addr×Obj)}{σ:St}{H:Hp}{s:mu}{p:Addr}{xs:List V}(I:Inv X pins σ H s) (h:H p=some (.lst xs)) :
  ∃(its:List Value) (n:Nat),Vals xs its/\s.heap.get? p=some { cls:=.type "list",data:=.seq its.toArray n }/\xs.length<=sizeLine:=by
 obtain⟨z,its,n,r,e⟩:=I.bE p _ h;exact⟨its,n,r,e,z⟩
theorem Inv.Fp {pins:List (Addr×Obj)}{σ:St}{H:Hp}{s:mu}{p:Addr}{xs ys:List V}{its its':List Value}{n G:Nat}{f:Obj->Obj}(I:Inv X pins σ H s) (h:H p=some (.lst xs))
  (N:s.heap.get? p=some { cls:=.type "list",data:=.seq its.toArray n }) (J:f { cls:=.type "list",data:=.seq its.toArray n }={ cls:=.type "list",data:=.seq its'.toArray G }) (r:Vals ys its') (O:ys.length<=sizeLine) (t:Nat) :
  Inv X pins σ (upd H p (.lst ys)) { s with heap:=s.heap.update p f,toks:=t }:=by
 have e:(s.heap.update p f).get? p=some { cls:=.type "list",data:=.seq its'.toArray G }:=by
  rw[Heap.get?_update_self f N (by rw[J]<;>rfl),J]
 refine I.write (x:=p) (e:=p) (by rw[h];trivial) (.inl rfl) (λb u L q=>(Heap.get?_update_other _ _ (qw L)).trans q) ⟨_,e⟩ ?_;exact⟨O,its',G,r,e⟩
inductive Dc (o:V) (i:V) (v:V) (H:Hp) (Q:(Hp->Prop)):Prop
 |mk (p:_) (xs:_) (k:_) (j:_) (_:o=.ref p) (_:i=.int k) (_:H p=some (.lst xs)) (_:xw xs.length k=some j) (_:Q (upd H p (.lst (xs.set j v)))):Dc o i v H Q
theorem set_list:B6 X Dc:=by
 intro pins s σ H o i v ov iv u Q I Y ri rv h;obtain⟨p,xs,k,j,rfl,rfl,S,hj,q⟩:=h;cases Y;obtain⟨t,rfl⟩:=ri;obtain⟨its,n,r,L,hz⟩:=I.lst S;obtain⟨h1,h2,N,R⟩:=wI hj;have J:=r.length;have hn:=l9;have U:Inv X pins σ (upd H p (.lst (xs.set j v))) { s with heap:=s.heap.update p (Obj.mapSeq (·.setIfInBounds j u)) }:=
  I.Fp S L (vQ its n j u) (r.set rv j) (by rw[K9];exact hz) s.toks
 by_cases O:0<=k
 .have G:k.toNat=j:=by
   rw[OR O R]at h1;exact ro h1
  exact PySem.W.ki_setAt L O af (by rw[qj, <-J];exact R) (by rw[G];exact⟨_,U,q⟩)
 .have G:(k+(its.toArray.size:Int)).toNat=j:=by
   rw[seqIndex_neg af N]at h1;rw[qj, <-J];exact ro h1
  exact PySem.W.ki_setBack L af (by rw[qj, <-J];exact N) af (by rw[G];exact⟨_,U,q⟩)
theorem p8 (lo hi:Option Int) (n:Nat):(NA lo hi none n).1=((HT.cR n 0 lo:Nat):Int)/\(NA lo hi none n).2.1=((HT.cR n n hi:Nat):Int)/\(NA lo hi none n).2.2=1:=by
 refine⟨?_,?_,rfl⟩
 .cases lo with
  |none=>simp[NA,HT.cR]
  |some i =>
   simp only[NA,HT.cR,getD_none,show(1:Int)>0 by decide,if_true];by_cases h:i<0
   .simp only[h,if_true]<;>omega
   .simp only[h,if_false]<;>omega
 .cases hi with
  |none=>simp[NA,HT.cR]
  |some i =>
   simp only[NA,HT.cR,getD_none,show(1:Int)>0 by decide,if_true];by_cases h:i<0
   .simp only[h,if_true]<;>omega
   .simp only[h,if_false]<;>omega
theorem oh (its:List Value) (lo hi:Option Int):slicePick its.toArray lo hi none=((its.drop (HT.cR its.length 0 lo)).take (HT.cR its.length its.length hi-HT.cR its.length 0 lo)).toArray:=by
 obtain⟨h1,h2,G⟩:=p8 lo hi its.toArray.size;unfold slicePick;rw[h1,h2,G];simp only[sliceRange_one,pick_run,qj]<;>rfl
inductive Fn (K:Kq) (x:V) (lo:Option Int) (hi:Option Int) (H:Hp) (Q:VK):Prop
 |mk (a:_) (xs:_) (_:x=.ref a) (_:bq K H a xs) (_:∀p,H p=none->Q (.ref p) (upd H p (.lst (fg xs lo hi)))):Fn K x lo hi H Q
theorem gk:FN X (Fn X.K):=by
 intro pins s σ H x v Y S lo hi sl Q I L hs pl J h;obtain⟨a,xs,rfl,N,q⟩:=h;cases L;obtain⟨its,r,G,O⟩:=I.list N;have R:=r.length;refine⟨"list",_,Q1.lookup,G.isList.typeIs,?_⟩;refine wpAny_getItem_list_slice G.isList hs pl J .none (by simp) ?_ (by rw[qj]<;>omega);rw[oh, <-R];refine⟨.ref s.heap.objs.size,_,I.laid (t':=s.toks) (o:=.lst (fg xs lo hi)) (λb U q=>Heap.get?_push_of_some _ q) (sS _) ?_,rfl,q _ (I.bE.fresh (sS _))⟩;exact⟨Ko (kX xs lo hi) O,_,0,(r.drop (HT.cR xs.length 0 lo)).take (HT.cR xs.length xs.length hi-HT.cR xs.length 0 lo),Heap.get?_push_size _ rfl⟩
def cV:V->Bool
 |.non=>true
 |.bl _=>true
 |.int _=>true
 |.str _=>true
 |_=>false
def jV:V->V->Bool
 |.non,.non=>true
 |.bl a,.bl b=>a==b
 |.bl a,.int b=>(if a then 1 else 0)==b
 |.int a,.bl b=>a==(if b then 1 else 0)
 |.int a,.int b=>a==b
 |.str a,.str b=>a==b
 |_,_=>false
theorem iX {A:KA}{s:mu}{y x:V}{u v:Value}(I:RelV y u) (G:RelV x v) (L:cV y=true) (J:cV x=true):Mp A s u v (jV y x):=by
 cases y with
 |non =>
  cases I;cases x with
  |non=>cases G;exact SeqAt.EqAt.same _
  |bl b=>cases G;exact SeqAt.EqAt.none_bool b
  |int b=>obtain⟨t,rfl⟩:=G;exact SeqAt.EqAt.none_int b t
  |str b=>obtain⟨t,rfl⟩:=G;exact SeqAt.EqAt.none_str b t
  |_=>exact absurd (show false=true from J) DO
 |bl a =>
  cases I;cases x with
  |non=>cases G;exact SeqAt.EqAt.bool_none a
  |bl b=>cases G;exact SeqAt.EqAt.bool_bool a b
  |int b=>obtain⟨t,rfl⟩:=G;exact SeqAt.EqAt.bool_int a b t
  |str b=>obtain⟨t,rfl⟩:=G;exact SeqAt.EqAt.bool_str a b t
  |_=>exact absurd (show false=true from J) DO
 |int a =>
  obtain⟨t',rfl⟩:=I;cases x with
  |non=>cases G;exact SeqAt.EqAt.int_none a t'
  |bl b=>cases G;exact SeqAt.EqAt.int_bool a t' b
  |int b=>obtain⟨t,rfl⟩:=G;exact SeqAt.EqAt.int_int a t' b t
  |str b=>obtain⟨t,rfl⟩:=G;exact Qz a t' b t
  |_=>exact absurd (show false=true from J) DO
 |str a =>
  obtain⟨t',rfl⟩:=I;cases x with
  |non=>cases G;exact SeqAt.EqAt.str_none a t'
  |bl b=>cases G;exact SeqAt.EqAt.str_bool a t' b
  |int b=>obtain⟨t,rfl⟩:=G;exact QA a t' b t
  |str b=>obtain⟨t,rfl⟩:=G;exact SeqAt.EqAt.str_str a t' b t
  |_=>exact absurd (show false=true from J) DO
 |_=>exact absurd (show false=true from L) DO
def uk (x:V) (u:Value):Bool:=match u with
 |.none=>jV .non x
 |.bool b=>jV (.bl b) x
 |.int i _=>jV (.int i) x
 |.str z _=>jV (.str z) x
 |_=>false
theorem zm {x y:V}{u:Value}(r:RelV y u) (f:cV y=true):uk x u=jV y x:=by
 cases y with
 |non=>cases r;rfl
 |bl b=>cases r;rfl
 |int i=>obtain⟨t,rfl⟩:=r;rfl
 |str z=>obtain⟨t,rfl⟩:=r;rfl
 |_=>exact absurd (show false=true from f) DO
theorem jH {x:V}:∀{xs:List V}{us:List Value},Vals xs us->xs.all cV=true->us.any (uk x)=xs.any λy=>jV y x
 |_,_,.nil,_=>rfl
 |y::xs,u::us,.cons r t,f=>by
  rw[all_cons,Nd]at f;rw[Qf,Qf,zm r f.1,jH t f.2]
theorem gT {A:KA}{s:mu}{x:V}{v:Value}(I:RelV x v) (J:cV x=true):∀{xs:List V}{us:List Value},Vals xs us->xs.all cV=true->∀u∈us,Mp A s u v (uk x u)
 |_,_,.nil,_=>λu G=>by cases G
 |y::xs,u::us,.cons r t,f=>λL G=>by
  rw[all_cons,Nd]at f;rcases E3.mp G with rfl|G
  .rw[zm r f.1];exact iX r I f.1 J
  .exact gT I J t f.2 L G
def EF (x:V) (xs:List V):Bool:=xs.any λy=>jV y x
inductive JA (K:Kq) (neg:Bool) (x:V) (y:V) (H:Hp) (Q:VK):Prop
 |mk (p:_) (xs:_) (_:y=.ref p) (_:(bq K H p xs\/bZ K H p xs)) (_:cV x=true) (_:xs.all cV=true) (_:Q (.bl (if neg then !EF x xs else EF x xs)) H):JA K neg x y H Q
theorem xN:j4 X (LB .In) (JA X.K false):=by
 intro pins s σ H x y v u Q I L O h;obtain⟨p,xs,rfl,G,N,fs,q⟩:=h;cases O;rcases G with G|G
 .obtain⟨its,r,pl,R⟩:=I.list G;refine SeqAt.in_listAt (uk x) pl.isList (λw J=>gT L N r fs w (by simpa using J)) ⟨.bl _,H,I,rfl,?_⟩;rw[show its.toArray.any (uk x)=its.any (uk x)by simp,jH r fs];exact q
 .obtain⟨its,r,pl,R⟩:=I.tuple G;refine SeqAt.in_tupleAt (uk x) pl (λw J=>gT L N r fs w (by simpa using J)) ⟨.bl _,H,I,rfl,?_⟩;rw[show its.toArray.any (uk x)=its.any (uk x)by simp,jH r fs];exact q
theorem jm:j4 X (LB .NotIn) (JA X.K true):=by
 intro pins s σ H x y v u Q I L O h;obtain⟨p,xs,rfl,G,N,fs,q⟩:=h;cases O;rcases G with G|G
 .obtain⟨its,r,pl,R⟩:=I.list G;refine SeqAt.notIn_listAt (uk x) pl.isList (λw J=>gT L N r fs w (by simpa using J)) ⟨.bl _,H,I,rfl,?_⟩;rw[show its.toArray.any (uk x)=its.any (uk x)by simp,jH r fs];exact q
 .obtain⟨its,r,pl,R⟩:=I.tuple G;refine SeqAt.notIn_tupleAt (uk x) pl (λw J=>gT L N r fs w (by simpa using J)) ⟨.bl _,H,I,rfl,?_⟩;rw[show its.toArray.any (uk x)=its.any (uk x)by simp,jH r fs];exact q
theorem bJ:dt X (.builtin "len") (λxs H Q=>∃p ys,xs=[.ref p]/\(bq X.K H p ys\/bZ X.K H p ys)/\Q (.int ys.length) H):=by
 intro pins s σ H xs us Q I r h;obtain⟨p,ys,rfl,G,q⟩:=h;obtain⟨u,rfl,N⟩:=vals1 r;cases N;have R:=l9;rcases G with G|G
 .obtain⟨its,J,pl,O⟩:=I.list G;have L:=J.length;exact Calls.call_len_list pl.isList (by simp only[qj]<;>omega) ⟨.int ys.length,H,I.tok _,⟨s.toks+1,by rw[qj,L]⟩,q⟩
 .obtain⟨its,J,pl,O⟩:=I.tuple G;have L:=J.length;exact len_tuple pl (by simp only[qj]<;>omega) ⟨.int ys.length,H,I.tok _,⟨s.toks+1,by rw[qj,L]⟩,q⟩
theorem cB:dt X (.type "list") (λxs H Q=>∃p ys,xs=[.ref p]/\(bq X.K H p ys\/bZ X.K H p ys)/\∀l,H l=none->Q (.ref l) (upd H l (.lst ys))):=by
 intro pins s σ H xs us Q I r h;obtain⟨p,ys,rfl,O,q⟩:=h;obtain⟨u,rfl,Y⟩:=vals1 r;cases Y;have U:∀(its:List Value),Vals ys its->ys.length<=sizeLine->∀(h':Heap) (G:Nat),(∀b o',s.heap.get? b=some o'->h'.get? b=some o') ->
   h'.get? s.heap.objs.size=some { cls:=.type "list",dict:=none,data:=.seq its.toArray G,slots := #[] }->EP X pins σ Q (.ref s.heap.objs.size) { s with heap:=h' }:=λits J L h' G N e =>
  ⟨.ref s.heap.objs.size,_,I.laid (t':=s.toks) N (sS _) (show bS X.prog X.w _ h' _ (.lst ys)from⟨L,its,G,J,e⟩),rfl,q _ (I.bE.fresh (sS _))⟩
 rcases O with O|O
 .obtain⟨its,J,pl,L⟩:=I.list O;have ab:=J.length;obtain⟨o,S,R,n,hd⟩:=pl.isList;exact call_list_seq p (.inl rfl) S R hd (λh' G N e=>U its J L h' G N e) (by simp only[qj]<;>omega)
 .obtain⟨its,J,pl,L⟩:=I.tuple O;have ab:=J.length;obtain⟨o,S,R,n,hd⟩:=pl;exact call_list_seq p (.inr rfl) S R hd (λh' G N e=>U its J L h' G N e) (by simp only[qj]<;>omega)
theorem nZ:dt X (.type "tuple") (λxs H Q=>∃p ys,xs=[.ref p]/\((bq X.K H p ys/\∀l,H l=none->Q (.ref l) (upd H l (.tup ys)))\/(bZ X.K H p ys/\Q (.ref p) H))):=by
 intro pins s σ H xs us Q I r h;obtain⟨p,ys,rfl,h⟩:=h;obtain⟨u,rfl,R⟩:=vals1 r;cases R;rcases h with⟨G,q⟩|⟨G,q⟩
 .obtain⟨its,J,pl,N⟩:=I.list G;have U:=J.length;refine call_tuple_list pl.isList (λh' O=>?_) (by simp only[qj]<;>omega);have L:Inv X pins σ H { s with heap:=h' }:=I.kept (t':=s.toks) O;have S:Inv X pins σ (upd H h'.objs.size (.tup ys)) { s with heap:=h'.push { cls:=.type "tuple",data:=.seq its.toArray } }:=
   L.laid (t':=s.toks) (λb o e=>Heap.get?_push_of_some _ e) (sS _) (show bS X.prog X.w _ _ _ (.tup ys)from⟨N,its,J,Su _ _⟩)
  exact⟨.ref h'.objs.size,_,S,rfl,q _ (L.bE.fresh (sS _))⟩
 .obtain⟨its,J,pl,N⟩:=I.tuple G;exact call_tuple_same pl ⟨.ref p,H,I,rfl,q⟩
def J0 (K:Kq) (T:String) (x:V) (H:Hp):Prop:=match x with
 |.str _=>T = "str"
 |.int _=>T = "int"
 |.ref p=>(T = "list" /\ ∃xs,bq K H p xs)\/(T = "tuple" /\ ∃o,K.lookup p=some o/\o.cls=.type "tuple" /\ o.dict=none) \/
   (T = "dict" /\ ((∃kvs,H p=some (.dK kvs))\/∃kvs,H p=some (.dT kvs)))\/(T = "set" /\ ∃S n,H p=some (.set S n))
 |_=>False
theorem Eh {pins:List (Addr×Obj)}{σ:St}{H:Hp}{s:mu}{T:String}{x:V}{v:Value}(I:Inv X pins σ H s) (r:RelV x v) (ty:J0 X.K T x H) :
  s.TypeIs v T/\∀a,v=.ref a->∃L,s.heap.get? a=some L/\L.dict=none:=by
 cases x with
 |str z =>
  obtain⟨t,rfl⟩:=r;cases(show T = "str" from ty);exact⟨typeIs_str s z t,λ_ e=>nomatch e⟩
 |int i =>
  obtain⟨t,rfl⟩:=r;cases(show T = "int" from ty);exact⟨RP s i t,λ_ e=>nomatch e⟩
 |ref p =>
  cases r;rcases ty with⟨rfl,xs,N⟩|⟨rfl,o,G,O,hd⟩|⟨rfl,G⟩|⟨rfl,S,n,G⟩
  .obtain⟨its,_,pl,_⟩:=I.list N;refine⟨pl.isList.typeIs,λa e=>?_⟩;cases e;obtain⟨o,n,e,c,hd,_⟩:=pl;exact⟨o,e,hd⟩
  .refine⟨⟨o,I.jW p o G,O⟩,λa e=>?_⟩;cases e;exact⟨o,I.jW _ o G,hd⟩
  .have z:∃o,s.heap.get? p=some o/\o.ExactDict:=by
    rcases G with⟨kvs,G⟩|⟨kvs,G⟩
    .obtain⟨_,_,_,_,o,_,_,e,ex,_⟩:=I.bE p _ G;exact⟨o,e,ex⟩
    .obtain⟨_,_,_,_,o,_,_,e,ex,_⟩:=I.bE p _ G;exact⟨o,e,ex⟩
   obtain⟨o,e,ex⟩:=z;refine⟨⟨o,e,ex.1⟩,λa J=>?_⟩;cases J;exact⟨o,e,ex.2.1⟩
  .obtain⟨o,_,_,_,e,ex,_⟩:=I.bE p _ G;refine⟨⟨o,e,ex.1⟩,λa J=>?_⟩;cases J;exact⟨o,e,ex.2.1⟩
 |_=>exact LO ty
def Kj (K:Kq) (T:String) (r:V->List V->Hp->VK->Prop) (to:TE) (t:TA):TE:=λσ H Q=>to σ H λx H1=>J0 K T x H1/\t σ H1 λxs H2=>r x xs H2 Q
variable {o e:KJ}{es:List KJ}{to:TE}{t:TA}{name:Str}{apos cpos:Nj}{T id:String}{r:V->List V->Hp->VK->Prop}
theorem ig (O:PlainAttrs T) (slot:Slot T name id) (ab:typeOf (.builtin id)=pure (.type "method_descriptor")) (hm:Kb X id r) (ho:PE X o to) (ha:PA X (e::es) t)
  (am:MN o name X.env (eval o X.env)=eval o X.env:=by rfl)
  (Y:((backTo cpos (starEach (e::es) X.env)).all (λx => !x.1)&&(Pk cpos (Nz [] X.env)).all (λx=>x.1.isSome)
   && decide ((e::es).length+([]:List Qo).length+(if ([]:List Qo).isEmpty then 0 else 1)<30))=true:=by rfl)
  (ap:(apos.endLine==cpos.line)=true:=by rfl) (hs:starEach (e::es) X.env=(false,eval e X.env)::starEach es X.env:=by rfl) (ai:(backTo cpos (starEach es X.env)).any (·.1)=false:=by rfl) :
  PE X (.Call (.Attribute o name apos) (e::es) [] cpos) (Kj X.K T r to t):=by
 intro pins s σ H Q I h;refine wpAny_Call_method_late am Y ap rfl (bT (ho pins s σ H _ I h) λv R ac=>?_);obtain⟨x,H1,L,J,ty,q1⟩:=ac;obtain⟨h1,h2⟩:=Eh L J ty;refine⟨T,id,O,slot,ab,h1,h2,?_⟩;have G:=ha cpos pins R σ H1 _ L q1;rw[hs]at G ⊢;refine Calls.callWith_builtin (by show(false||(backTo cpos (starEach es X.env)).any (·.1))=false;rw[ai]<;>rfl) (Calls.evalArgs_plain ?_);exact bT G λus s2 as=>by obtain⟨vs,H2,S,N,U⟩:=as;exact hm pins s2 σ H2 x vs v us Q S J N U
end
def En (X:Cx) (id:String) (r:V->List V->Hp->VK->Prop):Prop :=
 ∀(pins:List (Addr×Obj)) (s:mu) (σ:St) (H:Hp) (x:V) (xs:List V) (v:Value) (us:List Value) (Q:VK),Inv X pins σ H s->RelV x v->Vals xs us->r x xs H Q ->
  wpAny (model X.prog X.w) X.A (call (.builtin id) (v::us)) (EP X pins σ Q) X.xe s
theorem Vals.one:∀{x:V}{us:List Value},Vals [x] us->∃u,us=[u]/\RelV x u
 |_,_,.cons r .nil=>⟨_,rfl,r⟩
theorem Vals.eraseIdx:∀{xs:List V}{us:List Value}(i:Nat),Vals xs us->Vals (xs.eraseIdx i) (us.eraseIdx i)
 |_,_,_,.nil=>.nil
 |_,_,0,.cons _ t=>t
 |_,_,i+1,.cons r t=>.cons r (Vals.eraseIdx i t)
theorem Vals.rep {xs:List V}{us:List Value}(h:Vals xs us):∀k:Nat,Vals (replicate k xs).flatten (replicate k us).flatten
 |0=>.nil
 |k+1=>by
  rw[L6,L6,Ml,Ml];exact Vals.append h (Vals.rep h k)
theorem pf {α:Type}:∀(l:List α) (i:Nat),(l.eraseIdx i).length<=l.length
 | [],_=>sS _
 |_::_,0=>Oi _
 |_::r,i+1=>Nat.succ_le_succ (pf r i)
theorem foldl_rep (its:List Value):∀(k:Nat) (G:List Value),
  foldl (λL I=>L++I) G.toArray (replicate k its.toArray)=(G++(replicate k its).flatten).toArray
 |0,G=>by simp
 |k+1,G=>by
  have e:G.toArray++its.toArray=(G++its).toArray:=(by simp);have J:(G++its)++(replicate k its).flatten=G++(replicate (k+1) its).flatten:=by
   rw[L6,Ml,KU]
  rw[<-J, <-foldl_rep its k (G++its), <-e,L6,List.foldl_cons]
section
variable {X:Cx}{pins:List (Addr×Obj)}{σ:St}{H:Hp}{s:mu}{l b:Addr}{xs ys zs:List V}
theorem Inv.BZ {its its':List Value}{n:Nat}{f:Array Value->Array Value}{t':Nat}(I:Inv X pins σ H s) (J:H l=some (.lst xs))
  (e:s.heap.get? l=some { cls:=.type "list",data:=.seq its.toArray n }) (O:f its.toArray=its'.toArray) (N:Vals ys its') (R:ys.length<=sizeLine) :
  Inv X pins σ (upd H l (.lst ys)) { s with heap:=s.heap.update l (Obj.mapSeq f),toks:=t' }:=by
 have q:=NT e f;rw[O]at q;refine I.write (x:=l) (e:=l) (by rw[J];exact trivial) (.inl rfl) (λS u L G=>(Heap.get?_update_other s.heap (Obj.mapSeq f) (qw L)).trans G) ⟨_,q⟩ ?_;exact⟨R,its',_,N,q⟩
theorem Inv.Fz {its:List Value}{t':Nat}(I:Inv X pins σ H s) (G:Vals ys its) (J:ys.length<=sizeLine) :
  Inv X pins σ (upd H s.heap.objs.size (.lst ys)) { s with heap:=s.heap.push { cls:=.type "list",data:=.seq its.toArray },toks:=t' }:=
 I.laid (λ_ _ q=>Heap.get?_push_of_some _ q) (sS _) ⟨J,its,0,G,Heap.get?_push_size _ rfl⟩
theorem Inv.fresh (I:Inv X pins σ H s):H s.heap.objs.size=none:=I.bE.fresh (sS _)
theorem Inv.nK (I:Inv X pins σ H s) (G:H l=some (.lst xs)):xs.length<=sizeLine/\∃(its:List Value) (n:Nat),Vals xs its/\xs.length=its.length/\s.heap.get? l=some { cls:=.type "list",data:=.seq its.toArray n }:=by
 obtain⟨z,its,n,r,e⟩:=I.bE l _ G;exact⟨z,its,n,r,r.length,e⟩
theorem rZ {n:Nat}(h:n<=sizeLine):Builtin.List.listTooLong n=false:=by
 unfold Builtin.List.listTooLong;exact decide_eq_false af
end
section
variable {X:Cx}
inductive xq (x:V) (vs:List V) (H:Hp) (Q:VK):Prop
 |mk (l:_) (xs:_) (y:_) (_:x=.ref l) (_:vs=[y]) (_:H l=some (.lst xs)) (_:xs.length<sizeLine) (_:Q .non (upd H l (.lst (xs++[y])))):xq x vs H Q
theorem j9:En X "list.append" xq:=by
 intro pins s σ H x vs v us Q I J L h;obtain⟨l,xs,y,rfl,rfl,G,N,q⟩:=h;cases J;obtain⟨u,rfl,O⟩:=L.one;obtain⟨z,its,n,r,R,e⟩:=I.nK G;refine Nx F.slot_list_append ⟨_,e,rfl⟩ F.entry_list_append (F.args_list_append_2 _ _) (list_append l its.toArray n u (by rw[qj];omega)) ⟨e,?_⟩;refine⟨.non,_,I.BZ (its':=its++[u]) G e (by simp) (r.append (.cons O .nil)) ?_,rfl,q⟩;rw[E2,Lr];exact W.kdl_size N
inductive xv (x:V) (vs:List V) (H:Hp) (Q:VK):Prop
 |mk (l:_) (b:_) (xs:_) (zs:_) (_:x=.ref l) (_:vs=[.ref b]) (_:H l=some (.lst xs)) (_:H b=some (.lst zs)) (_:xs.length+zs.length<=sizeLine) (_:Q .non (upd H l (.lst (xs++zs)))):xv x vs H Q
theorem oM:En X "list.extend" xv:=by
 intro pins s σ H x vs v us Q I R U h;obtain⟨l,b,xs,zs,rfl,rfl,J,S,hz,q⟩:=h;cases R;obtain⟨u,rfl,N⟩:=U.one;cases N;obtain⟨z,its,n,r,hl,e⟩:=I.nK J;obtain⟨z2,G,Y,O,ac,L⟩:=I.nK S;have hsz:its.toArray.size+G.toArray.size<=sizeLine:=(by rw[qj,qj];omega);have ab:¬ (!its.toArray.isEmpty&&Builtin.List.listTooLong (its.toArray.size+G.toArray.size))=true:=by
  rw[rZ hsz,Qg];exact DO
 refine Nx F.slot_list_extend ⟨_,e,rfl⟩ F.entry_list_extend (F.args_list_extend_2 _ _)
  (AutoSeq1.list_extend_list_list_0 l its.toArray n b G.toArray Y ab (by rw[qj];exact LZ hsz) (PU hsz)) ⟨e,L,?_⟩
 refine⟨.non,_,I.BZ (its':=its++G) J e (by simp) (r.append O) ?_,rfl,q⟩;rw[E2];omega
inductive Ad (x:V) (vs:List V) (H:Hp) (Q:VK):Prop
 |mk (l:_) (xs:_) (i:_) (k:_) (y:_) (_:x=.ref l) (_:vs=[.int i]) (_:H l=some (.lst xs)) (_ : -(2^63)<=i) (_:i<2^63) (_:Sx i xs.length=some k) (_:xs[k]?=some y) (_:Q y (upd H l (.lst (xs.eraseIdx k)))):Ad x vs H Q
theorem zK:En X "list.pop" Ad:=by
 intro pins s σ H x vs v us Q I N U h;obtain⟨l,xs,i,k,y,rfl,rfl,G,h1,h2,J,L,q⟩:=h;cases N;obtain⟨u,rfl,Y⟩:=U.one;obtain⟨t,rfl⟩:=Y;obtain⟨z,its,n,r,S,e⟩:=I.nK G;obtain⟨w,R,O⟩:=r.get L;refine Nx F.slot_list_pop ⟨_,e,rfl⟩ F.entry_list_pop (F.args_list_pop_2 _ _)
  (MeetsSeq.list_pop_at l its.toArray n i t k w (fitsIndex_both h1 h2) (by rw[qj, <-S];exact J) (by rw[<-LJ];exact R) (by rw[qj];omega)) ⟨e,?_⟩
 refine⟨y,_,I.BZ (its':=its.eraseIdx k) G e ?_ (r.eraseIdx k) ?_,O,q⟩
 .show its.toArray.eraseIdxIfInBounds k=(its.eraseIdx k).toArray;rw[NQ]
 .have:=pf xs k;exact Ko this z
inductive Gh (x:V) (y:V) (H:Hp) (Q:VK):Prop
 |mk (l:_) (b:_) (xs:_) (zs:_) (_:x=.ref l) (_:y=.ref b) (_:H l=some (.lst xs)) (_:H b=some (.lst zs)) (_:xs.length+zs.length<=sizeLine) (_:∀p,H p=none->Q (.ref p) (upd H p (.lst (xs++zs)))):Gh x y H Q
theorem pL:j4 X (N4 .Add) Gh:=by
 intro pins s σ H x y v u Q I O N h;obtain⟨l,b,xs,zs,rfl,rfl,U,R,hz,q⟩:=h;cases O;cases N;obtain⟨z,its,n,r,Y,e⟩:=I.nK U;obtain⟨z2,G,n2,J,ab,L⟩:=I.nK R;refine PySem.P.add_list e L ?_ (by rw[qj,qj];omega);have S:its.toArray++G.toArray=(its++G).toArray:=(by simp);rw[S];exact⟨.ref _,_,I.Fz (t':=s.toks) (r.append J) (by rw[E2];omega),rfl,q _ I.fresh⟩
inductive FP (x:V) (y:V) (H:Hp) (Q:VK):Prop
 |mk (l:_) (k:_) (xs:_) (_:x=.ref l) (_:y=.int k) (_:H l=some (.lst xs)) (_ : -(2^63)<=k) (_:k<2^63) (_:xs.length*k.toNat<=sizeLine) (_:∀p,H p=none->Q (.ref p) (upd H p (.lst (replicate k.toNat xs).flatten))):FP x y H Q
theorem len_rep {α:Type}(xs:List α) (k:Nat):(replicate k xs).flatten.length=k*xs.length:=by
 induction k with
 |zero=>simp
 |succ k G=>rw[L6,Ml,E2,G,Nat.succ_mul,Nat.add_comm]
theorem ff:j4 X (N4 .Mult) FP:=by
 intro pins s σ H x y v u Q I O N h;obtain⟨l,k,xs,rfl,rfl,S,h1,h2,L,q⟩:=h;cases O;obtain⟨t,rfl⟩:=N;obtain⟨z,its,n,r,R,e⟩:=I.nK S;have am:its.toArray.size*k.toNat<=sizeLine:=(by rw[qj, <-R];exact L);have ab:¬ its.toArray.size*k.toNat>(2^63-1)/8:=by
  have:(sizeLine:Nat)<=(2^63-1)/8:=av;omega
 have ac:¬ (!Builtin.List.listFitsIndex k)=true:=by
  rw[fitsIndex_both h1 h2];exact DO
 have ap:¬ Builtin.List.listTooLong (its.toArray.size*k.toNat)=true:=by
  rw[rZ am];exact DO
 have ai:foldl (λJ G=>J++G) #[] (replicate (if its.toArray.isEmpty=true then 0 else k.toNat) its.toArray)=(replicate k.toNat its).flatten.toArray:=by
  have Y:∀m:Nat,foldl (λJ G=>J++G) #[] (replicate m its.toArray)=(replicate m its).flatten.toArray:=λm=>by
   have:=foldl_rep its m [];rw[Rq]at this;exact this
  rw[Y];cases its with
  |nil=>simp
  |cons a r'=>rw[Tg (by simp)]
 refine wpAny_binaryOp_repeat_ref (T := "list") (U := "int") av ⟨_,e,rfl⟩ (λs'=>RP s' k t) noFill_list_mul F.fills_int_mul F.slot_int_rmul repeat_list F.slot_int_index.lookup
  (Nx F.slot_int_rmul (RP s k t) F.entry_int_rmul (F.args_int_rmul_2 _ _) (int___rmul___int_list k t l its.toArray n)
   ⟨e,rfl,⟨_,e,rfl⟩,Nx F.slot_list_mul ⟨_,e,rfl⟩ F.entry_list_mul (F.args_list_mul_2 _ _) (AutoListH.list___mul___list_int_3 l its.toArray n k t ac ab ap) ⟨e,?_⟩⟩)
 rw[ai];exact⟨.ref _,_,I.Fz (t':=s.toks) (r.rep k.toNat) (by rw[len_rep,Nat.mul_comm];exact L),rfl,q _ I.fresh⟩
end
section
variable {prog:ti}{w:Kl}{A:KA}{E:Value->mu->Prop}{s:mu}
end
section
variable {X:Cx}
end
end L2
namespace Att
open PySem PySem.W PySem.Calls PyProof.Rows
theorem kY {P:Params}{h:Heap}:∀(ns:List Int) (vs:List Value),WellAll P h vs (ns.map WData.int)->LY vs ns:=by
 intro ns
 induction ns with
 |nil =>
  intro vs w;rw[Rx]at w;cases w;exact .nil
 |cons n ns G =>
  intro vs w;rw[LU]at w;cases w with
  |cons a b =>
   cases a;exact .cons _ _ (G _ b)
theorem xW {l:N6}{n:Nat}(Y:l.most=some n) {P:Params}{h:Heap}{args:List WData}{N:List Value}
  (J:l.row.toRowW.claim.pre args=true) (U:WellAll P h N args) :
  ∃a vs ns,N=[Value.ref a]/\args=[WData.list (ns.map WData.int)]/\h.get? a=some { cls:=.type "list",data:=.seq vs.toArray }/\LY vs ns/\ns.length<=n:=by
 have R:WShape.hasAll [] args [.list .int]=true:=(pre_splitW J).1;have L:l.pre.holds [] { args:=args }=true:=(pre_splitW J).2;obtain⟨d,r,rfl,h1,h2⟩:=hasAllW_cons R;obtain rfl:=hasAllW_nil h2;obtain⟨xs,rfl,h3⟩:=hasW_list h1;obtain⟨ns,rfl⟩:=items_int h3;have ac:ns.length<=n:=by
  unfold OpenLaw.pre at L;have G:(WTm.not (.lt (.lit (.int (n:Int))) (.len (.arg 0)))).holds [] { args:=[.list (ns.map .int)] }=true:=by
   have G:=(holds_andW L).1;rw[Y]at G;exact G
  have I:=condW_of G (w_not (w_lt w_lit (w_len_list (w_arg rfl))));rw[nq]at I;refine Lb λq=>?_;have q':(n:Int)<((ns.length:Nat):Int):=Mj SD q
  first
   |(rw[decide_eq_true q']at I;exact absurd I av)
   |(simp at I;omega)
 cases U with
 |cons S O =>
  cases O;cases S with
  |list ho ab=>exact⟨_,_,ns,rfl,rfl,ho,kY ns _ ab,ac⟩
theorem yK (l:N6) (args:List WData):l.row.toRowW.claim.post args (.bool true) args=true :=
 postW_of (r:=l.row.toRowW) (X:=(true==true))
  (show Ta [] (.bool true) .bool=true by first|rfl|decide|simp[Ta,WShape.arms,WShape.armsAll])
  (show(WTm.eq .res (.lit (.bool true))).value [] { args:=args,res:=some (.bool true),after:=args }=some (.bool (true==true))from w_eq_bool (w_res rfl) w_lit) rfl
theorem tK {l:N6}{n:Nat}{q:ti}{loose:List Str}{R:(Str->Option Value)->Heap->Prop}{O:Kl->Heap->Prop}{d:DefRec}
  (hn:l.most=some n) (ab:d.params.defaults=[])
  (call:∀(w:Kl) (s₀ I:mu) (mg N:Str->Option Value) (J:Addr) (o:Obj) (pm cd L:Value) (a:Addr) (vs:List Value) (ns:List Int),
   Ground q loose [] R w s₀ mg N I.heap->O w I.heap ->
   I.heap.get? J=some o->o.data=.func (docDef d.name d.params d.body d.scope pm cd L)->I.heap.CodeRec cd d.name->mg d.name=some (.ref J) ->
   I.heap.get? a=some { cls:=.type "list",data:=.seq vs.toArray }->LY vs ns->ns.length<=n->I.gens = #[] ->
   Oh (model l.prog w) Qq (.call (.ref J) ⟨[.ref a],[]⟩) (λr s'=>r=.ok (.ret (.bool true))/\OldK I.heap s'.heap/\s'.os=I.os/\OL s'.gens) I) :
  Ry q loose R O l.row.toRowW d [] (λf vs=>RQ f vs):=by
 intro w s₀ I mg N G Y J o pm cd L dV kV ho hd ap S U hg args a1 as aT a2 a3 am a0;obtain rfl:dV=.none:=Dflts.none S ab;obtain rfl:kV=.none:=Dflts.noKw S;obtain⟨a,vs,ns,rfl,rfl,ac,aB,ai⟩:=xW hn aT am;refine enter_call (PK (call w s₀ I mg N J o pm cd L a vs ns G Y ho (fd_plain hd) ap U ac aB ai hg) λr s' hq=>?_);obtain⟨rfl,h2,h3,h4⟩:=hq;exact⟨.inl ⟨.bool true,.bool true,[],rfl,λ_=>rfl,.bool true,yK l _,λ_=>⟨OS,λ_ hm=>(nomatch hm)⟩⟩,h2,h3,h4⟩
section
variable {prog:ti}{w:Kl}{A:KA}{E:Value->mu->Prop}{s:mu}{K:Kq}
def kM (h:Heap):Heap:={ h with objs := #[] }
theorem gq (h:Heap) (b:Addr):(kM h).get? b=none:=by
 cases e:(kM h).get? b with
 |none=>rfl
 |some o=>exact absurd (Heap.lt_size e) (Nat.not_lt_zero _)
def ledger (h:Heap) (L d:Addr):List (Addr×Obj):=(Kx h.objs.size).filterMap λa=>if a=L\/a=d then none else(h.get? a).map λo=>(a,o)
theorem gC {h:Heap}{L d a:Addr}{o:Obj}:(a,o)∈ledger h L d↔a≠L/\a≠d/\h.get? a=some o:=by
 unfold ledger;rw[Ou];constructor
 .rintro⟨b,_,e⟩;split at e
  .cases e
  .rename_i I;obtain⟨o',G,O⟩:=vr.mp e;cases O;exact⟨λq=>I (.inl q),λq=>I (.inr q),G⟩
 .rintro⟨N,J,G⟩;refine⟨a,KZ.mpr (Heap.lt_size G),?_⟩;rw[Tg (show ¬ (a=L\/a=d)from λq=>q.elim N J),G]<;>rfl
theorem tF {h:Heap}{L d:Addr}{od:Obj}(N:d≠L) (I:h.get? d=some od):News (kM h) L h ([]++(d,od)::ledger h L d):=by
 rintro⟨a,o⟩ G;rcases E3.mp G with e|G
 .cases e;exact⟨I,N,gq _ _⟩
 .obtain⟨J,O,e⟩:=gC.mp G;exact⟨e,J,gq _ _⟩
theorem Fj {h:Heap}{L:Addr}{m:Str->Option Value}(n:h.Ns L m):Fr (kM h) L h m :=
 ⟨n,λb o e=>(by rw[gq]at e;cases e),KI _⟩
end
end Att
namespace L2
open PySem PySem.Spec PyProof.Rows
theorem fZ:∀{vs:List Value}{ns:List Int},LY vs ns->Vals (ns.map V.int) vs
 |_,_,.nil=>.nil
 |_,_,.cons n t h=>.cons ⟨t,rfl⟩ (fZ h)
def inClass (s:KO) (j:Nat):KO:=match s with
 |.ClassDef _ _ _ body _ _ _ _ _ _ _=>body.getD j (.Pass ⟨0,0,0,0⟩)
 |_=>.Pass ⟨0,0,0,0⟩
def eg (s:KO):Qp:=match s with
 |.FunctionDef _ a _ _ _ _ _ _ _ _=>a
 |_=>{ posonlyargs:=[],args:=[],vararg:=none,kwonlyargs:=[],kw_defaults:=[],kwarg:=none,defaults:=[] }
def dh (s:KO):List KO:=match s with
 |.FunctionDef _ _ b _ _ _ _ _ _ _=>b
 |_=>[]
def aw (s:KO):N3:=match s with
 |.FunctionDef _ _ _ _ _ _ G _ _ _=>G
 |_=>{ kind:=.function,names:=[],isGenerator:=false,isCoroutine:=false }
abbrev aS:uO:=λ_ _ _ _ _ _=>False
abbrev E0:XK:=λ_ _ _=>False
theorem az {X:Cx}:Passes aS X E0:=λ_ _ _ _ _ _ _ h=>h.elim
structure cD (K:Kq) (x qual:Str) (st:KO) (f:Addr) (fd:rn):Prop where
 ex:∃(oc:Value) (od:Option Addr) (kV doc pm:Value) (an:Option Addr) (cdv ct:Value) (osl:Array (Option Value)),
  fd=RM x qual (eg st) (dh st) (aw st) .none kV doc pm an cdv ct/\K.lookup f=some ⟨oc,od,.func fd,osl⟩/\RN K cdv qual=true
 kp:PH K (.ref f)=true
section
variable {P:ti}{w:Kl}{K:Kq}{mg:Str->Option Value}{base:Heap}
theorem cD.ok {x I:Str}{st:KO}{f:Addr}{fd:rn}{N ps:List Str}{k:Nat}{sp:Sp}(F:cD K x I st f fd) (S:aD N ps (aw st)) (len:∀vs H Q E,sp vs H Q E->vs.length=ps.length)
  (U:∀(G:Value) (A:KA) (outer:List Ss) (s:mu) (H:Hp) (vs:List V) (Q:VK) (E:XK),dn k (A.deeper (OY I (aw st) s.heap.objs.size f G))->sp vs H Q E ->
   ∃t,uc (rW aS P w K mg base N I (aw st) f G A outer s H E).Bz (dh st) t/\t { nx:=λ_ H'=>Q .non H',rt:=Q } (start N vs) H):aZ P w K mg base aS (k+1) f fd ps sp:=by
 obtain⟨oc,od,kV,Y,pm,an,G,ct,ab,rfl,L,R⟩:=F.ex;refine Dt L R S len λA outer s H vs Q E O J=>?_;obtain⟨t,h,q⟩:=U G A outer s H vs Q E O J;exact⟨t,h.Bz,q⟩
theorem cD.dg {x G:Str}{st:KO}{f:Addr}{fd:rn}{N ps:List Str}{k:Nat}{sp:Sp}(F:cD K x G st f fd) (S:aD N ps (aw st))
  (J:∀(I:Value) (A:KA) (outer:List Ss) (s:mu) (H:Hp) (vs:List V) (Q:VK) (E:XK),dn k (A.deeper (OY G (aw st) s.heap.objs.size f I))->sp vs H Q E ->
   ∃t,uc (rW aS P w K mg base N G (aw st) f I A outer s H E).Bz (dh st) t/\t { nx:=λ_ H'=>Q .non H',rt:=Q } (start N vs) H) (len:∀vs H Q E,sp vs H Q E->vs.length=ps.length:=by intro vs H Q E h;cases h<;>subst_vars<;>rfl):aZ P w K mg base aS (k+1) f fd ps sp:=F.ok S len J
theorem cD.binds {x J:Str}{st:KO}{f:Addr}{fd:rn}{ps:List Str}(F:cD K x J st f fd)
  (h:∀(kV G pm:Value) (an:Option Addr) (I ct:Value) (us:List Value),us.length=ps.length->Pj (RM x J (eg st) (dh st) (aw st) .none kV G pm an I ct) ⟨us,[]⟩=pure (ps.zip us)):Binds K fd ps []:=by
 obtain⟨oc,od,kV,G,pm,an,I,ct,N,rfl,L,O⟩:=F.ex;exact .all (h kV G pm an I ct)
theorem kC {x I:Str}{st:KO}{f:Addr}{oc:Value}{od an:Option Addr}{L:Array (Option Value)}{kV J pm G ct:Value}(l:K.lookup f=some ⟨oc,od,.func (RM x I (eg st) (dh st) (aw st) .none kV J pm an G ct),L⟩)
  (c:RN K G I=true) (k:PH K (.ref f)=true):cD K x I st f (RM x I (eg st) (dh st) (aw st) .none kV J pm an G ct):=⟨⟨oc,od,kV,J,pm,an,G,ct,L,rfl,l,c⟩,k⟩
end
theorem bf {A:KA}{k:Nat}(G:dn k A):A.units+1<Mt:=MY (Qu (by decide:1<=64) _) G.units
section
variable {X:Cx}
theorem pv (i:Nat) {x:Str}{pos:Nj}(G:X.N[i]?=some x:=by rfl) (I:HW X.env.scope x:=by first|exact Tc rfl|exact Td (Tc rfl)|exact Td (Td rfl)) (hd:(x==("__debug__" : Str))=false:=by decide)
  (J:(x==("__classdict__" : Str))=false:=by decide):PE X (.Name x pos) (sJ i):=EW G I hd J
end
theorem bU {A B:Prop}(h:B):if false=true then A else B:=by
 rw[Tg DO];exact h
theorem eI {A B:Prop}(h:A):if true=true then A else B:=by
 rw[Th rfl];exact h
theorem iV {c A B:Prop} [Decidable c] (h1:c->A) (h2:¬ c->B):if c then A else B:=by
 by_cases h:c
 .rw[Th h];exact h1 h
 .rw[Tg h];exact h2 h
def bg (H H':Hp):Prop:=∀b o,H b=some o->H' b=some o
theorem bg.refl (H:Hp):bg H H:=λ_ _ h=>h
theorem bg.trans {H H1 H2:Hp}(a:bg H H1) (b:bg H1 H2):bg H H2:=λc o h=>b c o (a c o h)
theorem bg.free {H H':Hp}(e:bg H H') {l:Addr}(h:H' l=SR):H l=SR:=by
 cases q:H l with
 |none=>rfl
 |some o =>
  rw[e l o q]at h;cases h
end L2
namespace PySem
open PySem.Sem (wp)
section
variable {prog:ti}{w:Kl}{A:KA}{E:Value->mu->Prop}{h:Heap}{g:Array QO}{d:Drawn}{t:Nat}{os:OsState}{a:Addr}{its:Array Value}{n:Nat}
end
end PySem
namespace Srt
open PySem PyProof.Rows
structure SI (a₀:Array HC) (st:K5):Prop where
 perm:(E5 st).Perm a₀
 kind:kindOf st=Nm
 failed:Nn st=none
structure Ks (a₀:Array HC):Prop where
 ik:IntKeys a₀
 nd:(a₀.toList.map λp=>Mu p.1).Nodup
def j8 (xs:Array HC) (lo hi:Nat):Prop:=∀i j,lo<=i->i<=j->j<hi->K xs i<=K xs j
theorem SI.size {a₀:Array HC}{st:K5}(h:SI a₀ st):(E5 st).size=a₀.size:=h.perm.size_eq
theorem uC {a₀ xs:Array HC}(J:xs.Perm a₀) (k:Ks a₀) {i:Nat}(hi:i<xs.size):∃t q,xs[i]?=some (.int (K xs i) t,q):=by
 have G:xs[i]∈a₀.toList:=(Ma.mp J).mem_iff.mp (by simp);obtain⟨n,t,L⟩:=k.ik _ G;have e:xs[i]?=some xs[i]:=getElem?_pos _ i hi;have I:xs[i]=(.int n t,xs[i].2):=QZ L rfl;refine⟨t,xs[i].2,?_⟩;unfold K;rw[e,I];rfl
theorem key_ne {a₀ xs:Array HC}(J:xs.Perm a₀) (k:Ks a₀) {i j:Nat}(hi:i<j) (G:j<xs.size):K xs i≠K xs j:=by
 have I:=(Ma.mp J).map λp:HC=>Mu p.1;have L:(xs.toList.map λp=>Mu p.1).Nodup:=I.nodup_iff.mpr k.nd;have h1:i<xs.size:=Q2 hi G;have a:=LL.mp L i j (by simpa using h1) (by simpa using G) hi;unfold K;rw[getElem?_pos xs i h1,getElem?_pos xs j G];simpa using a
theorem SI.setArr {a₀:Array HC}{st:K5}(h:SI a₀ st) {xs:Array HC}(G:xs.Perm (E5 st)):SI a₀ (setArr st xs):=⟨G.trans h.perm,h.kind,h.failed⟩
section
variable {prog:ti}{w:Kl}{A:KA}{E:Value->mu->Prop}{s:mu}{a₀:Array HC}
theorem pN {st:K5}{x y:HC}{a b:Int}{t u:SK}{Q:Option Bool->K5->Prop}(G:kindOf st=Nm) (J:x.1=.int a t) (I:y.1=.int b u) (h:Q (some (decide (a<b))) st) :
  SJ (model prog w) A E s (lt' x y) Q st:=by
 rw[lt'_eq];refine qi (NF ?_);rw[G,keyLt'_oneType,J,I];exact qi (Pm (wpAny_attempt (oneLt_int ⟨rfl,ql h⟩)))
theorem bw {st:K5}{xs:Array HC}{i:Nat}{p:HC}{Q:HC->K5->Prop}(hi:xs[i]?=some p) (h:Q p st):SJ (model prog w) A E s (elem' xs i) Q st:=by
 rw[elem'_eq,hi];exact ql h
theorem oZ {st:K5}{i j:Nat}{Q:Option Bool->K5->Prop}(S:SI a₀ st) (k:Ks a₀) (hi:i<a₀.size) (J:j<a₀.size) (h:Q (some (decide (K (E5 st) i<K (E5 st) j))) st) :
  SJ (model prog w) A E s (ltAt' i j) Q st:=by
 obtain⟨t,p,I⟩:=uC S.perm k (by rw[S.size];exact hi);obtain⟨u,q,G⟩:=uC S.perm k (by rw[S.size];exact J);exact wpS_ltAt S.kind I G h
structure Cut (a₀:Array HC) (st st':K5) (lo:Nat):Prop where
 S:SI a₀ st'
 pre:∀i,i<lo->(E5 st')[i]?=(E5 st)[i]?
 pend:Kz st'=Kz st
theorem zO {st:K5}{lo nrem:Nat}{Q:Option Nat->K5->Prop}(S:SI a₀ st) (k:Ks a₀) (hn:lo+nrem<=a₀.size) (h1:1<=nrem)
  (h:∀m G,Cut a₀ st G lo->1<=m->m<=nrem->j8 (E5 G) lo (lo+m)->Q (some m) G):SJ (model prog w) A E s (countRun' lo nrem) Q st:=by
 rw[countRun'_eq];refine qi (LM (K7 (I:=λx c G=>rF (G=st) (c=(none,x)) (j8 (E5 st) lo (lo+x))) (Q:=λc G=>G=st/\∃n,c=(none,n)/\1<=n/\n<=nrem/\j8 (E5 st) lo (lo+n)/\(n=nrem\/K (E5 st) (lo+n)<K (E5 st) (lo+n-1))) ?_ ?_ ?_) ?_)
 .rintro x c G Y ac ⟨rfl,rfl,hs⟩;dsimp only;refine qi (oZ S k af af ?_);by_cases c:K (E5 G) (lo+x)<K (E5 G) (lo+x-1)
  .simp only[c,decide_true,if_true];exact ql ⟨rfl,x,rfl,Y,af,hs,.inr c⟩
  .simp only[c,decide_false,LP,if_false];refine ql ⟨rfl,rfl,λi j hi L O=>?_⟩;by_cases z:j<lo+x
   .exact hs i j hi L z
   .by_cases U:i=j
    .rw[U];exact Lo _
    .have:=hs i (lo+x-1) hi af af;have R:j=lo+x:=MV O z;rw[R];omega
 .rintro c G ⟨rfl,rfl,hs⟩;rw[show max 1 nrem=nrem by omega]at hs ⊢;exact⟨rfl,nrem,rfl,h1,sS _,hs,.inl rfl⟩
 .exact⟨rfl,rfl,λi j hi L O=>by rw[show i=j by omega];exact Lo _⟩
 .rintro c G ⟨rfl,n,rfl,n1,n2,hs,am⟩;dsimp only;by_cases e:n=nrem
  .rw[Th (by simpa using e)];exact ql (h n G ⟨S,λ_ _=>rfl,rfl⟩ n1 n2 hs)
  .rw[Tg (by simpa using e)];have ap:=am.resolve_left e;by_cases g:n>1
   .rw[Th g];refine qi (oZ S k af af ?_);have r:K (E5 G) lo<K (E5 G) (lo+n-1):=by
     have a:=hs lo (lo+n-1) (sS _) af af;have b:=key_ne S.perm k (i:=lo) (j:=lo+n-1) af (by rw[S.size];omega);omega
    simp only[r,decide_true,if_true];exact ql (h n G ⟨S,λ_ _=>rfl,rfl⟩ n1 n2 hs)
   .rw[Tg g];have e1:n=1:=af;subst e1;refine qi (Pm (MX ⟨rfl,?_⟩));have as:∀i j,lo<=i->i<=j->j<lo+2->K (E5 G) j<=K (E5 G) i:=λi j hi L O=>by
     by_cases z:i=j
     .rw[z];exact Lo _
     .have ei:i=lo:=af;have R:j=lo+1:=af;rw[ei,R];exact K0 ap
    refine qi (LM (K7 (I:=λx c J=>rF (J=G) (c=(none,x,0)) (∀i j,lo<=i->i<=j->j<lo+x->K (E5 G) j<=K (E5 G) i)) (Q:=λc J=>J=G/\∃n,c=(none,n,0)/\2<=n/\n<=nrem/\∀i j,lo<=i->i<=j->j<lo+n->K (E5 G) j<=K (E5 G) i) ?_ ?_ ?_) ?_)
    .rintro x c J Y ac ⟨rfl,rfl,hd⟩;dsimp only;refine qi (oZ S k af af ?_);by_cases c:K (E5 J) (lo+x)<K (E5 J) (lo+x-1)
     .simp only[c,decide_true,if_true];rw[Tg af];refine ql ⟨rfl,rfl,λi j hi L O=>?_⟩;by_cases z:j<lo+x
      .exact hd i j hi L z
      .by_cases U:i=j
       .rw[U];exact Lo _
       .have:=hd i (lo+x-1) hi af af;have R:j=lo+x:=MV O z;rw[R];omega
     .simp only[c,decide_false,LP,if_false];refine qi (oZ S k af af ?_);have r:K (E5 J) (lo+x-1)<K (E5 J) (lo+x):=by
       have b:=key_ne S.perm k (i:=lo+x-1) (j:=lo+x) af (by rw[S.size];omega);omega
      simp only[r,decide_true,if_true];exact ql ⟨rfl,x,rfl,Y,af,hd⟩
    .rintro c J ⟨rfl,rfl,hd⟩;rw[show max (1+1) nrem=nrem by omega]at hd ⊢;exact⟨rfl,nrem,rfl,af,sS _,hd⟩
    .exact⟨rfl,rfl,as⟩
    .rintro c J ⟨rfl,n,rfl,m1,m2,hd⟩;dsimp only;rw[Tg af];refine qi (wpS_reverse ?_);have hsz:lo+n<=(E5 J).size:=(by rw[S.size];omega);have S3:=S.setArr (mirror_perm (E5 J) lo (lo+n) ((lo+n-lo)/2));have C3:Cut a₀ J (setArr J (RS (E5 J) lo (lo+n) ((lo+n-lo)/2))) lo:=by
      refine⟨S3,λi hi=>?_,rfl⟩;show(RS (E5 J) lo (lo+n) ((lo+n-lo)/2))[i]?=_;rw[getElem?_mirror_all hsz,Tg af]
     have ai:j8 (E5 (setArr J (RS (E5 J) lo (lo+n) ((lo+n-lo)/2)))) lo (lo+n):=λi j hi L O=>by
      show K (RS (E5 J) lo (lo+n) ((lo+n-lo)/2)) i<=K (RS (E5 J) lo (lo+n) ((lo+n-lo)/2)) j;rw[K_mirror hsz,K_mirror hsz,Th af,Th af];exact hd _ _ af (Nat.sub_le_sub_left L (lo+(lo+n)-1)) af
     generalize setArr J (RS (E5 J) lo (lo+n) ((lo+n-lo)/2))=ab at S3 C3 ai ⊢;refine qi (LM (K7 (I:=λx c N=>rF (N=ab) (c=(none,x)) (j8 (E5 ab) lo (lo+x))) (Q:=λc N=>N=ab/\∃m,c=(none,m)/\1<=m/\m<=nrem/\j8 (E5 ab) lo (lo+m)) ?_ ?_ ?_) ?_)
     .rintro x c N Y ac ⟨rfl,rfl,hs⟩;dsimp only;refine qi (oZ S3 k af af ?_);by_cases c:K (E5 N) (lo+x)<K (E5 N) (lo+x-1)
      .simp only[c,decide_true,if_true];exact ql ⟨rfl,x,rfl,af,af,hs⟩
      .simp only[c,decide_false,LP,if_false];refine ql ⟨rfl,rfl,λi j hi L O=>?_⟩;by_cases z:j<lo+x
       .exact hs i j hi L z
       .by_cases U:i=j
        .rw[U];exact Lo _
        .have:=hs i (lo+x-1) hi af af;have R:j=lo+x:=MV O z;rw[R];omega
     .rintro c N ⟨rfl,rfl,hs⟩;rw[show max n nrem=nrem by omega]at hs ⊢;exact⟨rfl,nrem,rfl,h1,sS _,hs⟩
     .exact⟨rfl,rfl,ai⟩
     .rintro c N ⟨rfl,m,rfl,q1,q2,hs⟩;exact ql (h m N C3 q1 q2 hs)
theorem zg {st:K5}{lo n ok:Nat}{Q:Bool->K5->Prop}(S:SI a₀ st) (k:Ks a₀) (hn:lo+n<=a₀.size) (h1:1<=ok) (bE:ok<=n) (hs:j8 (E5 st) lo (lo+ok))
  (h:∀G,Cut a₀ st G lo->j8 (E5 G) lo (lo+n)->Q true G):SJ (model prog w) A E s (binarySort' lo n ok) Q st:=by
 rw[binarySort'_eq];refine qi (LM (K7 (I:=λx c G=>rF (c=(none,())) (Cut a₀ st G lo) (j8 (E5 G) lo (lo+x))) (Q:=λc G=>rF (c=(none,())) (Cut a₀ st G lo) (j8 (E5 G) lo (lo+n))) ?_ ?_ ?_) ?_)
 .rintro x c G ap as ⟨rfl,C,L⟩;have U:lo+x<(E5 G).size:=(by rw[C.S.size];omega);refine qi (LM (K7 (I:=λy c J=>J=G/\∃l r,c=(none,l,r)/\l<=r/\r<=x/\r-l<=x-y/\(∀i,lo<=i->i<lo+l->K (E5 G) i<=K (E5 G) (lo+x))/\∀i,lo+r<=i->i<lo+x->K (E5 G) (lo+x)<K (E5 G) i)
   (Q:=λc J=>J=G/\∃l,c=(none,l,l)/\l<=x/\(∀i,lo<=i->i<lo+l->K (E5 G) i<=K (E5 G) (lo+x))/\∀i,lo+l<=i->i<lo+x->K (E5 G) (lo+x)<K (E5 G) i) ?_ ?_ ?_) ?_)
  .rintro y c J aB am ⟨rfl,l,r,rfl,lr,Y,hm,O,N⟩;dsimp only;by_cases g:l>=r
   .rw[Th g];obtain rfl:l=r:=af;exact ql ⟨rfl,l,rfl,Y,O,N⟩
   .rw[Tg g];refine qi (oZ C.S k af af ?_);by_cases c:K (E5 J) (lo+x)<K (E5 J) (lo+(l+r)/2)
    .simp only[c,decide_true,if_true];refine ql ⟨rfl,l,(l+r)/2,rfl,af,af,af,O,λi hi ab=>?_⟩;have:=L (lo+(l+r)/2) i af hi af;exact Oy c this
    .simp only[c,decide_false,LP,if_false];refine ql ⟨rfl,(l+r)/2+1,r,rfl,af,af,af,λi hi ab=>?_,N⟩;have:=L i (lo+(l+r)/2) hi (NG ab) af;omega
  .rintro c J ⟨rfl,l,r,rfl,lr,Y,hm,O,N⟩;obtain rfl:l=r:=af;exact⟨rfl,l,rfl,Y,O,N⟩
  .exact⟨rfl,0,x,rfl,af,af,af,λi hi ai=>by omega,λi hi ai=>by omega⟩
  .rintro c J ⟨rfl,l,rfl,lx,O,N⟩;dsimp only;rw[moveDown'_eq];refine qi (Mw (ql ⟨rfl,⟨C.S.setArr (bubble_perm _ _ _),λi hi=>?_,C.pend⟩,λi j hi ac hj=>?_⟩))
   .show(bubble (E5 J) (lo+x) (lo+x-(lo+l)))[i]?=_;rw[getElem?_bubble U _ (SE (lo+x) (lo+l)),Tg af,Tg af];exact C.pre i hi
   .show K (bubble (E5 J) (lo+x) (lo+x-(lo+l))) i<=K (bubble (E5 J) (lo+x) (lo+x-(lo+l))) j;rw[K_bubble U (SE (lo+x) (lo+l)),K_bubble U (SE (lo+x) (lo+l)),show lo+x-(lo+x-(lo+l))=lo+l by omega];by_cases c1:i=lo+l
    .rw[Th c1];by_cases R:j=lo+l
     .rw[Th R];exact Lo _
     .rw[Tg R,Th af];have:=N (j-1) af af;exact K0 this
    .rw[Tg c1];by_cases R:j=lo+l
     .rw[Th R,Tg af];exact O i hi af
     .rw[Tg R];by_cases c3:lo+l<i/\i<=lo+x
      .rw[Th c3,Th af];exact L _ _ af (Nat.sub_le_sub_right ac 1) af
      .rw[Tg c3];by_cases c4:lo+l<j/\j<=lo+x
       .rw[Th c4];exact L _ _ af af af
       .rw[Tg c4];exact L _ _ af af af
 .rintro c G ⟨rfl,C,L⟩;rw[show max (max ok 1) n=n by omega]at L;exact⟨rfl,C,L⟩
 .rw[show max ok 1=ok by exact Nat.max_eq_left h1];exact⟨rfl,⟨S,λ_ _=>rfl,rfl⟩,hs⟩
 .rintro c G ⟨rfl,C,L⟩;exact ql (h G C L)
end
def CD:Bool->HC->Array HC->Nat->Nat->Nat->StateT K5 QP (Option Nat):=sortPriv% PySem.Builtin.gallop
def fQ (left:Bool) (a:Int) (xs:Array HC) (base i:Nat):Bool:=if left then decide (K xs (base+i)<a)else !decide (a<K xs (base+i))
section
variable {prog:ti}{w:Kl}{A:KA}{E:Value->mu->Prop}{s:mu}{a₀:Array HC}
def rf (left:Bool) (G:HC) (xs:Array HC) (base i:Nat):StateT K5 QP (Option Bool):=
 bind (elem' xs (base+i)) λx=>ite (left=true) (lt' x G) (bind (lt' G x) λr=>pure (Option.map (λb => !b) r))
theorem DV {st:K5}{left:Bool}{I:HC}{a:Int}{t u:SK}{q:Value}{xs:Array HC}{base i:Nat}{Q:Option Bool->K5->Prop}(G:kindOf st=Nm) (J:I.1=.int a t) (L:xs[base+i]?=some (.int (K xs (base+i)) u,q))
  (h:Q (some (fQ left a xs base i)) st):SJ (model prog w) A E s (rf left I xs base i) Q st:=by
 unfold rf;refine qi (bw L ?_);unfold fQ at h;cases left with
 |true=>exact pN G rfl J h
 |false=>exact qi (pN G J rfl (ql h))
theorem ip {left:Bool}{a:Int}{xs:Array HC}{base n i j:Nat}(hs:j8 xs base (base+n)) (G:i<=j) (I:j<n) (h:fQ left a xs base j=true):fQ left a xs base i=true:=by
 have:=hs (base+i) (base+j) af (Mj NB G) (Nat.add_lt_add_left I base);unfold fQ at h ⊢;cases left with
 |true =>
  have z:K xs (base+j)<a:=of_decide_eq_true h;exact decide_eq_true (Ny this z)
 |false =>
  have z:¬ a<K xs (base+j):=of_decide_eq_false (by simpa using h);show(!decide (a<K xs (base+i)))=true;rw[decide_eq_false af];rfl
theorem iI {left:Bool}{a:Int}{xs:Array HC}{base n i j:Nat}(hs:j8 xs base (base+n)) (G:i<=j) (I:j<n) (h:fQ left a xs base i=false):fQ left a xs base j=false:=by
 cases e:fQ left a xs base j with
 |false=>rfl
 |true=>rw[ip hs G I e]at h;cases h
theorem dD {st:K5}{left:Bool}{ac:HC}{a:Int}{t:SK}{xs:Array HC}{base n hint:Nat}{Q:Option Nat->K5->Prop}(hk:kindOf st=Nm) (aT:ac.1=.int a t) (hx:∀i,i<n->∃t q,xs[base+i]?=some (.int (K xs (base+i)) t,q))
  (hs:j8 xs base (base+n)) (hh:hint<n) (h:∀r,r<=n->(∀i,i<r->fQ left a xs base i=true)->(∀i,r<=i->i<n->fQ left a xs base i=false)->Q (some r) st) :
  SJ (model prog w) A E s (CD left ac xs base n hint) Q st:=by
 have B:∀{i:Nat}{Q:Option Bool->K5->Prop},i<n->Q (some (fQ left a xs base i)) st->SJ (model prog w) A E s (rf left ac xs base i) Q st:=λhi q=>by
  obtain⟨u,v,e⟩:=hx _ hi;exact DV hk aT e q
 refine qi (B hh ?_);cases c:fQ left a xs base hint with
 |true =>
  dsimp only;rw[Th rfl];refine qi (LM (K7 (I:=λx c G=>G=st/\∃l o,c=(none,l,o)/\l<o/\x+1<=o/\hint+l<n/\fQ left a xs base (hint+l)=true) (Q:=λc G=>G=st/\∃l o,c=(none,l,o)/\l<o/\hint+l<n/\fQ left a xs base (hint+l)=true/\(n-hint<=o\/(hint+o<n/\fQ left a xs base (hint+o)=false))) ?_ ?_ ?_) ?_)
  .rintro x c G am ap ⟨rfl,l,o,rfl,lo,xo,S,L⟩;dsimp only;by_cases g:o>=n-hint
   .rw[Th g];exact ql ⟨rfl,l,o,rfl,lo,S,L,.inl g⟩
   .rw[Tg g];refine qi (B (i:=hint+o) af ?_);cases U:fQ left a xs base (hint+o)with
    |true=>exact ql ⟨rfl,o,2*o+1,rfl,af,af,af,U⟩
    |false=>exact ql ⟨rfl,l,o,rfl,lo,S,L,.inr ⟨af,U⟩⟩
  .rintro c G ⟨rfl,l,o,rfl,lo,xo,S,L⟩;exact⟨rfl,l,o,rfl,lo,S,L,.inl af⟩
  .exact⟨rfl,0,1,rfl,af,af,hh,c⟩
  .rintro c G ⟨rfl,l,o,rfl,lo,S,L,ai⟩;dsimp only;have f1:∀i,i<hint+l+1->fQ left a xs base i=true:=λi hi=>ip hs (j:=hint+l) (NG hi) S L;have f2:∀i,hint+min o (n-hint)<=i->i<n->fQ left a xs base i=false:=λi hi ab=>by
    rcases ai with g|⟨g1,g2⟩
    .omega
    .exact iI hs (i:=hint+o) af ab g2
   have Y:hint+l+1<=hint+min o (n-hint):=af;have f4:hint+min o (n-hint)<=n:=af;generalize hint+l+1=as at f1 Y ⊢;generalize hint+min o (n-hint)=aB at f2 Y f4 ⊢;refine qi (LM (K7 (I:=λx c O=>O=G/\∃l r,c=(none,l,r)/\l<=r/\r<=n/\r-l<=n-x/\(∀i,i<l->fQ left a xs base i=true)/\∀i,r<=i->i<n->fQ left a xs base i=false) (Q:=λc O=>O=G/\∃r,c=(none,r,r)/\r<=n/\(∀i,i<r->fQ left a xs base i=true)/\∀i,r<=i->i<n->fQ left a xs base i=false) ?_ ?_ ?_) ?_)
   .rintro x c O am ap ⟨rfl,l,r,rfl,lr,J,hm,R,N⟩;dsimp only;by_cases g:l>=r
    .rw[Th g];obtain rfl:l=r:=af;exact ql ⟨rfl,l,rfl,J,R,N⟩
    .rw[Tg g];refine qi (B (i:=l+(r-l)/2) af ?_);cases U:fQ left a xs base (l+(r-l)/2)with
     |true=>exact ql ⟨rfl,l+(r-l)/2+1,r,rfl,af,J,af,λi hi=>ip hs (j:=l+(r-l)/2) (NG hi) af U,N⟩
     |false=>exact ql ⟨rfl,l,l+(r-l)/2,rfl,af,af,af,R,λi hi ab=>iI hs hi ab U⟩
   .rintro c O ⟨rfl,l,r,rfl,lr,J,hm,R,N⟩;obtain rfl:l=r:=af;exact⟨rfl,l,rfl,J,R,N⟩
   .exact⟨rfl,as,aB,rfl,Y,f4,af,f1,f2⟩
   .rintro c O ⟨rfl,r,rfl,J,R,N⟩;exact ql (h r J R N)
 |false =>
  dsimp only;rw[Tg av];refine qi (LM (K7 (I:=λx c G=>G=st/\∃l o,c=(none,l,o)/\l<o/\x+1<=o/\l<=hint/\fQ left a xs base (hint-l)=false) (Q:=λc G=>G=st/\∃l o,c=(none,l,o)/\l<o/\l<=hint/\fQ left a xs base (hint-l)=false/\(hint+1<=o\/(o<=hint/\fQ left a xs base (hint-o)=true))) ?_ ?_ ?_) ?_)
  .rintro x c G am ap ⟨rfl,l,o,rfl,lo,xo,S,L⟩;dsimp only;by_cases g:o>=hint+1
   .rw[Th g];exact ql ⟨rfl,l,o,rfl,lo,S,L,.inl g⟩
   .rw[Tg g];refine qi (B (i:=hint-o) (Rc hh) ?_);cases U:fQ left a xs base (hint-o)with
    |true=>exact ql ⟨rfl,l,o,rfl,lo,S,L,.inr ⟨Lb g,U⟩⟩
    |false=>exact ql ⟨rfl,o,2*o+1,rfl,af,af,Lb g,U⟩
  .rintro c G ⟨rfl,l,o,rfl,lo,xo,S,L⟩;exact⟨rfl,l,o,rfl,lo,S,L,.inl af⟩
  .exact⟨rfl,0,1,rfl,af,af,KI _,c⟩
  .rintro c G ⟨rfl,l,o,rfl,lo,S,L,ai⟩;dsimp only;have f1:∀i,i<hint+1-min o (hint+1)->fQ left a xs base i=true:=λi hi=>by
    rcases ai with g|⟨g1,g2⟩
    .omega
    .exact ip hs (j:=hint-o) af (Rc hh) g2
   have f2:∀i,hint-l<=i->i<n->fQ left a xs base i=false:=λi hi ab=>iI hs hi ab L;have Y:hint+1-min o (hint+1)<=hint-l:=af;have f4:hint-l<=n:=af;generalize hint+1-min o (hint+1)=as at f1 Y ⊢;generalize hint-l=aB at f2 Y f4 ⊢;refine qi (LM (K7 (I:=λx c O=>O=G/\∃l r,c=(none,l,r)/\l<=r/\r<=n/\r-l<=n-x/\(∀i,i<l->fQ left a xs base i=true)/\∀i,r<=i->i<n->fQ left a xs base i=false) (Q:=λc O=>O=G/\∃r,c=(none,r,r)/\r<=n/\(∀i,i<r->fQ left a xs base i=true)/\∀i,r<=i->i<n->fQ left a xs base i=false) ?_ ?_ ?_) ?_)
   .rintro x c O am ap ⟨rfl,l,r,rfl,lr,J,hm,R,N⟩;dsimp only;by_cases g:l>=r
    .rw[Th g];obtain rfl:l=r:=af;exact ql ⟨rfl,l,rfl,J,R,N⟩
    .rw[Tg g];refine qi (B (i:=l+(r-l)/2) af ?_);cases U:fQ left a xs base (l+(r-l)/2)with
     |true=>exact ql ⟨rfl,l+(r-l)/2+1,r,rfl,af,J,af,λi hi=>ip hs (j:=l+(r-l)/2) (NG hi) af U,N⟩
     |false=>exact ql ⟨rfl,l,l+(r-l)/2,rfl,af,af,af,R,λi hi ab=>iI hs hi ab U⟩
   .rintro c O ⟨rfl,l,r,rfl,lr,J,hm,R,N⟩;obtain rfl:l=r:=af;exact⟨rfl,l,rfl,J,R,N⟩
   .exact⟨rfl,as,aB,rfl,Y,f4,af,f1,f2⟩
   .rintro c O ⟨rfl,r,rfl,J,R,N⟩;exact ql (h r J R N)
end
def le (p q:HC):Prop:=Mu p.1<=Mu q.1
structure Up (a:Array HC):Prop where
 ik:IntKeys a
 up:a.toList.Pairwise le
theorem Up.at {a:Array HC}(u:Up a) {i:Nat}(hi:i<a.size):∃t q,a[i]?=some (.int (K a i) t,q):=by
 obtain⟨n,t,I⟩:=u.ik a[i] (by simp);have e:a[i]?=some a[i]:=getElem?_pos _ i hi;have G:a[i]=(.int n t,a[i].2):=QZ I rfl;refine⟨t,a[i].2,?_⟩;unfold K;rw[e,G];rfl
theorem Up.HR {a:Array HC}(u:Up a):j8 a 0 a.size:=λi j _ I G=>by
 by_cases e:i=j
 .rw[e];exact Lo _
 .have hi:i<a.size:=MY I G;have z:=LL.mp u.up i j (by simpa using hi) (by simpa using G) (Lh I e);rw[K_eq hi,K_eq G];simpa[le]using z
theorem j8.sub {a:Array HC}{lo hi G I:Nat}(h:j8 a lo hi) (h1:lo<=G) (h2:I<=hi):j8 a G I:=λi j hi L J=>h i j (Ko h1 hi) L (Kw J h2)
structure MI (a b out:Array HC) (ia ib:Nat):Prop where
 la:ia<=a.size
 lb:ib<=b.size
 pm:(out.toList++a.toList.drop ia++b.toList.drop ib).Perm (a.toList++b.toList)
 up:out.toList.Pairwise le
 ba:∀p∈out.toList,∀q∈a.toList.drop ia,le p q
 bb:∀p∈out.toList,∀q∈b.toList.drop ib,le p q
theorem MI.sz {a b out:Array HC}{I G:Nat}(m:MI a b out I G):out.size+(a.size-I)+(b.size-G)=a.size+b.size:=by
 have:=m.pm.length_eq;simp at this;omega
theorem MI.rL {a b out R:Array HC}{G O:Nat}(m:MI a b out G O) (Y:Up a) {k:Nat}(U:G+k<=a.size) (L:R.toList=out.toList++(a.toList.drop G).take k) (h:∀p∈(a.toList.drop G).take k,∀q∈b.toList.drop O,le p q):MI a b R (G+k) O:=by
 have hd:a.toList.drop (G+k)=(a.toList.drop G).drop k:=(by rw[RT]);have N:(a.toList.drop G).Pairwise le:=Y.up.sublist (Oj _ _);have S:=N;rw[<-LQ k (a.toList.drop G)]at S;obtain⟨p1,p2,p3⟩:=KR.mp S;refine⟨U,m.lb,?_,?_,λp J q I=>?_,λp J q I=>?_⟩
 .rw[L,hd,KU out.toList,LQ];exact m.pm
 .rw[L,KR];exact⟨m.up,p1,λp N q I=>m.ba p N q (N7 I)⟩
 .rw[hd]at I;rw[L]at J;rcases pa.mp J with z|z
  .exact m.ba p z q (N8 I)
  .exact p3 p z q I
 .rw[L]at J;rcases pa.mp J with z|z
  .exact m.bb p z q I
  .exact h p z q I
theorem MI.rT {a b out R:Array HC}{N G:Nat}(m:MI a b out N G) (ub:Up b) {k:Nat}(U:G+k<=b.size) (L:R.toList=out.toList++(b.toList.drop G).take k) (h:∀p∈(b.toList.drop G).take k,∀q∈a.toList.drop N,le p q):MI a b R N (G+k):=by
 have hd:b.toList.drop (G+k)=(b.toList.drop G).drop k:=(by rw[RT]);have O:(b.toList.drop G).Pairwise le:=ub.up.sublist (Oj _ _);have S:=O;rw[<-LQ k (b.toList.drop G)]at S;obtain⟨p1,p2,Y⟩:=KR.mp S;refine⟨m.la,U,?_,?_,λp J q I=>?_,λp J q I=>?_⟩
 .refine Oc ?_ m.pm;rw[L,hd];have e:b.toList.drop G=(b.toList.drop G).take k++(b.toList.drop G).drop k:=(LQ _ _).symm
  conv=>rhs;rw[e]
  generalize (b.toList.drop G).take k=T;generalize (b.toList.drop G).drop k=D;rw[KU,KU,KU];refine MO _ ?_;rw[<-KU, <-KU];exact My _ Nf
 .rw[L,KR];exact⟨m.up,p1,λp O q I=>m.bb p O q (N7 I)⟩
 .rw[L]at J;rcases pa.mp J with z|z
  .exact m.ba p z q I
  .exact h p z q I
 .rw[hd]at I;rw[L]at J;rcases pa.mp J with z|z
  .exact m.bb p z q (N8 I)
  .exact Y p z q I
def Good (a b R:Array HC):Prop:=R.toList.Perm (a.toList++b.toList)/\R.toList.Pairwise le
theorem dE {a:Array HC}{i:Nat}{q:HC}(h:q∈a.toList.drop i):∃j,i<=j/\j<a.size/\Mu q.1=K a j:=by
 obtain⟨n,G,e⟩:=Qh.mp h;have I:i+n<a.size:=by
  rw[LV]at G;simp at G;exact Me G
 refine⟨i+n,af,I,?_⟩;rw[K_eq I, <-e,Q3];simp
theorem dG {a:Array HC}{i k:Nat}{q:HC}(h:q∈(a.toList.drop i).take k):∃j,j<k/\i+j<a.size/\Mu q.1=K a (i+j):=by
 obtain⟨n,G,e⟩:=Qh.mp h;rw[Kv,LV]at G;simp at G;have I:i+n<a.size:=af;refine⟨n,af,I,?_⟩;rw[K_eq I, <-e,NH,Q3];simp
theorem MI.gJ {a b out:Array HC}{G I:Nat}(m:MI a b out G I) (N:Up a) (ub:Up b) (hi:G<a.size) {p:HC}(J:a[G]?=some p) (h:∀j,I<=j->j<b.size->K a G<=K b j):MI a b (out.push p) (G+1) I:=by
 have ep:a[G]=p:=(by rw[getElem?_pos a G hi]at J;exact ro J);refine m.rL N (k:=1) (Q4 hi) ?_ λx S q R=>?_
 .rw[OT,Mm (by simpa using hi)];simp[ep]
 .obtain⟨j,Y,_,e⟩:=dG S;obtain⟨O,h2,U,L⟩:=dE R;have:j=0:=af;subst this;show Mu x.1<=Mu q.1;rw[e,L];exact h O h2 U
theorem MI.kR {a b out:Array HC}{I G:Nat}(m:MI a b out I G) (Y:Up a) (R:Up b) (hi:G<b.size) {p:HC}(J:b[G]?=some p) (h:∀j,I<=j->j<a.size->K b G<=K a j):MI a b (out.push p) I (G+1):=by
 have ep:b[G]=p:=(by rw[getElem?_pos b G hi]at J;exact ro J);refine m.rT R (k:=1) (Q4 hi) ?_ λx S q O=>?_
 .rw[OT,Mm (by simpa using hi)];simp[ep]
 .obtain⟨j,hj,_,e⟩:=dG S;obtain⟨N,h2,U,L⟩:=dE O;have:j=0:=af;subst this;show Mu x.1<=Mu q.1;rw[e,L];exact h N h2 U
theorem sP {a:Array HC}{i k:Nat}:(a.extract i (i+k)).toList=(a.toList.drop i).take k:=by
 rw[Oz,Mf];congr 1;exact P5 i k
theorem jJ {a:Array HC}{i:Nat}:(a.extract i a.size).toList=a.toList.drop i:=by
 rw[Oz,Mf];refine Ll ?_;rw[LV];simp
theorem MI.oN {a b out:Array HC}{I G:Nat}(m:MI a b out I G) (L:Up a) (h:G=b.size):Good a b (out++a.extract I a.size++b.extract G b.size):=by
 have e:(out++a.extract I a.size++b.extract G b.size).toList=out.toList++a.toList.drop I++b.toList.drop G:=by
  rw[Lz,Lz,jJ,jJ]
 refine⟨by rw[e];exact m.pm,?_⟩;rw[e,h,List.drop_of_length_le (l:=b.toList) (by simp),PJ,KR];exact⟨m.up,L.up.sublist (Oj _ _),λp J q N=>m.ba p J q N⟩
theorem MI.last {a b out:Array HC}{G I:Nat}(m:MI a b out G I) (O:Up a) (S:Up b) (hi:G+1=a.size) (h:∀j,I<=j->j<b.size->K b j<=K a G):Good a b (out++b.extract I b.size++a.extract G a.size):=by
 have e:(out++b.extract I b.size++a.extract G a.size).toList=out.toList++b.toList.drop I++a.toList.drop G:=by
  rw[Lz,Lz,jJ,jJ]
 refine⟨?_,?_⟩
 .rw[e];refine Oc ?_ m.pm;rw[KU,KU];exact MO _ Nf
 .rw[e,KR,KR];refine⟨⟨m.up,S.up.sublist (Oj _ _),λp L q J=>m.bb p L q J⟩,O.up.sublist (Oj _ _),λp L q J=>?_⟩;rcases pa.mp L with z|z
  .exact m.ba p z q J
  .obtain⟨j,h1,h2,U⟩:=dE z;obtain⟨R,h3,Y,N⟩:=dE J;have:R=G:=af;subst this;show Mu p.1<=Mu q.1;rw[U,N];exact h j h1 h2
theorem MI.EM {a b out:Array HC}{G I:Nat}(m:MI a b out G I) (N:Up a) {k:Nat}(J:G+k<=a.size) (h:∀i j,i<k->I<=j->j<b.size->K a (G+i)<=K b j):MI a b (out++a.extract G (G+k)) (G+k) I :=
 m.rL N J (by rw[Lz,sP]) λp U q R=>by
  obtain⟨j,h1,h2,Y⟩:=dG U;obtain⟨O,h3,S,L⟩:=dE R;show Mu p.1<=Mu q.1;rw[Y,L];exact h j O h1 h3 S
theorem MI.Am {a b out:Array HC}{I G:Nat}(m:MI a b out I G) (S:Up b) {k:Nat}(J:G+k<=b.size) (h:∀i j,i<k->I<=j->j<a.size->K b (G+i)<=K a j):MI a b (out++b.extract G (G+k)) I (G+k):=
 m.rT S J (by rw[Lz,sP]) λp U q O=>by
  obtain⟨j,h1,h2,Y⟩:=dG U;obtain⟨N,h3,R,L⟩:=dE O;show Mu p.1<=Mu q.1;rw[Y,L];exact h j N h1 h3 R
theorem AK {a:Int}{xs:Array HC}{base n r:Nat}(I:∀i,i<r->fQ false a xs base i=true) (G:∀i,r<=i->i<n->fQ false a xs base i=false):(∀i,i<r->K xs (base+i)<=a)/\∀j,base+r<=j->j<base+n->a<K xs j:=by
 refine⟨λi hi=>?_,λj J L=>?_⟩
 .have:=I i hi;unfold fQ at this;simpa using this
 .have:=G (j-base) (P6 J) af;unfold fQ at this;rw[show base+(j-base)=j by omega]at this;simpa using this
theorem rO {a:Int}{xs:Array HC}{base n r:Nat}(I:∀i,i<r->fQ true a xs base i=true) (G:∀i,r<=i->i<n->fQ true a xs base i=false):(∀i,i<r->K xs (base+i)<a)/\∀j,base+r<=j->j<base+n->a<=K xs j:=by
 refine⟨λi hi=>?_,λj J L=>?_⟩
 .have:=I i hi;unfold fQ at this;simpa using this
 .have:=G (j-base) (P6 J) af;unfold fQ at this;rw[show base+(j-base)=j by omega]at this;simpa using this
theorem MI.grow {a b out O:Array HC}{J L I B:Nat}(m:MI a b out J L) (G:MI a b O I B) (h1:J<=I) (h2:L<=B):out.size<=O.size:=by
 have R:=m.sz;have N:=G.sz;have:=G.la;have:=G.lb;omega
def zt:Array HC->Array HC->StateT K5 QP (Array HC):=sortPriv% PySem.Builtin.mergeLo
structure t6 (st st':K5):Prop where
 arr:E5 st'=E5 st
 kind:kindOf st'=kindOf st
 failed:Nn st'=Nn st
 pend:Kz st'=Kz st
section
variable {prog:ti}{w:Kl}{A:KA}{E:Value->mu->Prop}{s:mu}{a₀:Array HC}
theorem aR {α:Type}{c:Prop} [Decidable c] {m n:StateT K5 QP α}{Q:α->K5->Prop}{st:K5}(h1:c->SJ (model prog w) A E s m Q st) (h2:¬ c->SJ (model prog w) A E s n Q st):SJ (model prog w) A E s (if c then m else n) Q st:=by
 by_cases z:c
 .rw[Th z];exact h1 z
 .rw[Tg z];exact h2 z
def EG:Nat->StateT K5 QP Unit:=sortPriv% PySem.Builtin.setMinGallop
theorem xa {G st:K5}{g:Nat}{Q:Unit->K5->Prop}(k:t6 G st) (h:∀I,t6 G I->Q () I):SJ (model prog w) A E s (EG g) Q st :=
 Mw (h _ ⟨k.arr,k.kind,k.failed,k.pend⟩)
theorem wu {st:K5}{a b:Array HC}{Q:Array HC->K5->Prop}(hk:kindOf st=Nm) (N:Up a) (O:Up b) (na:1<=a.size) (nb:1<=b.size) (h0:K b 0<K a 0) (hl:∀j,j<b.size->K b j<K a (a.size-1))
  (h:∀R ai,Good a b R->t6 st ai->Q R ai):SJ (model prog w) A E s (zt a b) Q st:=by
 refine qi (Pm (MX ⟨rfl,?_⟩));obtain⟨t0,q0,e0⟩:=O.at (i:=0) (Q5 nb);refine qi (bw e0 ?_);have sa:=N.HR;have sb:=O.HR;have M0:MI a b #[(Value.int (K b 0) t0,q0)] 0 1:=by
  have M:MI a b #[] 0 0:=⟨KI _,KI _,by simp,OS,(λp hp=>by cases hp),(λp hp=>by cases hp)⟩;exact M.kR N O (Q5 nb) e0 λj _ hj=>by
   have:=sa 0 j af af hj;omega
 refine aR (λg=>?_) (λg=>?_)
 .exact ql (h _ _ (M0.oN N (by simpa using g)) ⟨rfl,rfl,rfl,rfl⟩)
 have g1:¬ 1=b.size:=(by simpa using g);refine aR (λg=>?_) (λg=>?_)
 .have g':0+1=a.size:=(by simpa using g);refine ql (h _ _ (M0.last N O g' λj _ hj=>?_) ⟨rfl,rfl,rfl,rfl⟩);have:=hl j hj;rw[<-g']at this;exact K0 this
 have g2:¬ 0+1=a.size:=(by simpa using g);refine qi (NF ?_);refine qi (LM (K7 (I:=λx c ai=>Ia λout G J mg=>yk (c=(none,out,G,J,mg)) (MI a b out G J) (G+1<a.size) (J<b.size) (x+1<=out.size) (t6 st ai)) (Q:=λc ai=>∃R,rF (Good a b R) (c.1=some R) (t6 st ai)) ?_ ?_ ?_) ?_)
 .rintro x c aB bx bv ⟨out,G,J,mg,rfl,M,U,L,lo,K1⟩;refine qi (LM (K7 (I:=λy c ai=>BF λY G J ac bc=>yk (c=(none,Y,G,J,ac,bc)) (MI a b Y G J) (G+1<a.size) (J<b.size) (out.size+y<=Y.size) (t6 st ai))
   (Q:=λc ai=>t6 st ai/\((∃R,Good a b R/\c.1=some R)\/(BF λY G J ac bc=>Ef (c=(none,Y,G,J,ac,bc)) (MI a b Y G J) (G+1<a.size) (J<b.size) (out.size+1<=Y.size)))) ?_ ?_ ?_) ?_)
  .rintro y c a5 bm bi ⟨Y,G,J,ac,bc,rfl,M,U,L,ba,K2⟩;have bl:kindOf a5=Nm:=K2.kind.trans hk;obtain⟨tb,qb,eb⟩:=O.at L;obtain⟨ta,qa,ea⟩:=N.at (i:=G) (OU U);refine qi (bw eb (qi (bw ea (qi (pN bl rfl rfl ?_)))));by_cases c:K b J<K a G
   .rw[decide_eq_true c];refine qi (bw eb ?_);have M2:=M.kR N O L eb λj h1 h2=>by
     have:=sa G j af h1 h2;omega
    refine aR (λg=>?_) (λg=>?_)
    .exact ql ⟨K2,.inl ⟨_,M2.oN N (by simpa using g),rfl⟩⟩
    .have g':¬ J+1=b.size:=(by simpa using g);have sz:(Y.push (Value.int (K b J) tb,qb)).size=Y.size+1:=Pn ..;refine aR (λg=>?_) (λg=>?_)
     .exact ql ⟨K2,.inr ⟨Y.push (Value.int (K b J) tb,qb),G,J+1,_,_,rfl,M2,U,Lh L g',af⟩⟩
     .exact ql ⟨Y.push (Value.int (K b J) tb,qb),G,J+1,_,_,rfl,M2,U,Lh L g',af,K2⟩
   .rw[decide_eq_false c];refine qi (bw ea ?_);have M2:=M.gJ N O (OU U) ea λj h1 h2=>by
     have:=sb J j af h1 h2;omega
    refine aR (λg=>?_) (λg=>?_)
    .have g':G+1+1=a.size:=(by simpa using g);refine ql ⟨K2,.inl ⟨_,M2.last N O g' (λj h1 h2=>?_),rfl⟩⟩;have:=hl j h2;rw[show a.size-1=G+1 by exact Mj Mn (id (MU g'))]at this;exact K0 this
    .have g':¬ G+1+1=a.size:=(by simpa using g);have sz:(Y.push (Value.int (K a G) ta,qa)).size=Y.size+1:=Pn ..;refine aR (λg=>?_) (λg=>?_)
     .exact ql ⟨K2,.inr ⟨Y.push (Value.int (K a G) ta,qa),G+1,J,_,_,rfl,M2,Lh U g',L,af⟩⟩
     .exact ql ⟨Y.push (Value.int (K a G) ta,qa),G+1,J,_,_,rfl,M2,Lh U g',L,af,K2⟩
  .rintro c a5 ⟨Y,G,J,ac,bc,rfl,M,U,L,ba,K2⟩;exact⟨K2,.inr ⟨_,_,_,_,_,rfl,M,U,L,af⟩⟩
  .exact⟨out,G,J,_,_,rfl,M,U,L,af,K1⟩
  .rintro c a5 ⟨K2,⟨R,hR,e⟩|⟨Y,G,J,ac,bc,rfl,M,U,L,ba⟩⟩
   .obtain⟨c1,c2⟩:=c;cases e;exact ql ⟨R,hR,rfl,K2⟩
   .refine qi (Pm (MX ⟨rfl,?_⟩));refine qi (LM (K7 (I:=λy c ai=>GV λap G J mg ac bc=>yk (c=(none,ap,G,J,mg,ac,bc)) (MI a b ap G J) (G+1<a.size) (J<b.size) (Y.size<=ap.size) (t6 st ai))
     (Q:=λc ai=>t6 st ai/\((∃R,Good a b R/\c.1=some R)\/(GV λap G J mg ac bc=>Ef (c=(none,ap,G,J,mg,ac,bc)) (MI a b ap G J) (G+1<a.size) (J<b.size) (Y.size<=ap.size)))) ?_ ?_ ?_) ?_)
    .rintro y c a6 bm bi ⟨ap,G,J,a7,ac,bc,rfl,M,U,L,am,K3⟩;refine aR (λg=>?_) (λg=>?_)
     all_goals
      refine qi (xa K3 λbb K4=>?_);have aT:kindOf bb=Nm:=K4.kind.trans hk;obtain⟨tb,qb,eb⟩:=O.at L;refine qi (bw eb (qi (dD (base:=G) (n:=a.size-G) (hint:=0) aT rfl (λi hi=>N.at (Me hi)) (sa.sub (KI _) af) af λr hr r1 r2=>?_)));obtain⟨R1,R2⟩:=AK r1 r2;rw[show G+(a.size-G)=a.size by omega]at R2;have be:G+r<a.size:=by
       by_cases z:G+r<a.size
       .exact z
       .have a1:=R1 (a.size-1-G) af;rw[show G+(a.size-1-G)=a.size-1 by omega]at a1;have:=hl J L;omega
      have M1:=M.EM N (k:=r) (OV be) λi j hi h1 h2=>L0 (R1 i hi) (sb J j (KI _) h1 h2);refine aR (λg2=>?_) (λg2=>?_)
      .refine aR (λg3=>?_) (λg3=>?_)
       .have g':G+r+1=a.size:=(by simpa using g3);refine ql ⟨K4,.inl ⟨_,M1.last N O g' (λj h1 h2=>?_),rfl⟩⟩;have:=hl j h2;rw[show a.size-1=G+r by omega]at this;exact K0 this
       .have bn:¬ G+r+1=a.size:=(by simpa using g3);refine aR (λg4=>?_) (λg4=>?_)
        .have g':G+r=a.size:=(by simpa using g4);omega
        .clear g4;have M2:=M1.kR N O L eb λj h1 h2=>K0 (R2 j af h2);refine qi (bw eb ?_);refine aR (λg5=>ql ⟨K4,.inl ⟨_,M2.oN N (by simpa using g5),rfl⟩⟩) (λg5=>?_);have as:¬ J+1=b.size:=(by simpa using g5);obtain⟨ta,qa,ea⟩:=N.at (i:=G+r) af;refine qi (bw ea (qi (dD (base:=J+1) (n:=b.size-(J+1)) (hint:=0) aT rfl (λi hi=>O.at (Me hi)) (sb.sub (KI _) af) af λr' a4 a0 a3=>?_)));obtain⟨T1,T2⟩:=rO a0 a3;rw[show J+1+(b.size-(J+1))=b.size by exact NZ L]at T2;have M3:=M2.Am O (k:=r') (SA (Mz L) a4) λi j hi h1 h2=>K0 (Oy (T1 i hi) (sa _ j (KI _) h1 h2));refine aR (λg6=>?_) (λg6=>?_)
         .refine aR (λg7=>ql ⟨K4,.inl ⟨_,M3.oN N (by simpa using g7),rfl⟩⟩) (λg7=>?_);have bd:¬ J+1+r'=b.size:=(by simpa using g7);refine qi (bw ea ?_);have S:=M3.gJ N O af ea λj h1 h2=>T2 j af h2;refine aR (λg8=>?_) (λg8=>?_)
          .have ab:G+r+1+1=a.size:=(by simpa using g8);refine ql ⟨K4,.inl ⟨_,S.last N O ab (λj h1 h2=>?_),rfl⟩⟩;have:=hl j h2;rw[show a.size-1=G+r+1 by exact Mj Mn (id (MU ab))]at this;exact K0 this
          .have ab:¬ G+r+1+1=a.size:=(by simpa using g8);refine aR (λg9=>ql ⟨K4,.inr ⟨_,G+r+1,J+1+r',_,_,_,rfl,S,af,af,Ko am (M.grow S af af)⟩⟩) (λg9=>ql ⟨_,G+r+1,J+1+r',_,_,_,rfl,S,af,af,Ko am (M.grow S af af),K4⟩)
         .have a2:r'=0:=af;subst a2;refine qi (bw ea ?_);have S:=M2.gJ N O af ea λj h1 h2=>T2 j af h2;refine aR (λg8=>?_) (λg8=>?_)
          .have ab:G+r+1+1=a.size:=(by simpa using g8);refine ql ⟨K4,.inl ⟨_,S.last N O ab (λj h1 h2=>?_),rfl⟩⟩;have:=hl j h2;rw[show a.size-1=G+r+1 by exact Mj Mn (id (MU ab))]at this;exact K0 this
          .have ab:¬ G+r+1+1=a.size:=(by simpa using g8);refine aR (λg9=>ql ⟨K4,.inr ⟨_,G+r+1,J+1,_,_,_,rfl,S,af,Lh L as,Ko am (M.grow S af af)⟩⟩) (λg9=>ql ⟨_,G+r+1,J+1,_,_,_,rfl,S,af,Lh L as,Ko am (M.grow S af af),K4⟩)
      .have r0:r=0:=af;subst r0;have M2:=M.kR N O L eb λj h1 h2=>K0 (R2 j af h2);refine qi (bw eb ?_);refine aR (λg5=>ql ⟨K4,.inl ⟨_,M2.oN N (by simpa using g5),rfl⟩⟩) (λg5=>?_);have as:¬ J+1=b.size:=(by simpa using g5);obtain⟨ta,qa,ea⟩:=N.at (i:=G) af;refine qi (bw ea (qi (dD (base:=J+1) (n:=b.size-(J+1)) (hint:=0) aT rfl (λi hi=>O.at (Me hi)) (sb.sub (KI _) af) af λr' a4 a0 a3=>?_)));obtain⟨T1,T2⟩:=rO a0 a3;rw[show J+1+(b.size-(J+1))=b.size by exact NZ L]at T2;have M3:=M2.Am O (k:=r') (SA (Mz L) a4) λi j hi h1 h2=>K0 (Oy (T1 i hi) (sa _ j (KI _) h1 h2));refine aR (λg6=>?_) (λg6=>?_)
       .refine aR (λg7=>ql ⟨K4,.inl ⟨_,M3.oN N (by simpa using g7),rfl⟩⟩) (λg7=>?_);have bd:¬ J+1+r'=b.size:=(by simpa using g7);refine qi (bw ea ?_);have S:=M3.gJ N O af ea λj h1 h2=>T2 j af h2;refine aR (λg8=>?_) (λg8=>?_)
        .have ab:G+1+1=a.size:=(by simpa using g8);refine ql ⟨K4,.inl ⟨_,S.last N O ab (λj h1 h2=>?_),rfl⟩⟩;have:=hl j h2;rw[show a.size-1=G+1 by exact Mj Mn (id (MU ab))]at this;exact K0 this
        .have ab:¬ G+1+1=a.size:=(by simpa using g8);refine aR (λg9=>ql ⟨K4,.inr ⟨_,G+1,J+1+r',_,_,_,rfl,S,Lh U ab,af,Ko am (M.grow S af af)⟩⟩) (λg9=>ql ⟨_,G+1,J+1+r',_,_,_,rfl,S,Lh U ab,af,Ko am (M.grow S af af),K4⟩)
       .have a2:r'=0:=af;subst a2;refine qi (bw ea ?_);have S:=M2.gJ N O af ea λj h1 h2=>T2 j af h2;refine aR (λg8=>?_) (λg8=>?_)
        .have ab:G+1+1=a.size:=(by simpa using g8);refine ql ⟨K4,.inl ⟨_,S.last N O ab (λj h1 h2=>?_),rfl⟩⟩;have:=hl j h2;rw[show a.size-1=G+1 by exact Mj Mn (id (MU ab))]at this;exact K0 this
        .have ab:¬ G+1+1=a.size:=(by simpa using g8);refine aR (λg9=>ql ⟨K4,.inr ⟨_,G+1,J+1,_,_,_,rfl,S,Lh U ab,Lh L as,Ko am (M.grow S af af)⟩⟩) (λg9=>ql ⟨_,G+1,J+1,_,_,_,rfl,S,af,af,Ko am (M.grow S af af),K4⟩)
    .rintro c a6 ⟨ap,G,J,a7,ac,bc,rfl,M,U,L,am,K3⟩;exact⟨K3,.inr ⟨_,_,_,_,_,_,rfl,M,U,L,am⟩⟩
    .exact⟨Y,G,J,_,_,_,rfl,M,U,L,sS _,K2⟩
    .rintro c a6 ⟨K3,⟨R,hR,e⟩|⟨ap,G,J,a7,ac,bc,rfl,M,U,L,am⟩⟩
     .obtain⟨c1,c2⟩:=c;cases e;exact ql ⟨R,hR,rfl,K3⟩
     .refine qi (xa K3 λbb K4=>?_);exact ql ⟨ap,G,J,_,rfl,M,U,L,af,K4⟩
 .rintro c aB ⟨out,G,J,mg,rfl,M,U,L,lo,K1⟩;exfalso;have:=M.sz;omega
 .exact⟨_,_,_,_,rfl,M0,Lh na g2,Lh nb g1,sS _,⟨rfl,rfl,rfl,rfl⟩⟩
 .rintro c aB ⟨R,hR,e,K1⟩;obtain⟨c1,c2⟩:=c;cases e;exact ql (h R aB hR K1)
end
def seg (a:Array HC) (k n:Nat):List HC:=(a.toList.drop k).take (n-k)
theorem iy {a:Array HC}{k n:Nat}(h:k<=n):a.toList.take n=a.toList.take k++seg a k n:=by
 unfold seg;have e:a.toList.take k=(a.toList.take n).take k:=(by rw[List.take_take,OW h]);rw[e, <-List.drop_take,LQ]
theorem lg {a:Array HC}{k n:Nat}{q:HC}(h:q∈seg a k n):∃j,k<=j/\j<n/\j<a.size/\Mu q.1=K a j:=by
 obtain⟨j,h1,h2,e⟩:=dG h;exact⟨k+j,af,Me h1,h2,e⟩
theorem lD {a:Array HC}{n:Nat}{q:HC}(h:q∈a.toList.take n):∃j,j<n/\j<a.size/\Mu q.1=K a j:=by
 have:q∈(a.toList.drop 0).take n:=(by rw[RU];exact h);obtain⟨j,h1,h2,e⟩:=dG this;rw[RV]at h2 e;exact⟨j,h1,h2,e⟩
theorem gp {a:Array HC}{k n:Nat}:(a.extract k n).toList=seg a k n:=by
 unfold seg;rw[Oz,Mf]
theorem k7 {a:Array HC}{n:Nat}:(a.extract 0 n).toList=a.toList.take n:=by
 rw[Oz,Mf];simp
theorem wX {a:Array HC}{k:Nat}(h:k<a.size):seg a k (k+1)=[a[k]]:=by
 unfold seg;rw[Mm (by simpa using h)];simp
structure MH (a b out:Array HC) (na nb:Nat):Prop where
 la:na<=a.size
 lb:nb<=b.size
 pm:(a.toList.take na++b.toList.take nb++out.toList.reverse).Perm (a.toList++b.toList)
 up:out.toList.reverse.Pairwise le
 ab:∀p∈a.toList.take na,∀q∈out.toList,le p q
 bb:∀p∈b.toList.take nb,∀q∈out.toList,le p q
theorem MH.sz {a b out:Array HC}{I G:Nat}(m:MH a b out I G):out.size+I+G=a.size+b.size:=by
 have:=m.pm.length_eq;have h1:=m.la;have h2:=m.lb;simp at this;omega
theorem MH.grow {a b out O:Array HC}{G J I B:Nat}(m:MH a b out G J) (L:MH a b O I B) (h1:I<=G) (h2:B<=J):out.size<=O.size:=by
 have R:=m.sz;have N:=L.sz;omega
theorem k9 {out:Array HC}{l r:List HC}{q:HC}(h:out.toList.reverse=l++r.reverse) (G:q∈out.toList):q∈l\/q∈r:=by
 have:q∈out.toList.reverse:=Ls.mpr G;rw[h]at this;rcases pa.mp this with z|z
 .exact .inl z
 .exact .inr (Ls.mp z)
theorem MH.rL {a b out U:Array HC}{G R k:Nat}(m:MH a b out G R) (ua:Up a) (S:k<=G) (N:U.toList.reverse=seg a k G++out.toList.reverse) (h:∀i j,i<R->i<b.size->k<=j->j<G->K b i<=K a j):MH a b U k R:=by
 have L:=iy (a:=a) S;have O:(a.toList.take G).Pairwise le:=ua.up.sublist (Nb _ _);rw[L]at O;obtain⟨p1,p2,p3⟩:=KR.mp O;have ac:=m.la;refine⟨Ko S ac,m.lb,?_,?_,λp J q I=>?_,λp J q I=>?_⟩
 .refine Oc ?_ m.pm;rw[N,L];generalize seg a k G=T;generalize a.toList.take k=D;generalize b.toList.take R=B;rw[KU,KU,KU];refine MO _ ?_;rw[<-KU, <-KU];exact My _ Nf
 .rw[N,KR];refine⟨p2,m.up,λp O q I=>m.ab p ?_ q (Ls.mp I)⟩;rw[L];exact KL _ O
 .rcases k9 N I with z|z
  .exact p3 p J q z
  .refine m.ab p ?_ q z;rw[L];exact Lp _ J
 .rcases k9 N I with z|z
  .obtain⟨i,i1,i2,e1⟩:=lD J;obtain⟨j,Y,j2,j3,e2⟩:=lg z;show Mu p.1<=Mu q.1;rw[e1,e2];exact h i j i1 i2 Y j2
  .exact m.bb p J q z
theorem MH.rT {a b out U:Array HC}{N G k:Nat}(m:MH a b out N G) (ub:Up b) (S:k<=G) (O:U.toList.reverse=seg b k G++out.toList.reverse) (h:∀i j,i<N->i<a.size->k<=j->j<G->K a i<=K b j):MH a b U N k:=by
 have L:=iy (a:=b) S;have R:(b.toList.take G).Pairwise le:=ub.up.sublist (Nb _ _);rw[L]at R;obtain⟨p1,p2,p3⟩:=KR.mp R;have ac:=m.lb;refine⟨m.la,Ko S ac,?_,?_,λp J q I=>?_,λp J q I=>?_⟩
 .refine Oc ?_ m.pm;rw[O,L];generalize seg b k G=T;generalize b.toList.take k=D;generalize a.toList.take N=B;rw[KU,KU,KU]
 .rw[O,KR];refine⟨p2,m.up,λp R q I=>m.bb p ?_ q (Ls.mp I)⟩;rw[L];exact KL _ R
 .rcases k9 O I with z|z
  .obtain⟨i,i1,i2,e1⟩:=lD J;obtain⟨j,Y,j2,j3,e2⟩:=lg z;show Mu p.1<=Mu q.1;rw[e1,e2];exact h i j i1 i2 Y j2
  .exact m.ab p J q z
 .rcases k9 O I with z|z
  .exact p3 p J q z
  .refine m.bb p ?_ q z;rw[L];exact Lp _ J
theorem MH.gJ {a b out:Array HC}{G I:Nat}(m:MH a b out G I) (N:Up a) (J:1<=G) {p:HC}(L:a[G-1]?=some p) (h:∀i,i<I->i<b.size->K b i<=K a (G-1)):MH a b (out.push p) (G-1) I:=by
 have O:=m.la;have hi:G-1<a.size:=Qi J O;have ep:a[G-1]=p:=(by rw[getElem?_pos a _ hi]at L;exact ro L);refine m.rL N (SE G 1) ?_ λi j h1 h2 R S=>?_
 .have:=wX hi;rw[show G-1+1=G by exact QG J]at this;rw[this,OT,NJ,ep];rfl
 .rw[show j=G-1 by omega];exact h i h1 h2
theorem MH.kR {a b out:Array HC}{I G:Nat}(m:MH a b out I G) (O:Up b) (J:1<=G) {p:HC}(L:b[G-1]?=some p) (h:∀i,i<I->i<a.size->K a i<=K b (G-1)):MH a b (out.push p) I (G-1):=by
 have N:=m.lb;have hi:G-1<b.size:=Qi J N;have ep:b[G-1]=p:=(by rw[getElem?_pos b _ hi]at L;exact ro L);refine m.rT O (SE G 1) ?_ λi j h1 h2 R S=>?_
 .have:=wX hi;rw[show G-1+1=G by exact QG J]at this;rw[this,OT,NJ,ep];rfl
 .rw[show j=G-1 by omega];exact h i h1 h2
theorem MH.EM {a b out:Array HC}{G I k:Nat}(m:MH a b out G I) (L:Up a) (J:k<=G) (h:∀i j,i<I->i<b.size->k<=j->j<G->K b i<=K a j):MH a b (out++(a.extract k G).reverse) k I :=
 m.rL L J (by rw[Lz,NJ,OA,Qj,gp]) h
theorem MH.Am {a b out:Array HC}{I G k:Nat}(m:MH a b out I G) (L:Up b) (J:k<=G) (h:∀i j,i<I->i<a.size->k<=j->j<G->K a i<=K b j):MH a b (out++(b.extract k G).reverse) I k :=
 m.rT L J (by rw[Lz,NJ,OA,Qj,gp]) h
theorem MH.done {a b out:Array HC}{I G:Nat}(m:MH a b out I G) (O:Up a) (N:Up b) (h:I=0\/G=0):Good a b (a.extract 0 I++b.extract 0 G++out.reverse):=by
 have e:(a.extract 0 I++b.extract 0 G++out.reverse).toList=a.toList.take I++b.toList.take G++out.toList.reverse:=by
  rw[Lz,Lz,k7,k7,OA]
 refine⟨by rw[e];exact m.pm,?_⟩;rw[e];rcases h with h|h
 .rw[h,Qr,Rq,KR];exact⟨N.up.sublist (Nb _ _),m.up,λp J q L=>m.bb p J q (Ls.mp L)⟩
 .rw[h,Qr,PJ,KR];exact⟨O.up.sublist (Nb _ _),m.up,λp J q L=>m.ab p J q (Ls.mp L)⟩
theorem MH.first {a b out:Array HC}{I G:Nat}(m:MH a b out I G) (O:Up a) (S:Up b) (hn:G=1) (h:∀j,j<a.size->K b 0<=K a j):Good a b (b.extract 0 G++a.extract 0 I++out.reverse):=by
 have e:(b.extract 0 G++a.extract 0 I++out.reverse).toList=b.toList.take G++a.toList.take I++out.toList.reverse:=by
  rw[Lz,Lz,k7,k7,OA]
 refine⟨?_,?_⟩
 .rw[e];exact(My _ Nf).trans m.pm
 .rw[e,KR,KR];refine⟨⟨S.up.sublist (Nb _ _),O.up.sublist (Nb _ _),λp L q J=>?_⟩,m.up,λp L q J=>?_⟩
  .obtain⟨i,i1,i2,U⟩:=lD L;obtain⟨j,Y,R,N⟩:=lD J;show Mu p.1<=Mu q.1;rw[U,N,show i=0 by omega];exact h j R
  .rcases pa.mp L with z|z
   .exact m.bb p z q (Ls.mp J)
   .exact m.ab p z q (Ls.mp J)
def Bi:Array HC->Array HC->StateT K5 QP (Array HC):=sortPriv% PySem.Builtin.mergeHi
section
variable {prog:ti}{w:Kl}{A:KA}{E:Value->mu->Prop}{s:mu}{a₀:Array HC}
theorem vk {st:K5}{a b:Array HC}{Q:Array HC->K5->Prop}(hk:kindOf st=Nm) (L:Up a) (N:Up b) (J:1<=a.size) (G:1<=b.size) (h0:K b 0<K a 0) (hl:∀j,j<b.size->K b j<K a (a.size-1))
  (h:∀R ab,Good a b R->t6 st ab->Q R ab):SJ (model prog w) A E s (Bi a b) Q st:=by
 refine qi (Pm (MX ⟨rfl,?_⟩));have sa:=L.HR;have sb:=N.HR;have as:∀j,j<a.size->K b 0<=K a j:=λj hj=>by
  have:=sa 0 j (KI _) (KI _) hj;omega
 obtain⟨t0,q0,e0⟩:=L.at (i:=a.size-1) af;refine qi (bw e0 ?_);have M0:MH a b #[(Value.int (K a (a.size-1)) t0,q0)] (a.size-1) b.size:=by
  have M:MH a b #[] a.size b.size:=⟨sS _,sS _,(by rw[Ll (l:=a.toList) (by simp),Ll (l:=b.toList) (by simp)];simp),OS,(λp _ q hq=>by cases hq),(λp _ q hq=>by cases hq)⟩;exact M.gJ L J e0 λi h1 h2=>K0 (hl i h2)
 refine aR (λg=>ql (h _ _ (M0.done L N (.inl (by simpa using g))) ⟨rfl,rfl,rfl,rfl⟩)) (λg=>?_);have g1:¬ a.size-1=0:=(by simpa using g);refine aR (λg=>ql (h _ _ (M0.first L N (by simpa using g) as) ⟨rfl,rfl,rfl,rfl⟩)) (λg=>?_);have g2:¬ b.size=1:=(by simpa using g);refine qi (NF ?_);refine qi (LM (K7 (I:=λx c ab=>Ia λJ G out mg=>yk (c=(none,J,G,out,mg)) (MH a b out J G) (1<=J) (2<=G) (x+1<=out.size) (t6 st ab)) (Q:=λc ab=>∃R,rF (Good a b R) (c.1=some R) (t6 st ab)) ?_ ?_ ?_) ?_)
 .rintro x c aT bA bz ⟨J,G,out,mg,rfl,M,la,lb,lo,K1⟩;refine qi (LM (K7 (I:=λy c ab=>BF λJ G S ac bc=>yk (c=(none,J,G,S,ac,bc)) (MH a b S J G) (1<=J) (2<=G) (out.size+y<=S.size) (t6 st ab))
   (Q:=λc ab=>t6 st ab/\((∃R,Good a b R/\c.1=some R)\/(BF λJ G S ac bc=>Ef (c=(none,J,G,S,ac,bc)) (MH a b S J G) (1<=J) (2<=G) (out.size+1<=S.size)))) ?_ ?_ ?_) ?_)
  .rintro y c a4 bv bi ⟨J,G,S,ac,bc,rfl,M,la,lb,a7,K2⟩;have bm:kindOf a4=Nm:=K2.kind.trans hk;have lA:=M.la;have lB:=M.lb;obtain⟨tb,qb,eb⟩:=N.at (i:=G-1) af;obtain⟨ta,qa,ea⟩:=L.at (i:=J-1) af;refine qi (bw eb (qi (bw ea (qi (pN bm rfl rfl ?_)))));by_cases c:K b (G-1)<K a (J-1)
   .rw[decide_eq_true c];refine qi (bw ea ?_);have M2:=M.gJ L af ea λi h1 h2=>K0 (Ny (sb i (G-1) (KI _) af af) c);refine aR (λg=>ql ⟨K2,.inl ⟨_,M2.done L N (.inl (by simpa using g)),rfl⟩⟩) (λg=>?_);have g':¬ J-1=0:=(by simpa using g);have sz:(S.push (Value.int (K a (J-1)) ta,qa)).size=S.size+1:=Pn ..;exact aR (λg=>ql ⟨K2,.inr ⟨J-1,G,S.push (Value.int (K a (J-1)) ta,qa),_,_,rfl,M2,af,lb,af⟩⟩) (λg=>ql ⟨J-1,G,S.push (Value.int (K a (J-1)) ta,qa),_,_,rfl,M2,af,lb,af,K2⟩)
   .rw[decide_eq_false c];refine qi (bw eb ?_);have M2:=M.kR N af eb λi h1 h2=>L0 (sa i (J-1) (KI _) af af) (Int.not_lt.mp c);refine aR (λg=>ql ⟨K2,.inl ⟨_,M2.first L N (by simpa using g) as,rfl⟩⟩) (λg=>?_);have g':¬ G-1=1:=(by simpa using g);have sz:(S.push (Value.int (K b (G-1)) tb,qb)).size=S.size+1:=Pn ..;exact aR (λg=>ql ⟨K2,.inr ⟨J,G-1,S.push (Value.int (K b (G-1)) tb,qb),_,_,rfl,M2,la,af,af⟩⟩) (λg=>ql ⟨J,G-1,S.push (Value.int (K b (G-1)) tb,qb),_,_,rfl,M2,la,af,af,K2⟩)
  .rintro c a4 ⟨J,G,S,ac,bc,rfl,M,la,lb,a7,K2⟩;exact⟨K2,.inr ⟨J,G,S,_,_,rfl,M,la,lb,af⟩⟩
  .exact⟨J,G,out,_,_,rfl,M,la,lb,af,K1⟩
  .rintro c a4 ⟨K2,⟨R,hR,e⟩|⟨J,G,S,ac,bc,rfl,M,la,lb,a7⟩⟩
   .obtain⟨c1,c2⟩:=c;cases e;exact ql ⟨R,hR,rfl,K2⟩
   .refine qi (Pm (MX ⟨rfl,?_⟩));refine qi (LM (K7 (I:=λy c ab=>GV λJ G ai mg ac bc=>yk (c=(none,J,G,ai,mg,ac,bc)) (MH a b ai J G) (1<=J) (2<=G) (S.size<=ai.size) (t6 st ab))
     (Q:=λc ab=>t6 st ab/\((∃R,Good a b R/\c.1=some R)\/(GV λJ G ai mg ac bc=>Ef (c=(none,J,G,ai,mg,ac,bc)) (MH a b ai J G) (1<=J) (2<=G) (S.size<=ai.size)))) ?_ ?_ ?_) ?_)
    .rintro y c a5 bv bi ⟨J,G,ai,a6,ac,bc,rfl,M,la,lb,am,K3⟩;refine aR (λg=>?_) (λg=>?_)
     all_goals
      refine qi (xa K3 λba U=>?_);have a0:kindOf ba=Nm:=U.kind.trans hk;have lA:=M.la;have lB:=M.lb;obtain⟨tb,qb,eb⟩:=N.at (i:=G-1) af;refine qi (bw eb (qi (dD (base:=0) (n:=J) (hint:=J-1) a0 rfl (λi hi=>L.at af) (sa.sub (KI _) af) af λr hr r1 r2=>?_)));obtain⟨R1,R2⟩:=AK r1 r2;simp only[RV]at R1 R2;have M1:=M.EM L (k:=r) af λi j h1 h2 h3 h4=>K0 (Ny (sb i (G-1) (KI _) af af) (R2 j h3 h4));refine aR (λg2=>?_) (λg2=>?_)
      .refine aR (λg3=>ql ⟨U,.inl ⟨_,M1.done L N (.inl (by simpa using g3)),rfl⟩⟩) (λg3=>?_);have bE:¬ r=0:=(by simpa using g3);have M2:=M1.kR N af eb λi h1 h2=>R1 i af;refine qi (bw eb ?_);refine aR (λg5=>ql ⟨U,.inl ⟨_,M2.first L N (by simpa using g5) as,rfl⟩⟩) (λg5=>?_);have bl:¬ G-1=1:=(by simpa using g5);obtain⟨ta,qa,ea⟩:=L.at (i:=r-1) af;refine qi (bw ea (qi (dD (base:=0) (n:=G-1) (hint:=G-1-1) a0 rfl (λi hi=>N.at af) (sb.sub (KI _) af) af λY bn a1 a3=>?_)));obtain⟨T1,T2⟩:=rO a1 a3;simp only[RV]at T1 T2;have M3:=M2.Am N (k:=Y) af λi j h1 h2 h3 h4=>L0 (sa i (r-1) (KI _) af af) (T2 j h3 h4);refine aR (λg6=>?_) (λg6=>?_)
       .refine aR (λg7=>ql ⟨U,.inl ⟨_,M3.first L N (by simpa using g7) as,rfl⟩⟩) (λg7=>?_);have bb:¬ Y=1:=(by simpa using g7);refine aR (λap=>ql ⟨U,.inl ⟨_,M3.done L N (.inr (by simpa using ap)),rfl⟩⟩) (λap=>?_);have bd:¬ Y=0:=(by simpa using ap);refine qi (bw ea ?_);have O:=M3.gJ L af ea λi h1 h2=>K0 (T1 i af);refine aR (λg8=>ql ⟨U,.inl ⟨_,O.done L N (.inl (by simpa using g8)),rfl⟩⟩) (λg8=>?_);have aB:¬ r-1=0:=(by simpa using g8);exact aR (λg9=>ql ⟨U,.inr ⟨r-1,Y,_,_,_,_,rfl,O,af,af,Ko am (M.grow O af af)⟩⟩) (λg9=>ql ⟨r-1,Y,_,_,_,_,rfl,O,af,af,Ko am (M.grow O af af),U⟩)
       .have be:¬ G-1-Y>0:=g6;have a2:Y=G-1:=af;subst a2;refine qi (bw ea ?_);have O:=M2.gJ L af ea λi h1 h2=>K0 (T1 i af);refine aR (λg8=>ql ⟨U,.inl ⟨_,O.done L N (.inl (by simpa using g8)),rfl⟩⟩) (λg8=>?_);have aB:¬ r-1=0:=(by simpa using g8);exact aR (λg9=>ql ⟨U,.inr ⟨r-1,G-1,_,_,_,_,rfl,O,af,af,Ko am (M.grow O af af)⟩⟩) (λg9=>ql ⟨r-1,G-1,_,_,_,_,rfl,O,af,af,Ko am (M.grow O af af),U⟩)
      .have bx:¬ J-r>0:=g2;have r0:r=J:=af;subst r0;have M2:=M.kR N af eb λi h1 h2=>R1 i af;refine qi (bw eb ?_);refine aR (λg5=>ql ⟨U,.inl ⟨_,M2.first L N (by simpa using g5) as,rfl⟩⟩) (λg5=>?_);have bl:¬ G-1=1:=(by simpa using g5);obtain⟨ta,qa,ea⟩:=L.at (i:=r-1) af;refine qi (bw ea (qi (dD (base:=0) (n:=G-1) (hint:=G-1-1) a0 rfl (λi hi=>N.at af) (sb.sub (KI _) af) af λY bn a1 a3=>?_)));obtain⟨T1,T2⟩:=rO a1 a3;simp only[RV]at T1 T2;have M3:=M2.Am N (k:=Y) af λi j h1 h2 h3 h4=>L0 (sa i (r-1) (KI _) af af) (T2 j h3 h4);refine aR (λg6=>?_) (λg6=>?_)
       .refine aR (λg7=>ql ⟨U,.inl ⟨_,M3.first L N (by simpa using g7) as,rfl⟩⟩) (λg7=>?_);have bb:¬ Y=1:=(by simpa using g7);refine aR (λap=>ql ⟨U,.inl ⟨_,M3.done L N (.inr (by simpa using ap)),rfl⟩⟩) (λap=>?_);have bd:¬ Y=0:=(by simpa using ap);refine qi (bw ea ?_);have O:=M3.gJ L af ea λi h1 h2=>K0 (T1 i af);refine aR (λg8=>ql ⟨U,.inl ⟨_,O.done L N (.inl (by simpa using g8)),rfl⟩⟩) (λg8=>?_);have aB:¬ r-1=0:=(by simpa using g8);exact aR (λg9=>ql ⟨U,.inr ⟨r-1,Y,_,_,_,_,rfl,O,af,af,Ko am (M.grow O af af)⟩⟩) (λg9=>ql ⟨r-1,Y,_,_,_,_,rfl,O,af,af,Ko am (M.grow O af af),U⟩)
       .have be:¬ G-1-Y>0:=g6;have a2:Y=G-1:=af;subst a2;refine qi (bw ea ?_);have O:=M2.gJ L af ea λi h1 h2=>K0 (T1 i af);refine aR (λg8=>ql ⟨U,.inl ⟨_,O.done L N (.inl (by simpa using g8)),rfl⟩⟩) (λg8=>?_);have aB:¬ r-1=0:=(by simpa using g8);exact aR (λg9=>ql ⟨U,.inr ⟨r-1,G-1,_,_,_,_,rfl,O,af,af,Ko am (M.grow O af af)⟩⟩) (λg9=>ql ⟨r-1,G-1,_,_,_,_,rfl,O,af,af,Ko am (M.grow O af af),U⟩)
    .rintro c a5 ⟨J,G,ai,a6,ac,bc,rfl,M,la,lb,am,K3⟩;exact⟨K3,.inr ⟨J,G,ai,_,_,_,rfl,M,la,lb,am⟩⟩
    .exact⟨J,G,S,_,_,_,rfl,M,la,lb,sS _,K2⟩
    .rintro c a5 ⟨K3,⟨R,hR,e⟩|⟨J,G,ai,a6,ac,bc,rfl,M,la,lb,am⟩⟩
     .obtain⟨c1,c2⟩:=c;cases e;exact ql ⟨R,hR,rfl,K3⟩
     .refine qi (xa K3 λba U=>?_);exact ql ⟨J,G,ai,_,rfl,M,la,lb,af,U⟩
 .rintro c aT ⟨J,G,out,mg,rfl,M,la,lb,lo,K1⟩;exfalso;have:=M.sz;omega
 .exact⟨_,_,_,_,rfl,M0,af,af,sS _,⟨rfl,rfl,rfl,rfl⟩⟩
 .rintro c aT ⟨R,hR,e,K1⟩;obtain⟨c1,c2⟩:=c;cases e;exact ql (h R aT hR K1)
end
def putAll (a:Array HC) (o n:Nat) (l:List HC):Array HC:=(l.zipIdx n).foldl (λa (p,j)=>a.setIfInBounds (o+j) p) a
theorem iY (o:Nat):∀(l:List HC) (n:Nat) (a:Array HC),o+n+l.length<=a.size->∀i,(putAll a o n l)[i]?=if o+n<=i/\i<o+n+l.length then l[i-(o+n)]? else a[i]?
 | [],n,a,_,i=>by
  rw[Tg (by rw[RW];omega)];rfl
 |p::l,n,a,h,i=>by
  rw[Kp]at h;show(putAll (a.setIfInBounds (o+n) p) o (n+1) l)[i]?=_;rw[iY o l (n+1) _ (by rw[Array.size_setIfInBounds];omega),Kp,Array.getElem?_setIfInBounds];by_cases c:o+(n+1)<=i/\i<o+(n+1)+l.length
  .rw[Th c,Th af,show i-(o+n)=(i-(o+(n+1)))+1 by omega];simp
  .rw[Tg c];by_cases d:o+n=i
   .rw[Th d,Th (Nat.lt_of_add_right_lt h),Th af, <-d];simp
   .rw[Tg d,Tg af]
theorem rV {a:Array HC}{o:Nat}{l:List HC}(h:o+l.length<=a.size):(putAll a o 0 l).toList=a.toList.take o++l++a.toList.drop (o+l.length):=by
 apply NK;intro i;have e:=iY o l 0 a af i;rw[LJ,e,KU];by_cases G:i<o
 .rw[Tg af,Lm (by rw[Kv];simp;omega),OZ];simp[G]
 .rw[Lj (by rw[Kv];omega)];have I:(a.toList.take o).length=o:=(by rw[Kv];simp;omega);rw[I];by_cases J:i<o+l.length
  .rw[Th af,Lm af];rfl
  .rw[Tg af,Lj af,O0,LJ];congr 1;omega
theorem sM {a:Array HC}{lo hi i:Nat}(h:i<hi-lo) (hs:hi<=a.size):K (a.extract lo hi) i=K a (lo+i):=by
 refine Rz ?_;rw[Array.getElem?_extract];rw[Th af]
theorem mU {a:Array HC}{lo hi:Nat}(hs:hi<=a.size):(a.extract lo hi).size=hi-lo:=by
 rw[Array.size_extract];omega
theorem Bs {a₀ a:Array HC}(S:a.Perm a₀) (k:Ks a₀) {lo hi:Nat}(hs:hi<=a.size) (h:j8 a lo hi):Up (a.extract lo hi):=by
 refine⟨λp I=>k.ik p ((Ma.mp S).mem_iff.mp ?_),LL.mpr λi j O L U=>?_⟩
 .rw[gp]at I;exact N8 (N7 I)
 .have sz:=mU (a:=a) (lo:=lo) hs;have R:i<(a.extract lo hi).size:=(by rw[<-Ly];exact O);have N:j<(a.extract lo hi).size:=(by rw[<-Ly];exact L);have J:=K_eq R;have G:=K_eq N;rw[sM af hs]at J G;have z:=h (lo+i) (lo+j) af af af;rw[J,G]at z;simpa[le]using z
theorem parts {a:Array HC}{lo mid hi:Nat}(h1:lo<=mid) (h2:mid<=hi):a.toList=a.toList.take lo++(seg a lo mid++seg a mid hi)++a.toList.drop hi:=by
 have I:=iy (a:=a) h1;have G:=iy (a:=a) h2;rw[<-KU, <-I, <-G,LQ]
theorem xi {a R:Array HC}{lo mid hi:Nat}(h1:lo<=mid) (h2:mid<=hi) (h3:hi<=a.size) (G:Good (a.extract lo mid) (a.extract mid hi) R) :
  R.size=hi-lo/\(putAll a lo 0 R.toList).Perm a/\(∀i,¬ (lo<=i/\i<hi)->(putAll a lo 0 R.toList)[i]?=a[i]?)/\j8 (putAll a lo 0 R.toList) lo hi/\∀i,lo<=i->i<hi->∃j,lo<=j/\j<hi/\K (putAll a lo 0 R.toList) i=K a j:=by
 obtain⟨I,g2⟩:=G;have sz:R.size=hi-lo:=by
  have:=I.length_eq;simp only[E2,Ly]at this;rw[mU (Ko h2 h3),mU h3]at this;omega
 have hl:R.toList.length=hi-lo:=(by rw[Ly];exact sz);have get:=iY lo R.toList 0 a af;have N:∀i,lo<=i->i<hi->∃(h:i-lo<R.size),K (putAll a lo 0 R.toList) i=Mu (R[i-lo]).1:=λi ab ac=>by
  have U:i-lo<R.size:=af;refine⟨U,?_⟩;have e:=get i;rw[Th af]at e;unfold K;rw[e,LJ,Nat.add_zero,getElem?_pos R (i-lo) U]
 refine⟨sz,?_,λi hi=>?_,λi j hi S Y=>?_,λi ab ac=>?_⟩
 .rw[Ma,rV af]
  conv=>rhs;rw[parts (a:=a) h1 h2]
  rw[hl,show lo+(hi-lo)=hi by omega];refine My _ (MO _ ?_);rw[<-gp, <-gp];exact I
 .rw[get i,Tg af]
 .obtain⟨a1,O⟩:=N i hi (MY S Y);obtain⟨a2,e2⟩:=N j (Ko hi S) Y;rw[O,e2];by_cases z:i=j
  .subst z;exact Lo _
  .have:=LL.mp g2 (i-lo) (j-lo) (by simpa using a1) (by simpa using a2) af;simpa[le]using this
 .obtain⟨a1,O⟩:=N i ab ac;have hm:R[i-lo]∈(a.extract lo mid).toList++(a.extract mid hi).toList:=I.mem_iff.mp (by simp);rw[O];rcases pa.mp hm with z|z
  .rw[gp]at z;obtain⟨j,J,L,j3,e⟩:=lg z;exact⟨j,J,Kw L h2,e⟩
  .rw[gp]at z;obtain⟨j,J,L,j3,e⟩:=lg z;exact⟨j,Ko h1 J,L,e⟩
structure Eg (a₀:Array HC) (st st':K5) (i lo n:Nat) (pw:Nat):Prop where
 S:SI a₀ st'
 out:∀j,¬ (lo<=j/\j<lo+n)->(E5 st')[j]?=(E5 st)[j]?
 up:j8 (E5 st') lo (lo+n)
 pend:Kz st'=((Kz st).setIfInBounds i (lo,n,pw)).eraseIdxIfInBounds (i+1)
section
variable {prog:ti}{w:Kl}{A:KA}{E:Value->mu->Prop}{s:mu}{a₀:Array HC}
theorem Ep {st x:K5}{Q:PUnit->K5->Prop}(h:Q ⟨⟩ x):SJ (model prog w) A E s (set x:StateT K5 QP PUnit) Q st:=by
 unfold SJ;rw[StateT.run_set];exact By ⟨rfl,h⟩
theorem zR {st:K5}{i I J pw nb ap:Nat}{Q:Bool->K5->Prop}(S:SI a₀ st) (k:Ks a₀) (h1:(Kz st)[i]?=some (I,J,pw)) (h2:(Kz st)[i+1]?=some (I+J,nb,ap)) (n1:1<=J) (n2:1<=nb) (hsz:I+J+nb<=a₀.size)
  (u1:j8 (E5 st) I (I+J)) (u2:j8 (E5 st) (I+J) (I+J+nb)) (h:∀ac,Eg a₀ st ac i I (J+nb) pw->Q true ac):SJ (model prog w) A E s (mergeAt' i) Q st:=by
 refine qi (NF ?_);have hs:=S.size;have ka:∀{j:Nat},j<(E5 st).size->∃t q,(E5 st)[j]?=some (.int (K (E5 st) j) t,q):=λY=>uC S.perm k Y;rw[h1,h2];refine qi (Ep ?_);obtain⟨tb,qb,eb⟩:=ka (j:=I+J) af;refine qi (bw eb (qi (dD (base:=I) (n:=J) (hint:=0) S.kind rfl (λi hi=>ka af) u1 af λr hr r1 r2=>?_)));obtain⟨R1,R2⟩:=AK r1 r2;refine aR (λg=>?_) (λg=>?_)
 .have g':J-r=0:=(by simpa using g);refine ql (h _ ⟨⟨S.perm,S.kind,S.failed⟩,λ_ _=>rfl,λi j hi O Y=>?_,rfl⟩);show K (E5 st) i<=K (E5 st) j;by_cases c1:j<I+J
  .exact u1 i j hi O c1
  .by_cases N:i<I+J
   .have U:=R1 (i-I) af;rw[show I+(i-I)=i by exact NZ hi]at U;exact L0 U (u2 (I+J) j (sS _) (Lb c1) af)
   .exact u2 i j (Lb N) O af
 have g':¬ J-r=0:=(by simpa using g);obtain⟨ta,qa,ea⟩:=ka (j:=I+r+(J-r)-1) af;refine qi (bw ea (qi (dD (base:=I+J) (n:=nb) (hint:=nb-1) S.kind rfl (λi hi=>ka af) u2 (Nat.sub_one_lt_of_lt n2) λL as am ai=>?_)));obtain⟨T1,T2⟩:=rO am ai;refine aR (λg=>?_) (λg=>?_)
 .have aB:L=0:=(by simpa using g);refine ql (h _ ⟨⟨S.perm,S.kind,S.failed⟩,λ_ _=>rfl,λi j hi O Y=>?_,rfl⟩);show K (E5 st) i<=K (E5 st) j;by_cases c1:j<I+J
  .exact u1 i j hi O c1
  .by_cases N:i<I+J
   .exact L0 (u1 i (I+r+(J-r)-1) hi af af) (T2 j af af)
   .exact u2 i j (Lb N) O af
 have g2:¬ L=0:=(by simpa using g);have ux:Up ((E5 st).extract (I+r) (I+J)):=Bs S.perm k af λi j hi O Y=>u1 i j (LZ hi) O Y;have uy:Up ((E5 st).extract (I+J) (I+J+L)):=Bs S.perm k af λi j hi O Y=>u2 i j hi O af;have sx:((E5 st).extract (I+r) (I+J)).size=J-r:=(by rw[mU af];exact Nat.add_sub_add_left I J r);have sy:((E5 st).extract (I+J) (I+J+L)).size=L:=(by rw[mU af];exact P5 (I+J) L);have x0:K ((E5 st).extract (I+J) (I+J+L)) 0<K ((E5 st).extract (I+r) (I+J)) 0:=by
  rw[sM af af,sM af af];exact R2 (I+r) (sS _) af
 have xl:∀j,j<((E5 st).extract (I+J) (I+J+L)).size->K ((E5 st).extract (I+J) (I+J+L)) j<K ((E5 st).extract (I+r) (I+J)) (((E5 st).extract (I+r) (I+J)).size-1):=λj Y=>by
  rw[sM af af,sM af af,sx,show I+r+(J-r-1)=I+r+(J-r)-1 by omega];exact T1 j (Ln Y sy)
 refine aR (λg=>?_) (λg=>?_)
 .refine qi (wu S.kind ux uy (by rw[sx];exact Mj MB g') (by rw[sy];exact Mj MB g2) x0 xl λR SS G KC=>?_);obtain⟨z1,z2,z3,z4,z5⟩:=xi (a:=E5 st) (lo:=I+r) (mid:=I+J) (hi:=I+J+L) (Mj NB hr) af af G;refine qi (Mw (qi (NF (ql ?_))));have hf:Nn SS=none:=KC.failed.trans S.failed;have hc:E5 SS=E5 st:=KC.arr;show Q (Nn SS).isNone (QH (kindOf SS) (putAll (E5 SS) (I+r) 0 R.toList) (Kz SS) (gallopOf SS) (Nn SS));rw[hf,hc];refine h _ ⟨⟨z2.trans S.perm,KC.kind.trans S.kind,rfl⟩,λj Y=>z3 j af,λi j hi O Y=>?_,KC.pend⟩;show K (putAll (E5 st) (I+r) 0 R.toList) i<=K (putAll (E5 st) (I+r) 0 R.toList) j;have out:∀i,¬ (I+r<=i/\i<I+J+L)->K (putAll (E5 st) (I+r) 0 R.toList) i=K (E5 st) i:=λi hi=>Rz (z3 i hi);by_cases c1:i<I+r
  .rw[out i af];have ab:∀j,I+r<=j->j<I+J+nb->K (E5 st) i<=K (E5 st) j:=λj h1 h2=>by
    by_cases c:j<I+J
    .exact u1 i j hi af c
    .have U:=R1 (i-I) (OG hi c1);rw[show I+(i-I)=i by exact NZ hi]at U;exact L0 U (u2 (I+J) j (sS _) (Lb c) h2)
   by_cases N:I+r<=j/\j<I+J+L
   .obtain⟨j',q1,q2,e⟩:=z5 j N.1 N.2;rw[e];exact ab j' q1 af
   .rw[out j N];by_cases c3:j<I+r
    .exact u1 i j hi O af
    .exact ab j (Lb c3) af
  .by_cases N:i<I+J+L
   .by_cases c3:j<I+J+L
    .exact z4 i j (Lb c1) O c3
    .rw[out j (Mj not_and λa=>c3)];obtain⟨i',q1,q2,e⟩:=z5 i (Lb c1) N;rw[e];by_cases c4:i'<I+J
     .have U:=T2 j (Lb c3) af;exact L0 (u1 i' (I+r+(J-r)-1) (LZ q1) af af) U
     .exact u2 i' j (Lb c4) af af
   .rw[out i (Mj not_and λa=>N),out j af];exact u2 i j af O af
 .refine qi (vk S.kind ux uy (by rw[sx];exact Mj MB g') (by rw[sy];exact Mj MB g2) x0 xl λR SS G KC=>?_);obtain⟨z1,z2,z3,z4,z5⟩:=xi (a:=E5 st) (lo:=I+r) (mid:=I+J) (hi:=I+J+L) (Mj NB hr) af af G;refine qi (Mw (qi (NF (ql ?_))));have hf:Nn SS=none:=KC.failed.trans S.failed;have hc:E5 SS=E5 st:=KC.arr;show Q (Nn SS).isNone (QH (kindOf SS) (putAll (E5 SS) (I+r) 0 R.toList) (Kz SS) (gallopOf SS) (Nn SS));rw[hf,hc];refine h _ ⟨⟨z2.trans S.perm,KC.kind.trans S.kind,rfl⟩,λj Y=>z3 j af,λi j hi O Y=>?_,KC.pend⟩;show K (putAll (E5 st) (I+r) 0 R.toList) i<=K (putAll (E5 st) (I+r) 0 R.toList) j;have out:∀i,¬ (I+r<=i/\i<I+J+L)->K (putAll (E5 st) (I+r) 0 R.toList) i=K (E5 st) i:=λi hi=>Rz (z3 i hi);by_cases c1:i<I+r
  .rw[out i af];have ab:∀j,I+r<=j->j<I+J+nb->K (E5 st) i<=K (E5 st) j:=λj h1 h2=>by
    by_cases c:j<I+J
    .exact u1 i j hi af c
    .have U:=R1 (i-I) (OG hi c1);rw[show I+(i-I)=i by exact NZ hi]at U;exact L0 U (u2 (I+J) j (sS _) (Lb c) h2)
   by_cases N:I+r<=j/\j<I+J+L
   .obtain⟨j',q1,q2,e⟩:=z5 j N.1 N.2;rw[e];exact ab j' q1 af
   .rw[out j N];by_cases c3:j<I+r
    .exact u1 i j hi O af
    .exact ab j (Lb c3) af
  .by_cases N:i<I+J+L
   .by_cases c3:j<I+J+L
    .exact z4 i j (Lb c1) O c3
    .rw[out j (Mj not_and λa=>c3)];obtain⟨i',q1,q2,e⟩:=z5 i (Lb c1) N;rw[e];by_cases c4:i'<I+J
     .have U:=T2 j (Lb c3) af;exact L0 (u1 i' (I+r+(J-r)-1) (LZ q1) af af) U
     .exact u2 i' j (Lb c4) af af
   .rw[out i (Mj not_and λa=>N),out j af];exact u2 i j af O af
end
def Chain (xs:Array HC):Nat->List (Nat×Nat×Nat)->Nat->Prop
 |s,[],e=>s=e
 |s,(t,n,_)::r,e=>t=s/\1<=n/\j8 xs s (s+n)/\Chain xs (s+n) r e
theorem Chain.le {xs:Array HC}:∀{s:Nat}{l:List (Nat×Nat×Nat)}{e:Nat},Chain xs s l e->s+l.length<=e
 |s,[],e,h=>QV h
 |s,(t,n,p)::r,e,⟨_,h2,_,G⟩=>by
  have:=Chain.le G;rw[Kp];omega
theorem Chain.app {xs:Array HC}:∀{s:Nat}{l G:List (Nat×Nat×Nat)}{e:Nat},Chain xs s (l++G) e↔∃m,Chain xs s l m/\Chain xs m G e
 |s,[],G,e=>⟨λh=>⟨s,rfl,h⟩,λ⟨m,h1,h2⟩=>by rw[show s=m from h1];exact h2⟩
 |s,(t,n,p)::r,G,e=>by
  constructor
  .rintro⟨h1,h2,L,N⟩;obtain⟨m,I,J⟩:=Chain.app.mp N;exact⟨m,⟨h1,h2,L,I⟩,J⟩
  .rintro⟨m,⟨h1,h2,L,I⟩,J⟩;exact⟨h1,h2,L,Chain.app.mpr ⟨m,I,J⟩⟩
theorem j8.congr {xs ys:Array HC}{lo hi:Nat}(h:j8 xs lo hi) (e:∀i,lo<=i->i<hi->ys[i]?=xs[i]?):j8 ys lo hi:=λi j hi G I=>by
 rw[Rz (e i hi (MY G I)),Rz (e j (Ko hi G) I)];exact h i j hi G I
theorem Chain.congr {xs ys:Array HC}:∀{s:Nat}{l:List (Nat×Nat×Nat)}{e:Nat},Chain xs s l e->(∀i,s<=i->i<e->ys[i]?=xs[i]?)->Chain ys s l e
 |s,[],e,h,_=>h
 |s,(t,n,p)::r,e,⟨h1,h2,I,G⟩,q=>by
  have:=Chain.le G;exact⟨h1,h2,I.congr λi a b=>q i a af,G.congr λi a b=>q i (LZ a) b⟩
structure RI (a₀:Array HC) (st:K5) (lo:Nat):Prop where
 S:SI a₀ st
 ch:Chain (E5 st) 0 (Kz st).toList lo
 le:lo<=a₀.size
theorem E8 {α:Type}{l:List α}{i:Nat}(h:i+1<l.length):∃G x y I,l=G++x::y::I/\G.length=i:=by
 refine⟨l.take i,l[i],l[i+1],l.drop (i+2),?_,?_⟩
 .rw[<-Mm af, <-Mm (OU h),LQ]
 .rw[Kv];omega
theorem oQ {p:Array (Nat×Nat×Nat)}{G I:List (Nat×Nat×Nat)}{x y z:Nat×Nat×Nat}{i:Nat}(h:p.toList=G++x::y::I) (hi:G.length=i):((p.setIfInBounds i z).eraseIdxIfInBounds (i+1)).toList=G++z::I:=by
 obtain⟨l⟩:=p;subst h;subst hi;simp;rw[List.eraseIdx_append_of_length_le af];simp
theorem Cm {c:Bool}{n:Nat}(h:¬ n<=1):(if c=true then n-2-1 else n-2)+1<n:=by
 cases c
 .rw[Tg av];omega
 .rw[Th rfl];omega
theorem uF {α G:Type}{l:List α}{i:Nat}{f:α->α}{g:α->G}(h:∀x,g (f x)=g x):(l.modify i f).map g=l.map g:=by
 apply NK;intro j;rw[wh,wh,List.getElem?_modify];cases l[j]? with
 |none=>rfl
 |some x =>
  by_cases c:i=j
  .simp[c,h]
  .simp[c]
theorem Chain.same {xs:Array HC}:∀{s:Nat}{l G:List (Nat×Nat×Nat)}{e:Nat},Chain xs s l e->G.map (λx=>(x.1,x.2.1))=l.map (λx=>(x.1,x.2.1))->Chain xs s G e
 |s,[],G,e,h,q=>by
  cases G with
  |nil=>exact h
  |cons x r=>cases q
 |s,(t,n,p)::r,G,e,⟨h1,h2,S,N⟩,q=>by
  cases G with
  |nil=>cases q
  |cons x Y =>
   obtain⟨t',O,U⟩:=x;rw[LU,LU]at q;obtain⟨L,R⟩:=List.cons.inj q;obtain⟨I,J⟩:=OX L;have I:t'=t:=I;have J:O=n:=J;subst I;subst J;exact⟨h1,h2,S,N.same R⟩
theorem RI.push {a₀:Array HC}{st:K5}{lo n p:Nat}(R:RI a₀ st lo) (I:1<=n) (G:lo+n<=a₀.size) (u:j8 (E5 st) lo (lo+n)):RI a₀ (setPending st ((Kz st).push (lo,n,p))) (lo+n):=by
 refine⟨⟨R.S.perm,R.S.kind,R.S.failed⟩,?_,G⟩;show Chain (E5 st) 0 ((Kz st).push (lo,n,p)).toList (lo+n);rw[OT];exact Chain.app.mpr ⟨lo,R.ch,rfl,I,u,rfl⟩
theorem RI.last {a₀:Array HC}{st:K5}{lo:Nat}(R:RI a₀ st lo) {f:Nat×Nat×Nat->Nat×Nat×Nat}(G:∀x,((f x).1,(f x).2.1)=(x.1,x.2.1)) (i:Nat):RI a₀ (setPending st ((Kz st).modify i f)) lo:=by
 refine⟨⟨R.S.perm,R.S.kind,R.S.failed⟩,?_,R.le⟩;show Chain (E5 st) 0 ((Kz st).modify i f).toList lo;refine R.ch.same ?_;rw[Array.toList_modify];exact uF G
section
variable {prog:ti}{w:Kl}{A:KA}{E:Value->mu->Prop}{s:mu}{a₀:Array HC}
theorem jh {st:K5}{lo i:Nat}{Q:Bool->K5->Prop}(R:RI a₀ st lo) (k:Ks a₀) (hi:i+1<(Kz st).size)
  (h:∀J,RI a₀ J lo->(∀j,lo<=j->(E5 J)[j]?=(E5 st)[j]?)->(Kz J).size+1=(Kz st).size->Q true J):SJ (model prog w) A E s (mergeAt' i) Q st:=by
 obtain⟨U,x,y,l2,e,N⟩:=E8 (l:=(Kz st).toList) (i:=i) (by simpa using hi);obtain⟨G,I,O⟩:=x;obtain⟨sb,L,ab⟩:=y;have ch:=R.ch;rw[e]at ch;obtain⟨m,c1,e1,n1,u1,e2,n2,u2,c2⟩:=Chain.app.mp ch;subst e1;subst e2;have b1:=c1.le;have b2:=c2.le;have ac:=R.le;have g1:(Kz st)[i]?=some (G,I,O):=by
  rw[<-LJ,e, <-N];simp
 have g2:(Kz st)[i+1]?=some (G+I,L,ab):=by
  rw[<-LJ,e, <-N];simp
 refine zR R.S k g1 g2 n1 n2 af u1 u2 λJ M=>h J ⟨M.S,?_,R.le⟩ (λj Y=>M.out j af) ?_
 .rw[M.pend,oQ e N];refine Chain.app.mpr ⟨G,c1.congr λj _ Y=>M.out j af,rfl,PU n1,M.up,?_⟩;rw[show G+(I+L)=G+I+L by omega];exact c2.congr λj Y _=>M.out j af
 .have p1:(Kz J).toList.length=(U++(G,I+L,O)::l2).length:=(by rw[M.pend,oQ e N]);have p2:(Kz st).toList.length=(U++(G,I,O)::(G+I,L,ab)::l2).length:=(by rw[e]);simp only[Ly,E2,Kp]at p1 p2;omega
theorem x6 {st:K5}{Q:Unit->K5->Prop}(k:Ks a₀) (S:SI a₀ st) (hp:Kz st = #[]) (h2:2<=a₀.size) (h:∀O,(E5 O).Perm a₀->Nn O=none->SortedTo (E5 O) a₀.size->Q () O):SJ (model prog w) A E s sortRuns' Q st:=by
 rw[sortRuns'_eq];refine qi (NF ?_);have hsz:=S.size;have a2:(E5 st).size=a₀.size:=hsz;dsimp only;rw[hsz];refine qi (LM (K7 (I:=λx c O=>∃lo,rF (c=(none,lo)) (RI a₀ O lo) (x<=lo)) (Q:=λc O=>c=(none,a₀.size)/\RI a₀ O a₀.size) ?_ ?_ ?_) ?_)
 .rintro x c a1 ap aT ⟨lo,rfl,R,hx⟩;have ab:=R.le;refine aR (λg=>?_) (λg=>?_)
  .have g':a₀.size<=lo:=g;obtain rfl:lo=a₀.size:=af;exact ql ⟨rfl,R⟩
  have g':¬ a₀.size<=lo:=g;refine qi (zO R.S k (lo:=lo) (nrem:=a₀.size-lo) af af λm J C m1 m2 us=>?_);dsimp only;refine aR (λgm=>?_) (λgm=>?_)
  .refine qi (Pm (MX ⟨rfl,?_⟩));generalize hf:min (a₀.size-lo) (minRun' a₀.size a₀.size 0)=n;refine qi (zg C.S k (lo:=lo) (n:=n) (ok:=m) af m1 af us λac C3 ai=>?_);have U:RI a₀ ac lo:=⟨C3.S,by
    rw[C3.pend,C.pend];exact R.ch.congr λi _ hi=>(C3.pre i hi).trans (C.pre i hi),R.le⟩
   refine qi (NF ?_);cases e:(Kz ac).back? with
   |none=>exact qi (Mw (ql ⟨lo+n,rfl,U.push af af ai,af⟩))
   |some t =>
    obtain⟨s1,Y,p1⟩:=t;refine qi (LM (K7 (I:=λy c G=>rF (c=(none,())) (RI a₀ G lo) (∀j,lo<=j->(E5 G)[j]?=(E5 ac)[j]?)) (Q:=λc G=>rF (c=(none,())) (RI a₀ G lo) (∀j,lo<=j->(E5 G)[j]?=(E5 ac)[j]?)) ?_ ?_ ?_) ?_)
    .rintro y c G a0 am ⟨rfl,N,L⟩;refine qi (NF ?_);by_cases g:(Kz G).size>1
     .rw[Th g,getElem?_pos (Kz G) ((Kz G).size-2) af];refine aR (λ_=>ql ⟨rfl,N,L⟩) (λ_=>?_);exact qi (jh N k af λas R5 o5 _=>ql ⟨rfl,R5,λj hj=>(o5 j hj).trans (L j hj)⟩)
     .rw[Tg g];exact ql ⟨rfl,N,L⟩
    .exact λc G q=>q
    .exact⟨rfl,U,λ_ _=>rfl⟩
    .rintro c G ⟨rfl,N,L⟩;refine qi (Mw (qi (Mw (ql ⟨lo+n,rfl,?_,af⟩))));exact RI.push (N.last (f:=λx=>(x.fst,x.2.fst,power' a₀.size (2*s1+Y) (2*s1+Y+Y+n) a₀.size)) (λx=>rfl) _) af af (ai.congr λi h1 _=>L i h1)
  .have U:RI a₀ J lo:=⟨C.S,by
    rw[C.pend];exact R.ch.congr λi _ hi=>C.pre i hi,R.le⟩
   refine qi (NF ?_);cases e:(Kz J).back? with
   |none=>exact qi (Mw (ql ⟨lo+m,rfl,U.push af (SA (Mz ab) m2) us,RX hx m1⟩))
   |some t =>
    obtain⟨s1,Y,p1⟩:=t;refine qi (LM (K7 (I:=λy c G=>rF (c=(none,())) (RI a₀ G lo) (∀j,lo<=j->(E5 G)[j]?=(E5 J)[j]?)) (Q:=λc G=>rF (c=(none,())) (RI a₀ G lo) (∀j,lo<=j->(E5 G)[j]?=(E5 J)[j]?)) ?_ ?_ ?_) ?_)
    .rintro y c G a0 am ⟨rfl,N,L⟩;refine qi (NF ?_);by_cases g:(Kz G).size>1
     .rw[Th g,getElem?_pos (Kz G) ((Kz G).size-2) af];refine aR (λ_=>ql ⟨rfl,N,L⟩) (λ_=>?_);exact qi (jh N k af λas R5 o5 _=>ql ⟨rfl,R5,λj hj=>(o5 j hj).trans (L j hj)⟩)
     .rw[Tg g];exact ql ⟨rfl,N,L⟩
    .exact λc G q=>q
    .exact⟨rfl,U,λ_ _=>rfl⟩
    .rintro c G ⟨rfl,N,L⟩;refine qi (Mw (qi (Mw (ql ⟨lo+m,rfl,?_,RX hx m1⟩))));exact RI.push (N.last (f:=λx=>(x.fst,x.2.fst,power' a₀.size (2*s1+Y) (2*s1+Y+Y+m) a₀.size)) (λx=>rfl) _) af (SA (Mz ab) m2) (us.congr λi h1 _=>L i h1)
 .rintro c O ⟨lo,rfl,R,hx⟩;have:=R.le;obtain rfl:lo=a₀.size:=Nat.le_antisymm this hx;exact⟨rfl,R⟩
 .exact⟨0,rfl,⟨S,by rw[hp];rfl,KI _⟩,sS _⟩
 .rintro c O ⟨rfl,R⟩;dsimp only;refine qi (LM (K7 (I:=λx c J=>rF (c=(none,())) (RI a₀ J a₀.size) ((Kz J).size+x<=a₀.size)) (Q:=λc J=>rF (c=(none,())) (RI a₀ J a₀.size) ((Kz J).size<=1)) ?_ ?_ ?_) ?_)
  .rintro x c J ap aT ⟨rfl,R2,ab⟩;refine qi (NF ?_);refine aR (λg=>ql ⟨rfl,R2,g⟩) (λg=>?_);refine qi (jh R2 k ?_ λac U _ a3=>?_)
   .exact Cm g
   .exact ql ⟨rfl,U,af⟩
  .rintro c J ⟨rfl,R2,ab⟩;exact⟨rfl,R2,af⟩
  .refine⟨rfl,R,?_⟩;have:=R.ch.le;simpa using this
  .rintro c J ⟨rfl,R2,ab⟩;refine ql (h J R2.S.perm R2.S.failed ?_);have ch:=R2.ch;cases e:(Kz J).toList with
   |nil =>
    rw[e]at ch;have:0=a₀.size:=ch;omega
   |cons x r =>
    have hr:r=[]:=by
     have z:(Kz J).toList.length=r.length+1:=(by rw[e];rfl);rw[Ly]at z;exact K8.mp af
    subst hr;obtain⟨t,n,p⟩:=x;rw[e]at ch;obtain⟨_,_,u,e2⟩:=ch;have e3:0+n=a₀.size:=e2;rw[e3]at u;exact λi j aB hj=>u i j (KI _) aB hj
end
theorem FX {vs:List Value}{ns:List Int}(G:LY vs ns) (I:ns.Nodup):Ks (PV vs):=by
 refine⟨G.intKeys,?_⟩;have e:((PV vs).toList.map λp=>Mu p.1)=ns:=by
  rw[pairsOf_toList, <-G.nums]
  conv=>rhs;rw[<-Rf (l₁:=vs) (l₂:=vs) (sS _)]
  rw[Lx];rfl
 rw[e];exact I
section
variable {prog:ti}{w:Kl}{A:KA}{E:Value->mu->Prop}{s:mu}
theorem pG {a:Addr}{vs:List Value}{ns:List Int}{n:Nat}{P:Fin->mu->Prop}(R:s.heap.get? a=some (seqObj "list" vs.toArray n)) (S:LY vs ns) (hn:ns.Nodup) (hz:vs.length<=1000)
  (k:∀(out:Array Value) (ns':List Int),LY out.toList ns'->ns'.Perm ns->ns'.Pairwise (· <= ·)->P (.done (.ret .none)) { s with heap:=sortedHeap s.heap a vs out }):wpAny (model prog w) A (Builtin.«list.sort» ⟨[.ref a],[]⟩) P E s:=by
 have lz:sizeLine=16777216:=BY;rw[list_sort_plain];have lt:=Heap.lt_size R;refine oR (listItems_at R rfl (oR (Qy R rfl ?_ (by simp only[qj];omega))));obtain⟨ep,Y⟩:∃ep,(s.heap.update a (Obj.mapSeq λ_ => #[])).get? a=some (seqObj "list" #[] ep):=⟨_,get?_update_seq R λ_ => #[]⟩;refine oR (Rn Y rfl (oR (wpAny_newTuple (oR (O8 (LS ?_))))));have at2:(((s.heap.update a (Obj.mapSeq λ_ => #[])).push (seqObj "tuple" vs.toArray 0)).push (seqObj "list" #[] 0)).get? a=some (seqObj "list" #[] ep):=by
  have l1:a<((s.heap.update a (Obj.mapSeq λ_ => #[])).push (seqObj "tuple" vs.toArray 0)).objs.size:=(by rw[RY,Heap.size_update];exact N1 lt);rw[Heap.get?_push_ne _ _ _ (KN l1),Heap.get?_push_ne _ _ _ (by rw[Heap.size_update];exact KN lt)];exact Y
 have done:∀G:K5,(E5 G).Perm (PV vs)->SortedTo (E5 G) (PV vs).size->P (.done (.ret .none)) { s with heap:=sortedHeap s.heap a vs ((E5 G).map (·.2)) }:=λG N O=>by
  obtain⟨ns',w1,w2,w3⟩:=sorted_out S N O;exact k _ ns' w1 w2 w3
 show wpAny (model prog w) A _ P E { s with heap:=((s.heap.update a (Obj.mapSeq λ_ => #[])).push (seqObj "tuple" vs.toArray 0)).push (seqObj "list" #[] 0) };dsimp only;by_cases L:vs.toArray.size<2
 .rw[Th L,Th L];refine oR (By ?_);rw[StateT.run_pure];refine oR (By (oR (Rn at2 rfl (oR (Qy at2 rfl ?_ (KI _) ?_)))))
  .simp only[bne_self_eq_false,LP,if_false];refine By (done (QH general' (vs.toArray.zip vs.toArray) #[] 7 none) (Rr _) λi j ab hj=>?_);rw[PX]at hj;rw[qj]at L;rw[show i=j by omega];exact Lo _
  .show(Array.map (λx:HC=>x.2) (vs.toArray.zip vs.toArray)).size<=sizeLine+1;rw[RZ];show(PV vs).size<=sizeLine+1;rw[PX];omega
 .rw[Tg L,Tg L];rw[qj]at L;obtain⟨J,v2,I,rfl⟩:∃J v2 I,vs=J::v2::I:=by
   match vs,L with
   | [],z=>exact absurd av z
   | [_],z=>exact absurd (by rw[Lr];decide) z
   |J::v2::I,_=>exact⟨J,v2,I,rfl⟩
  rw[keyKind_ints S];have sr:=x6 (prog:=prog) (w:=w) (A:=A) (E:=E) (s:={ s with heap:=((s.heap.update a (Obj.mapSeq λ_ => #[])).push (seqObj "tuple" (J::v2::I).toArray 0)).push (seqObj "list" #[] 0) }) (FX S hn)
   (st:=QH Nm (PV (J::v2::I)) #[] 7 none) (Q:=λ_ G=>rF ((E5 G).Perm (PV (J::v2::I))) (Nn G=none) (SortedTo (E5 G) (PV (J::v2::I)).size)) ⟨Rr _,rfl,rfl⟩ rfl (by rw[PX];exact P7 rfl) λG N O U=>⟨N,O,U⟩
  refine oR (By (oR (Nv sr ?_ λ_ _ e=>e)));rintro⟨⟨⟩,G⟩ s' ⟨rfl,N,O,U⟩;dsimp only;refine oR (Rn at2 rfl (oR (Qy at2 rfl ?_ (KI _) ?_)))
  .rw[O];simp only[bne_self_eq_false,LP,if_false];exact By (done G N U)
  .show(Array.map (λx:HC=>x.2) (E5 G)).size<=sizeLine+1;rw[RZ,N.size_eq,PX];omega
theorem uh {l:Addr}{vs:List Value}{ns:List Int}{Q:Value->mu->Prop}(R:s.heap.IsList l vs.toArray) (J:LY vs ns) (O:ns.Nodup) (U:vs.length<=1000)
  (k:∀(out:Array Value) (ns':List Int),LY out.toList ns'->ns'.Perm ns->ns'.Pairwise (· <= ·)->Q (.ref (s.heap.objs.size+1)) { s with heap:=sortedAll s.heap vs out }):wpAny (model prog w) A (call (.builtin "sorted") [.ref l]) Q E s:=by
 have Y:sizeLine=16777216:=BY;refine Calls.call_function_entry Ro Q6 Q7 (args_sorted1 _) ?_;refine oR (m:=R0 "sorted" 1 1 _) (By (oR (collect_list R (oR (O8 ?_)) af)));have I:((s.heap.push (seqObj "list" #[] 0)).update s.heap.objs.size (Obj.mapSeq (· ++ vs.toArray))).objs.size=s.heap.objs.size+1:=(by rw[Heap.size_update,RY]);have G:=Heap.get?_push_size ((s.heap.push (seqObj "list" #[] 0)).update s.heap.objs.size (Obj.mapSeq (· ++ vs.toArray))) (o:=seqObj "list" vs.toArray 0) rfl;rw[I]at G;show wpAny _ _ _ _ _ { s with heap:=((s.heap.push (seqObj "list" #[] 0)).update s.heap.objs.size (Obj.mapSeq (· ++ vs.toArray))).push (seqObj "list" vs.toArray 0) };rw[I];refine oR (LS (Nc Qk ⟨_,G,rfl⟩ P1 (pG G J O U λout ns' N L S=>⟨_,rfl,By ⟨_,rfl,k out ns' N L S⟩⟩) (args_list_sort _)))
end
end Srt
namespace L2
open PySem PySem.Spec PyProof.Rows
def pP (X:Cx) (G:List Str) (scope:N3) (cl:List (Str×Addr)) (C:Addr) (s₀:mu) (H₀:Hp) (ex:List Addr):Cx where
 prog:=X.prog
 w:=X.w
 K:=X.K
 mg:=X.mg
 base:=X.base
 A:=X.A
 N:=G
 s₀:=s₀
 H₀:=H₀
 env:=Sa scope cl C X.env
 outer:=X.stack
 stack:=X.stack
 ex:=ex
 fn:=λ_=>false
 calm:=X.calm
 pn:=[]
 xe:=λ_ _=>False
def gg (t:Str) (caps:List (Str×Nat)):List Str:=t::caps.map (·.1)
def fL (caps:List (Str×Nat)) (σ:St) (v:Option V):St:=v::caps.map λp=>(σ[p.2]?).join
structure jL (X:Cx) (scope:N3) (cl:List (Str×Addr)) (t:Str) (caps:List (Str×Nat)):Prop where
 kind:scope.kind=.function
 Fo:∀y∈scope.names,y.2≠.cell
 names:∀y∈scope.names,y.2=.local->scope.names.lookup y.1=some .local
 JY:scope.names.lookup t=some .local
 F4:closureFor scope X.env=pure cl
 sub:∀p∈cl,X.env.cells.lookup p.1=some p.2
 has:((relabel scope X.env).names.all λy => !(y.2 == .cell||y.2 == .free)||(cl.lookup y.1).isSome)=true
 J6:∀p∈caps,X.N[p.2]?=some p.1/\(X.env.kindOf p.1=some .cell\/X.env.kindOf p.1=some .free)/\((relabel scope X.env).names.lookup p.1=some .cell\/(relabel scope X.env).names.lookup p.1=some .free)
 nd:(gg t caps).Nodup
section
variable {X:Cx}{scope:N3}{cl:List (Str×Addr)}{t:Str}{caps:List (Str×Nat)}{pins:List (Addr×Obj)}{σ:St}{H:Hp}{s:mu}{C:Addr}{fp:List Addr}
theorem jL.look (K:jL X scope cl t caps) {x:Str}{c:Addr}(h:cl.lookup x=some c):X.env.cells.lookup x=some c:=K.sub (x,c) (LH h)
theorem jL.hs (K:jL X scope cl t caps) {x:Str}(h:(relabel scope X.env).names.lookup x=some .cell\/(relabel scope X.env).names.lookup x=some .free):∃c,cl.lookup x=some c:=by
 have G:∀k,(relabel scope X.env).names.lookup x=some k->(k==NameKind.cell||k==NameKind.free)=true->∃c,cl.lookup x=some c:=λk e I=>by
  have:=KH.mp K.has (x,k) (LH e);dsimp only at this;rw[I]at this;exact Nl.mp (by simpa using this)
 rcases h with h|h
 .exact G _ h rfl
 .exact G _ h rfl
theorem HZ (I:Inv X pins σ H s) (K:jL X scope cl t caps) (J:∀b∈fp,gf X pins H b) (O:∀b∈fp,b<s.heap.objs.size) (L:s.heap.objs.size<=C):(pP X (gg t caps) scope cl C s H fp).Ok where
 mod:=I.ok.mod
 kind:=K.kind
 glob:=I.ok.glob
 blt:=I.ok.blt
 above:=L
 inj:=λx y c h1 h2=>I.ok.inj x y c (K.look h1) (K.look h2)
 has:=λx R=>K.hs R
 Fv:=λx c h=>nomatch (show false=true from h)
 hd:=I.ok.hd
 frames:=I.ok.frames
 Ha:=.inl rfl
 Ij:=λb G=>⟨KN (Kw (O b G) L),λx c e=>(J b G).2.2.2.2.1 x c (K.look e)⟩
 bs:=I.bs
 AE:=Ko I.ok.AE I.sz
 xR:=λb o e G=>by
  rcases(J b G).2.2.2.1 with z|z
  .exact I.ok.xR b o e z
  .exact absurd (Kw (Heap.lt_size e) (Ko I.ok.AE z)) (ML _)
 yN:=λb G N=>by
  rcases E3.mp (I.pI b N)with e|e
  .exact(J b G).2.1 e
  .exact(J b G).2.2.1 e
 kg:=I.stack
 Dj:=I.xj
theorem Ji {O:Heap}{m:Str->Option Value}{tk:Nat}(I:Inv X pins σ H s) (K:jL X scope cl t caps) (hf:∀b∈fp,gf X pins H b) (ho:∀b∈fp,b<s.heap.objs.size) (hC:s.heap.objs.size<=C)
  (R:∀b o,s.heap.get? b=some o->O.get? b=some o) (ns:O.Ns C m):Inv (pP X (gg t caps) scope cl C s H fp) [] (fL caps σ none) H { s with heap:=O,toks:=tk }:=by
 have ac:∀c v,s.heap.IsCell c v->O.IsCell c v:=λc v am=>(by obtain⟨o,e,d⟩:=am;exact⟨o,R c o e,d⟩);refine⟨HZ I K hf ho hC,rfl,I.bare,Un.kept R,⟨m,ns,λi x v e1 Y e3=>?_⟩,λx c e=>?_,I.bE.fresh hC,λx c e=>I.gK x c (K.look e),λp L=>absurd (show p∈([]:List (Addr×Obj))from L) (by simp),I.bE.kept R,by simp[fL,gg,pP]⟩
 .cases i with
  |zero =>
   have G:some (none:Option V)=some (some v):=Y;cases G
  |succ j =>
   have J:(caps.map (·.1))[j]?=some x:=e1;have G:(caps.map λp=>(σ[p.2]?).join)[j]?=some (some v):=Y;rw[wh]at J G;cases L:caps[j]? with
   |none=>rw[L]at J;cases J
   |some p =>
    rw[L]at J G;have ex:p.1=x:=ro J;have N:(σ[p.2]?).join=some v:=ro G;have ai:σ[p.2]?=some (some v):=by
     cases q:σ[p.2]? with
     |none=>rw[q]at N;cases N
     |some z=>rw[q]at N;exact congrArg some N
    obtain⟨hN,S,ab⟩:=K.J6 p (DD L);subst ex;obtain⟨m',_,hl⟩:=I.loc;have ap:HW X.env.scope p.1:=by
     rcases S with z|z
     .exact .inr (.inl z)
     .exact .inr (.inr z)
    obtain⟨u,r,l⟩:=hl p.2 p.1 v hN ai ap;obtain⟨c,hc⟩:=K.hs ab;rcases l with⟨z,_⟩|⟨_,c',U,as⟩
    .rcases S with y|y<;>(rw[y]at z;cases z)
    .rw[K.look hc]at U;cases U;exact⟨u,r,.inr ⟨ab,c,hc,ac c _ as⟩⟩
 .obtain⟨v,z⟩:=I.cell x c (K.look e);exact⟨v,ac c v z⟩
theorem Inv.Ho {D:Addr}{ys:List V}{its:List Value}{n:Nat}(I:Inv X pins σ H s) (f:gf X pins H D) (e:s.heap.get? D=some { cls:=.type "list",data:=.seq its.toArray n }) (r:Vals ys its) (U:ys.length<=sizeLine) :
  Inv X pins σ (upd H D (.lst ys)) s:=by
 obtain⟨J,O,f2,R,S,Y⟩:=f;obtain⟨N,g,d,tk,os⟩:=s;refine I.step (g':=g) (d':=d) (t':=tk) (h':=N) (ch:=[D]) (λb G=>?_) (λb o _ _ _ e _=>e) (λb o _ _ _ e _=>⟨o.slots,e⟩) (λb o G _ n=>?_) (λb o _ e=>⟨o,e⟩) (λb xs q=>?_) (λb o u q=>?_) (λb ps q=>⟨#[],?_⟩) (λm L=>L) (λb u q=>?_) I.bare
 .have z:b=D:=(by simpa using G);subst z;exact⟨R,O,S,Y⟩
 .rw[ah (λz=>G (by simp[z]))];exact n
 .rw[ah (au q J)];exact q
 .rw[ah (au q J)];exact q
 .rw[ah (au q J),q];simp
 .by_cases G:b=D
  .subst G;rw[ae]at q;cases q;exact⟨U,its,n,r,e⟩
  .rw[ah G]at q;exact(I.bE b u q).lQ (λ_ _ _ z=>z) (λc z=>by rw[ah (au z J)];exact z) λc xs z=>by rw[ah (au z J)];exact z
end
def Ib (X:Cx) (ifs:List KJ) (t:TT):Prop :=
 ∀(pins:List (Addr×Obj)) (s:mu) (σ:St) (H:Hp) (Q:Bool->Hp->Prop),Inv X pins σ H s->t σ H Q ->
  wpAny (model X.prog X.w) X.A (forIn ifs true λc r=>if r=true then do let ok <-isTrue c X.env (eval c X.env);pure (Rt ok)else pure (Rt r)) (TP X pins σ Q) X.xe s
def nX:TT:=λ_ H Q=>Q true H
theorem fj {X:Cx}:Ib X [] nX:=λ_ _ _ H _ I h=>wpAny_tests_nil ⟨H,I,h⟩
def ic (caps:List (Str×Nat)) (tt:TT) (te:TE) (σ:St) (J:It) (Q:List V->Hp->Prop) (W:Nat->Nat->List V->Hp->Prop):Prop :=
 ∀i m ys H,W i m ys H->(J.stop i H/\Q ys H)\/(J.go i H/\∃N:List V->Hp->Prop,(∀I H',N I H'->∃G,G<m/\W (i+1) G I H')/\∀x H',J.Cg i H x H'->tt (fL caps σ (some x)) H' λb H2 =>
  if b=true then te (fL caps σ (some x)) H2 (λy L=>ys.length<sizeLine/\N (ys++[y]) L)else N ys H2)
def Dx (caps:List (Str×Nat)) (wi:TI) (tt:TT) (te:TE):TE:=λσ H Q=>wi σ H λJ H1 =>
 ∃W:Nat->Nat->List V->Hp->Prop,(∃m,W 0 m [] H1)/\ic caps tt te σ J (λys H2=>∀p,H2 p=none->Q (.ref p) (upd H2 p (.lst ys))) W
section
variable {X:Cx}{scope:N3}{cl:List (Str×Addr)}{t:Str}{caps:List (Str×Nat)}{elt iter:KJ}{ifs:List KJ}{px pos:Nj}{wi:TI}{tt:TT}{te:TE}
theorem nE {pins:List (Addr×Obj)}{σ:St}{H:Hp}{s:mu}{J:It}{fp:List Addr}{it:Addr}{tn:Nat->Heap->Prop}{W:Nat->Nat->List V->Hp->Prop}{QE:List V->Hp->Prop}{E:Value->mu->Prop}{RR:Value->Addr->Result->mu->Prop}{m0:Nat}
  (K:jL X scope cl t caps) (hc:X.calm=true)
  (ht:∀C s₀ H₀ ex,Ib (pP X (gg t caps) scope cl C s₀ H₀ ex) ifs tt) (he:∀C s₀ H₀ ex,PE (pP X (gg t caps) scope cl C s₀ H₀ ex) elt te)
  (I:Inv X pins σ H s) (T:Turn X.prog X.w X.K (.Name t px) J fp it tn) (st:tn 0 s.heap) (U:∀b∈fp,gf X pins H b) (w0:W 0 m0 [] H) (hW:ic caps tt te σ J QE W)
  (b5:∀D C ys H' s' m,H' D=none->Inv X pins σ (upd H' D (.lst ys)) s'->s'.heap.Ns C m->gf X pins (upd H' D (.lst ys)) C->QE ys H'->RR (.ref D) C (.ok .next) s') :
  wpAny (model X.prog X.w) X.A (newList []) (λba ac=>wpAny (model X.prog X.w) X.A (newFunctionEnv scope X.env.globals cl [] X.env.qual none .none (some X.env)) (λbi bI =>
   Oh (model X.prog X.w) X.A (.compStart (.ListComp elt [⟨.Name t px,iter,ifs,0⟩] scope pos) 0 (.ref it) ba { bi with scope:=relabel scope X.env }) (RR ba bi.locals) bI) E ac) E s:=by
 refine Mh (Ql K.Fo (by intro y hy;simp at hy) (λai aB ap=>?_) K.kind);dsimp only at aB ap ⊢;generalize a5:s.heap.push { cls:=.type "list",dict:=none,data:=.seq ([]:List Value).toArray }=H2 at aB ap ⊢;have hC:H2.objs.size=s.heap.objs.size+1:=(by rw[<-a5,Heap.size_push]);have am:s.heap.objs.size≠H2.objs.size:=(by rw[hC];exact KN (NS _));have a6:s.heap.objs.size<=H2.objs.size:=(by rw[hC];exact Oi _);have below:∀b,b<s.heap.objs.size->b≠H2.objs.size:=λb G=>(by rw[hC];exact KN (N1 G));have bm:∀b o,s.heap.get? b=some o->ai.get? b=some o:=λb o e=>ap.extBut b o (below b (Heap.lt_size e)) (Heap.get?_push_of_some _ (a5▸Heap.get?_push_of_some _ e));have b7:ai.get? s.heap.objs.size=some { cls:=.type "list",data:=.seq ([]:List Value).toArray }:=ap.extBut _ _ am (Heap.get?_push_of_some _ (a5▸Heap.get?_push_size _ rfl));have ho:∀b∈fp,b<s.heap.objs.size:=λb G=>let ⟨_,e,_⟩:=T.obj 0 _ st b G;Heap.lt_size e;have bd:s.heap.objs.size∉fp:=λhm=>ML _ (ho _ hm);have bn:tn 0 ai:=T.keep 0 _ _ st λb _ o e=>bm b o e;have b0:s.heap.objs.size∉yY X.stack:=λz=>by
  rcases E3.mp (I.pI _ z)with e|e
  .exact absurd (e▸I.lt) (ML _)
  .exact I.Hg (sS _) e
 have bA:∀x c,cl.lookup x=some c->c≠s.heap.objs.size:=λx c e z=>by
  obtain⟨v,q⟩:=I.cell x c (K.look e);exact absurd (z▸q.lt) (ML _)
 have as:∀{pl:List (Addr×Obj)}{L:Hp},(∀b∈fp,L b=none)->(∀p∈pl,p.1∉fp)->∀b∈fp,gf (pP X (gg t caps) scope cl H2.objs.size s H fp) pl L b:=λ{pl L} hn S b G =>
  ⟨hn b G,below b (ho b G),(HZ I K U ho a6).yN b G,.inl G,λx c e=>(U b G).2.2.2.2.1 x c (K.look e),λp ca z=>by
   have b6:p∈pl:=ca;exact S p b6 (z▸G)⟩
 have be:∀ac:mu,ac={ s with heap:=ai,toks:=s.toks+([]:List (Str×Value)).length } ->
   Oh (model X.prog X.w) X.A (.compLoop (.ListComp elt [⟨.Name t px,iter,ifs,0⟩] scope pos) 0 (.ref it) (.ref s.heap.objs.size) (Sa scope cl H2.objs.size X.env)) (RR (.ref s.heap.objs.size) H2.objs.size) ac:=by
  rintro ac rfl;refine codeAny_loop rfl (λn s'=>∃i ys its O L v0,Inv (pP X (gg t caps) scope cl H2.objs.size s H fp) [] (fL caps σ v0) L s'/\tn i s'.heap/\(∀b∈fp,L b=none)/\L s.heap.objs.size=none /\
   s'.heap.get? s.heap.objs.size=some { cls:=.type "list",data:=.seq its.toArray O }/\Vals ys its/\ys.length<=sizeLine/\W i n ys L) (λn s' hI=>?_) m0
   ⟨0,[],[],0,H,none,Ji I K U ho a6 bm aB,bn,λb G=>(U b G).1,I.bE.fresh (sS _),b7,.nil,KI _,w0⟩
  obtain⟨i,ys,its,O,L,v0,I3,bb,bc,a0,e3,r3,z3,w3⟩:=hI;show wpAny _ X.A ((compTurn (.ListComp elt [⟨.Name t px,iter,ifs,0⟩] scope pos) 0 (.ref it) (.ref s.heap.objs.size) (Sa scope cl H2.objs.size X.env)).onRaise (λx=>do noteFrame x (Sa scope cl H2.objs.size X.env);theTreesLotGoes x)) _ _ s';refine wpAny_noted ?_;rw[compTurn_list];have bv:Inv (pP X (gg t caps) scope cl H2.objs.size s H fp) [(s.heap.objs.size, { cls:=.type "list",data:=.seq its.toArray O })] (fL caps σ v0) L s':=I3.lM λp S=>by
   have ep:p=(s.heap.objs.size, { cls:=.type "list",data:=.seq its.toArray O }):=(by simpa using S);subst ep;exact⟨e3,a0,am,b0,λv z=>by cases(show SU its.toArray O=NR v from z)⟩
  have pD:∀p∈[((s.heap.objs.size:Addr),({ cls:=.type "list",data:=.seq its.toArray O }:Obj))],p.1∉fp:=λp S=>by
   have ep:p=(s.heap.objs.size, { cls:=.type "list",data:=.seq its.toArray O }):=(by simpa using S);subst ep;exact bd
  rcases hW i n ys L w3 with⟨b3,q⟩|⟨go,N,hN,step⟩
  .refine oR (NX (oR (bT (T.done (pP X (gg t caps) scope cl H2.objs.size s H fp) rfl rfl rfl hc i _ s' _ L _ bv (as bc pD) bb b3) λr s4 bz=>?_)));obtain⟨hr,Y⟩:=bz;subst hr;refine By ?_;have I5:Inv X pins σ L s4:=I.FZ (ch:=fp) Y.os Y.base Y.bE Y.bare λb G=>⟨(U b G).2.2.2.1,(U b G).2.1,(U b G).2.2.2.2.1,(U b G).2.2.2.2.2⟩;have e4:=(Y.pin _ (KL _ KW)).1;have fD:gf X pins L s.heap.objs.size:=I.jy (sS _) a0;have I6:=I5.Ho fD e4 r3 z3;obtain⟨m,hn,_⟩:=Y.loc;refine b5 _ _ ys L s4 m a0 I6 hn (I.jy a6 ?_) q;rw[ah (qw am)];exact Y.free
  .refine oR (NX (oR (bT (T.item (pP X (gg t caps) scope cl H2.objs.size s H fp) rfl rfl rfl hc i _ s' _ L _ bv (as bc pD) bb go) λr s4 b8=>?_)));obtain⟨u,hr,h4⟩:=b8;subst hr;refine oR (bT h4 λ_ s5 b2=>?_);obtain⟨x,H5,I5,r5,y5,a7,cc⟩:=b2;have ce:=(I5.pin _ (KL _ KW)).2.1;have b1:=I5.pinned (as cc pD) (T.obj _ _ a7);have Bz:∀{α:Type}{tr:QP α}{Q:α->mu->Prop}{E':Value->mu->Prop}{R:mu},wpAny (model X.prog X.w) X.A tr Q (λ_ _=>False) R->wpAny (model X.prog X.w) X.A tr Q E' R:=λh=>Nv h (λ_ _ z=>z) λ_ _ z=>z.elim;refine oR (ON (gO (X:=pP X (gg t caps) scope cl H2.objs.size s H fp) (i:=0) (x:=t) b1 K.nd rfl (.inl (Qm K.JY)) r5 (λs6 I6=>?_) (.inr (Qm K.JY))));have e0:(fL caps σ v0).set 0 (some x)=fL caps σ (some x):=rfl;rw[e0]at I6;refine oR (Bz (bT (ht _ _ _ _ _ s6 _ H5 _ I6 (step x H5 y5)) λok s7 b4=>?_));obtain⟨H7,I7,q7⟩:=b4;have bl:∀{ab:St}{H':Hp}{R:mu},Inv (pP X (gg t caps) scope cl H2.objs.size s H fp) ([(s.heap.objs.size, { cls:=.type "list",data:=.seq its.toArray O })]++nu fp s5.heap) ab H' R ->
     R.heap.get? s.heap.objs.size=some { cls:=.type "list",data:=.seq its.toArray O }/\H' s.heap.objs.size=none/\tn (i+1) R.heap/\(∀b∈fp,H' b=none):=λ{ab H' R} Ix=>by
    have a:=Ix.pin _ (KL _ (Lp _ KW));refine⟨a.1,a.2.1,T.keep _ _ _ a7 λb G o e=>(Ix.pin (b,o) (KL _ (KL _ (gz G e)))).1,λb G=>?_⟩;obtain⟨o,e,d⟩:=T.obj _ _ a7 b G;exact(Ix.pin (b,o) (KL _ (KL _ (gz G e)))).2.1
   have bare:∀{pl:List (Addr×Obj)}{ab:St}{H':Hp}{R:mu},Inv (pP X (gg t caps) scope cl H2.objs.size s H fp) pl ab H' R->Inv (pP X (gg t caps) scope cl H2.objs.size s H fp) [] ab H' R:=λIx=>Ix.lM λp S=>absurd S (by simp);cases ok with
   |false =>
    rw[Tg DO]at q7;obtain⟨m',hm,w7⟩:=hN _ _ q7;obtain⟨a1,a2,a3,a4⟩:=bl I7;exact By ⟨rfl,m',hm,i+1,ys,its,O,H7,some x,bare I7,a3,a4,a2,a1,r3,z3,w7⟩
   |true =>
    rw[Th rfl]at q7;refine oR (oR (Bz (bT (he _ _ _ _ _ s7 _ H7 _ I7 q7) λy s8 bY=>?_)));obtain⟨yv,H8,I8,r8,bx,n8⟩:=bY;obtain⟨m',hm,w8⟩:=hN _ _ n8;obtain⟨a1,a2,a3,a4⟩:=bl I8;have ci:=r3.length;refine oR (Nx F.slot_list_append ⟨_,a1,rfl⟩ F.entry_list_append (F.args_list_append_2 _ _) (list_append s.heap.objs.size its.toArray O y (by rw[qj];omega)) ⟨a1,?_⟩);obtain⟨aT,q⟩:∃aT:Nat,(s8.heap.update s.heap.objs.size (Obj.mapSeq (·.push y))).get? s.heap.objs.size=some { cls:=.type "list",data:=.seq (its++[y]).toArray aT }:=by
     have q:=NT a1 (·.push y);have ea:its.toArray.push y=(its++[y]).toArray:=(by simp);rw[ea]at q;exact⟨_,q⟩
    have I9:Inv (pP X (gg t caps) scope cl H2.objs.size s H fp) [] (fL caps σ (some x)) H8 { s8 with heap:=s8.heap.update s.heap.objs.size (Obj.mapSeq (·.push y)) }:=
     (bare I8).turned (t':=s8.toks) (λb o G e=>(Heap.get?_update_other _ _ (qw G)).trans e) a2 am (.inr (sS _)) bA (λp S=>absurd (show p∈([]:List (Addr×Obj))from S) (by simp))
    refine By (By ⟨rfl,m',hm,i+1,ys++[yv],its++[y],aT,H8,some x,I9,T.keep _ _ _ a3 λb G o e=>(Heap.get?_update_other _ _ (show s.heap.objs.size≠b from λz=>bd (by rw[z];exact G))).trans e,a4,a2,q,r3.append (.cons r8 .nil),?_,w8⟩)
    .rw[E2,Lr];exact PySem.W.kdl_size bx
 exact codeAny_compStart_list (be _ rfl) (T.self _ 0 _ _ _ bn (be _ rfl))
theorem gD (K:jL X scope cl t caps) (Y:X.calm=true) (hi:PI X (.Name t px) iter wi)
  (ht:∀C s₀ H₀ ex,Ib (pP X (gg t caps) scope cl C s₀ H₀ ex) ifs tt) (S:∀C s₀ H₀ ex,PE (pP X (gg t caps) scope cl C s₀ H₀ ex) elt te)
  (hs:∀x,OQ iter X.env x=pure x:=by intro _;rfl):PE X (.ListComp elt [⟨.Name t px,iter,ifs,0⟩] scope pos) (Dx caps wi tt te):=by
 intro pins s σ H Q I h;rw[eval_ListComp];refine Pa (use:=none) rfl hs K.F4 K.kind K.names (bT (hi pins s σ H _ I h) λv s1 h1=>bT h1 λac s2 h2=>?_);obtain⟨it,fp,tn,J,H2,e,L,T,ab,G,W,⟨m0,w0⟩,hW⟩:=h2;subst e;refine nE (RR:=λR C=>compPost (model X.prog X.w) X.A X.xe none (EP X pins σ Q) R C) K Y ht S L T ab G w0 hW ?_;intro D C ys H' s' m U I' hn hC q;refine⟨m,hn,λh' O=>?_⟩;obtain⟨c0,c1,c2,c3,N,c5⟩:=hC;exact⟨.ref D,_,I'.turned (t':=s'.toks) (λb o hb e=>(O.2 b hb).trans e) c0 c1 c3 N c5,rfl,q D U⟩
theorem Ce {i:Nat}{y:Str}{G R:Nj}(hN:X.N.Nodup) (as:X.N[i]?=some y) (hy:Loc X.env.scope y) (K:jL X scope cl t caps) (hc:X.calm=true) (hi:PI X (.Name t px) iter wi)
  (ht:∀C s₀ H₀ ex,Ib (pP X (gg t caps) scope cl C s₀ H₀ ex) ifs tt) (he:∀C s₀ H₀ ex,PE (pP X (gg t caps) scope cl C s₀ H₀ ex) elt te)
  (ac:Pe (.ListComp elt [⟨.Name t px,iter,ifs,0⟩] scope pos) (some (.Name y G)) R.line X.env=pure true:=by rfl)
  (hs:∀x,OQ iter X.env x=pure x:=by intro _;rfl) (hf:X.fn y=true\/X.env.scope.names.lookup y=some .local:=by first|exact .inl rfl|exact .inr rfl|assumption) :
  PS X (.Assign [.Name y G] (.ListComp elt [⟨.Name t px,iter,ifs,0⟩] scope pos) R) (zi (Dx caps wi tt te) (ma i)):=by
 intro pins s σ H D I h;rw[exec_Assign_Name_used _ _ _ _ ac];refine oR (NX (oR ?_));show wpAny _ X.A (do let _ <-comprehension (.ListComp elt [⟨.Name t px,iter,ifs,0⟩] scope pos) scope X.env _ (newList []) false (eval iter X.env) (some (QB (.Name y G) X.env))) _ _ s;refine oR (bT (Pa (use:=some (QB (.Name y G) X.env)) (Q:=λ_ s'=>SP X pins D .next s') rfl hs K.F4 K.kind K.names
  (bT (hi pins s σ H _ I h) λv s1 h1=>bT h1 λaT s2 h2=>?_)) λ_ s' hq=>By (By hq))
 obtain⟨it,fp,tn,J,H2,e,I2,T,aB,f2,W,⟨m0,w0⟩,hW⟩:=h2;subst e;refine nE (RR:=λai C=>compPost (model X.prog X.w) X.A X.xe (some (QB (.Name y G) X.env)) (λ_ s'=>SP X pins D .next s') ai C) K hc ht he I2 T aB f2 w0 hW ?_;intro L C ys H' s' m hD I' hn hC q;obtain⟨c0,S,c2,c3,O,c5⟩:=hC;show wpAny _ X.A (QB (.Name y G) X.env (.ref L)) _ _ s';refine ON (oY (v:=.ref L) I' hN as hy rfl (λs3 Y U=>?_) hf);obtain⟨a,am,ha⟩:=U;have ap:C≠a:=by
  rcases ha with z|z
  .rw[z];exact S
  .exact λw=>O y a z w.symm
 refine⟨m,hn.sameBut am ap,λh' ab=>?_⟩;exact⟨_,_,Y.turned (t':=s3.toks) (λb o hb e=>(ab.2 b hb).trans e) c0 S c3 O c5,q L hD⟩
end
theorem vS {caps:List (Str×Nat)}{tt:TT}{te:TE}{σ:St}{H:Hp}{lo:Int}{n:Nat}{I:List V->Hp->Prop}(Pv:Nat->List V->Hp->Prop) (J:Pv 0 [] H)
  (hs:∀i ys H,i<n->Pv i ys H->tt (fL caps σ (some (.int (lo+i)))) H λb H2=>if b=true then te (fL caps σ (some (.int (lo+i)))) H2 (λy N=>ys.length<sizeLine/\Pv (i+1) (ys++[y]) N)else Pv (i+1) ys H2)
  (hd:∀ys H,Pv n ys H->I ys H):∃W:Nat->Nat->List V->Hp->Prop,(∃m,W 0 m [] H)/\ic caps tt te σ (BQ lo n) I W:=by
 refine⟨λi m ys H=>m=n-i/\i<=n/\Pv i ys H,⟨n,by simp,KI _,J⟩,?_⟩;rintro i m ys H ⟨rfl,hi,p⟩;by_cases G:i<n
 .refine .inr ⟨G,Pv (i+1),λO H' L=>⟨n-(i+1),Lf n i G,rfl,G,L⟩,λx H' y=>?_⟩;obtain⟨e,y⟩:=y;subst e y;exact hs i ys _ G p
 .have e:i=n:=af;subst e;exact .inl ⟨sS _,hd ys H p⟩
theorem yU {K:Kq}{a:Addr}{xs:List V}{caps:List (Str×Nat)}{tt:TT}{te:TE}{σ:St}{H:Hp}{I:List V->Hp->Prop}(Pv:Nat->List V->Hp->Prop) (J:Pv 0 [] H) (O:∀i ys H,i<=xs.length->Pv i ys H->bq K H a xs)
  (hs:∀i x ys H,xs[i]?=some x->Pv i ys H->tt (fL caps σ (some x)) H λb H2=>if b=true then te (fL caps σ (some x)) H2 (λy N=>ys.length<sizeLine/\Pv (i+1) (ys++[y]) N)else Pv (i+1) ys H2)
  (hd:∀ys H,Pv xs.length ys H->I ys H):∃W:Nat->Nat->List V->Hp->Prop,(∃m,W 0 m [] H)/\ic caps tt te σ (DX K a) I W:=by
 refine⟨λi m ys H=>m=xs.length-i/\i<=xs.length/\Pv i ys H,⟨xs.length,by simp,KI _,J⟩,?_⟩;rintro i m ys H ⟨rfl,hi,p⟩;have q:=O i ys H hi p;by_cases G:i<xs.length
 .refine .inr ⟨⟨xs,xs[i],q,by simp[G]⟩,Pv (i+1),λR H' L=>⟨xs.length-(i+1),Lf (LI xs) i G,rfl,G,L⟩,λx H' y=>?_⟩;obtain⟨e,y⟩:=y;subst e;exact hs i x ys _ (y xs q) p
 .have e:i=xs.length:=af;subst e;exact .inl ⟨⟨xs,q,sS _⟩,hd ys H p⟩
theorem zI {K:Kq}{a:Addr}{xs:List V}{caps:List (Str×Nat)}{tt:TT}{te:TE}{σ:St}{H:Hp}{I:List V->Hp->Prop}(Pv:Nat->List V->Hp->Prop) (J:Pv 0 [] H) (O:∀i ys H,i<=xs.length->Pv i ys H->bZ K H a xs)
  (hs:∀i x ys H,xs[i]?=some x->Pv i ys H->tt (fL caps σ (some x)) H λb H2=>if b=true then te (fL caps σ (some x)) H2 (λy N=>ys.length<sizeLine/\Pv (i+1) (ys++[y]) N)else Pv (i+1) ys H2)
  (hd:∀ys H,Pv xs.length ys H->I ys H):∃W:Nat->Nat->List V->Hp->Prop,(∃m,W 0 m [] H)/\ic caps tt te σ (Ie K a) I W:=by
 refine⟨λi m ys H=>m=xs.length-i/\i<=xs.length/\Pv i ys H,⟨xs.length,by simp,KI _,J⟩,?_⟩;rintro i m ys H ⟨rfl,hi,p⟩;have q:=O i ys H hi p;by_cases G:i<xs.length
 .refine .inr ⟨⟨xs,xs[i],q,by simp[G]⟩,Pv (i+1),λR H' L=>⟨xs.length-(i+1),Lf (LI xs) i G,rfl,G,L⟩,λx H' y=>?_⟩;obtain⟨e,y⟩:=y;subst e;exact hs i x ys _ (y xs q) p
 .have e:i=xs.length:=af;subst e;exact .inl ⟨⟨xs,q,sS _⟩,hd ys H p⟩
theorem fA {caps:List (Str×Nat)}{te:TE}{σ:St}{H:Hp}{lo:Int}{n:Nat}{G:List V->Hp->Prop}(Pv:Nat->List V->Hp->Prop) (I:Pv 0 [] H)
  (hs:∀i ys H,i<n->Pv i ys H->te (fL caps σ (some (.int (lo+i)))) H (λy J=>ys.length<sizeLine/\Pv (i+1) (ys++[y]) J))
  (hd:∀ys H,Pv n ys H->G ys H):∃W:Nat->Nat->List V->Hp->Prop,(∃m,W 0 m [] H)/\ic caps nX te σ (BQ lo n) G W :=
 vS Pv I (λi ys H hi p=>by
  show if true=true then _ else Pv (i+1) ys H
  rw[Th rfl];exact hs i ys H hi p) hd
theorem uZ {K:Kq}{a:Addr}{xs:List V}{caps:List (Str×Nat)}{te:TE}{σ:St}{H:Hp}{G:List V->Hp->Prop}(Pv:Nat->List V->Hp->Prop) (I:Pv 0 [] H) (L:∀i ys H,i<=xs.length->Pv i ys H->bq K H a xs)
  (hs:∀i x ys H,xs[i]?=some x->Pv i ys H->te (fL caps σ (some x)) H (λy J=>ys.length<sizeLine/\Pv (i+1) (ys++[y]) J))
  (hd:∀ys H,Pv xs.length ys H->G ys H):∃W:Nat->Nat->List V->Hp->Prop,(∃m,W 0 m [] H)/\ic caps nX te σ (DX K a) G W :=
 yU Pv I L (λi x ys H hi p=>by
  show if true=true then _ else Pv (i+1) ys H
  rw[Th rfl];exact hs i x ys H hi p) hd
theorem ym {K:Kq}{a:Addr}{xs:List V}{caps:List (Str×Nat)}{te:TE}{σ:St}{H:Hp}{G:List V->Hp->Prop}(Pv:Nat->List V->Hp->Prop) (I:Pv 0 [] H) (L:∀i ys H,i<=xs.length->Pv i ys H->bZ K H a xs)
  (hs:∀i x ys H,xs[i]?=some x->Pv i ys H->te (fL caps σ (some x)) H (λy J=>ys.length<sizeLine/\Pv (i+1) (ys++[y]) J))
  (hd:∀ys H,Pv xs.length ys H->G ys H):∃W:Nat->Nat->List V->Hp->Prop,(∃m,W 0 m [] H)/\ic caps nX te σ (Ie K a) G W :=
 zI Pv I L (λi x ys H hi p=>by
  show if true=true then _ else Pv (i+1) ys H
  rw[Th rfl];exact hs i x ys H hi p) hd
theorem dv:KS "list" = some (.type "list"):=aq
theorem mN:KS "tuple" = some (.type "tuple"):=aq
theorem iW:KS "int" = some (.type "int"):=aq
theorem BN:KS "bool" = some (.type "bool"):=aq
theorem pO:KS "dict" = some (.type "dict"):=aq
theorem Ak:KS "max" = some (.builtin "max"):=aq
theorem bW:KS "isinstance" = some (.builtin "isinstance"):=aq
theorem gc:KS "sorted" = some (.builtin "sorted"):=aq
section
variable {X:Cx}
inductive Aa (x:V) (vs:List V) (H:Hp) (Q:VK):Prop
 |mk (l:Addr) (ns:List Int) (k:Int) (_:x=.ref l) (_:vs=[.int k]) (_:H l=some (.lst (ns.map V.int))) (_:k∈ns) (_:Q (.int (ns.idxOf k:Nat)) H):Aa x vs H Q
theorem AO:En X "list.index" Aa:=by
 intro pins s σ H x vs v us Q I rx rv h;obtain⟨l,ns,k,rfl,rfl,O,N,q⟩:=h;cases rx;obtain⟨u,rfl,R⟩:=rv.one;obtain⟨t,rfl⟩:=R;obtain⟨z,its,n,r,J,e⟩:=I.nK O;have hi:=intsAre_of r;have U:=hi.length;rw[nq]at J z;have hs:=BY;have G:ns.idxOf k<ns.length:=LA.mpr N;refine Nx Po ⟨_,e,rfl⟩ PySem.F.entry_list_index (PySem.F.args_list_index_2 _ _)
  (SeqAt.list_indexAt l its.toArray n none #[] (.int k t) (SV k) (ns.idxOf k) (by simpa[U]using G) af ?_ ?_) ⟨e,λy Y=>(eq_isInt k t hi y (by simpa using Y)).at _ _,⟨.int (ns.idxOf k:Nat),H,I.tok _,⟨_,rfl⟩,q⟩⟩
 .show SV k its[ns.idxOf k]=true;rw[Sb k hi _ (Ln G J) G];simpa using OB G
 .intro j S L;show SV k its[j]=false;rw[Sb k hi j (by simpa using S) (Q2 L G)];exact ne_of_lt_idxOf L _
inductive Bt (x:V) (vs:List V) (H:Hp) (Q:VK):Prop
 |mk (l:Addr) (ns:List Int) (k:Int) (_:x=.ref l) (_:vs=[.int k]) (_:H l=some (.lst (ns.map V.int))) (_:Q (.int (ns.count k:Nat)) H):Bt x vs H Q
theorem zy:En X "list.count" Bt:=by
 intro pins s σ H x vs v us Q I G J h;obtain⟨l,ns,k,rfl,rfl,L,q⟩:=h;cases G;obtain⟨u,rfl,N⟩:=J.one;obtain⟨t,rfl⟩:=N;obtain⟨z,its,n,r,O,e⟩:=I.nK L;exact count_list_ints (PySem.IsL.isList e) (intsAre_of r) ⟨.int (ns.count k:Nat),H,I.tok _,⟨_,rfl⟩,q⟩
end
def gM:List V->List V->Bool
 | [],[]=>true
 |x::xs,y::ys=>jV x y&&gM xs ys
 |_,_=>false
theorem jO:∀{xs ys:List V},xs.length≠ys.length->gM xs ys=false
 | [],[],h=>absurd rfl h
 | [],_::_,_=>rfl
 |_::_,[],_=>rfl
 |x::xs,y::ys,h=>by
  have G:=jO (xs:=xs) (ys:=ys) λe=>h (by simp[e]);show(jV x y&&gM xs ys)=false;rw[G,Qg]
theorem gw:∀{xs ys:List V},xs.length=ys.length->(Kx xs.length).all (λj=>jV (xs.getD j .non) (ys.getD j .non))=gM xs ys
 | [],[],_=>rfl
 |x::xs,y::ys,h=>by
  have G:=gw (xs:=xs) (ys:=ys) (by simpa using h);rw[Kp,List.range_succ_eq_map,all_cons,SF];show(jV x y&&_)=(jV x y&&gM xs ys);rw[<-G];rfl
 | [],_::_,h=>by simp at h
 |_::_,[],h=>by simp at h
theorem B7 (a b:Int):jV (.int a) (.int b)=decide (a=b):=by
 show(a==b)=_;rw[Bool.beq_eq_decide_eq]
theorem ku:∀(xs ys:List Int),gM (xs.map V.int) (ys.map V.int)=decide (xs=ys)
 | [],[]=>rfl
 | [],_::_=>rfl
 |_::_,[]=>rfl
 |x::xs,y::ys=>by
  have G:=ku xs ys;show(jV (.int x) (.int y)&&gM (xs.map V.int) (ys.map V.int))=_;rw[G,B7];by_cases h1:x=y
  .by_cases h2:xs=ys
   .simp[h1,h2]
   .simp[h1,h2]
  .simp[h1]
theorem dF (xs:List Int):(xs.map V.int).all cV=true:=by
 rw[SF];exact KH.mpr λ_ _=>rfl
section
variable {X:Cx}
inductive Hf (K:Kq) (x:V) (y:V) (H:Hp) (Q:VK):Prop
 |mk (p:_) (q:_) (xs:_) (ys:_) (_:x=.ref p) (_:y=.ref q) (_:bq K H p xs) (_:bq K H q ys) (_:xs.all cV=true) (_:ys.all cV=true) (_:Q (.bl (gM xs ys)) H):Hf K x y H Q
theorem EH (R:X.A.units<Mt):j4 X (LB .Eq) (Hf X.K):=by
 intro pins s σ H x y v u Q I rx ry h;obtain⟨p,q,xs,ys,rfl,rfl,hx,hy,fx,fy,S⟩:=h;cases rx;cases ry;obtain⟨its,r,pl,hz⟩:=I.list hx;obtain⟨O,N,Y,ai⟩:=I.list hy;have G:=r.length;have U:=N.length;by_cases e:xs.length=ys.length
 .refine SeqAt.eq_listAt (e:=λj=>jV (xs.getD j .non) (ys.getD j .non)) pl.isList Y.isList (by rw[qj,qj];omega) R (λj h1 h2=>?_) ⟨.bl (gM xs ys),H,I,?_,S⟩
  .have J:j<xs.length:=(by rw[qj]at h1;exact Ln h1 (id (MU G)));have L:j<ys.length:=Ln h2 (id (MU U));obtain⟨a,ea,ra⟩:=r.get (i:=j) (x:=xs[j]) (by simp[J]);obtain⟨b,eb,rb⟩:=N.get (i:=j) (x:=ys[j]) (by simp[L]);obtain⟨_,ab⟩:=j1.mp ea;obtain⟨_,ac⟩:=j1.mp eb;have g1:xs.getD j .non=xs[j]:=(by simp[J]);have g2:ys.getD j .non=ys[j]:=(by simp[L]);show Mp _ _ its.toArray[j] O.toArray[j] (jV (xs.getD j .non) (ys.getD j .non));rw[g1,g2];have f1:cV xs[j]=true:=KH.mp fx _ (LK J);have f2:cV ys[j]=true:=KH.mp fy _ (LK L);have z:=iX (A:=X.A.in1) (s:=s) ra rb f1 f2;have a1:its.toArray[j]=a:=(by simpa using ab);have a2:O.toArray[j]=b:=(by simpa using ac);rw[a1,a2];exact z
  .show Value.bool _=Value.bool _;rw[qj, <-G,gw e]
 .refine SeqAt.eq_list_lengthsAt pl.isList Y.isList ?_ R ⟨.bl (gM xs ys),H,I,?_,S⟩
  .rw[qj,qj, <-G, <-U];exact bne_iff_ne.mpr e
  .show Value.bool _=Value.bool _;rw[jO e]
theorem tV:HG X (Cw X.K):=by
 intro pins s σ H o i ov iv Q I R ri h;obtain⟨p,xs,k,z,rfl,rfl,U,S,q⟩:=h;cases R;obtain⟨t,rfl⟩:=ri;obtain⟨its,r,pl,hz⟩:=I.list U;obtain⟨j,h1,h2,h3,Y,h5⟩:=rq S;obtain⟨w,J,ab⟩:=r.get h2;have O:=r.length;have hn:=l9;have L:EP X pins σ Q w s:=⟨z,H,I,ab,q⟩;by_cases N:0<=k
 .have G:k.toNat=j:=by
   rw[OR N h5]at h1;exact ro h1
  exact wpAny_getItem_list pl.isList N af (by rw[G];simpa using J) L
 .have G:(k+(its.toArray.size:Int)).toNat=j:=by
   rw[seqIndex_neg af Y]at h1;rw[qj, <-O];exact ro h1
  exact PR pl.isList af (by rw[qj]<;>omega) af (by rw[G];simpa using J) L
theorem dU:dt X (.builtin "isinstance") (λxs H Q=>∃x n t b,xs=[x,.ty n]/\jS X.K H x t/\Nw X.K t (.type n)=some b/\Q (.bl b) H):=by
 intro pins s σ H xs us Q I r h;obtain⟨x,n,t,b,rfl,ty,e,q⟩:=h;obtain⟨u,c,rfl,J,G⟩:=vals2 r;obtain rfl:c=Value.type n:=G;exact yx I J ty e λtk=>⟨.bl b,H,I.tok _,rfl,q⟩
theorem Fc (K:Kq):Nw K (.type "int") (.type "int")=some true:=rfl
theorem Ei (K:Kq):Nw K (.type "list") (.type "list")=some true:=rfl
theorem Fb (K:Kq):Nw K (.type "int") (.type "bool")=some false:=by with_unfolding_all rfl
end
theorem zG:KS "range" = some (.type "range"):=aq
section
variable {X:Cx}
end
end L2
namespace PySem.W
open PySem PySem.Spec PySem.Calls PyProof.Rows Builtin Builtin.ObjectAttr Builtin.Getset_descriptor
section
variable {prog:ti}{w:Kl}{A:KA}{E:Value->mu->Prop}{s:mu}{K:Kq}{x C:Addr}
end
end PySem.W
namespace L2
open PySem PySem.Spec PyProof.Rows PySem.W
section
variable {X:Cx}{pins:List (Addr×Obj)}{σ:St}{H H':Hp}{s s':mu}
end
section
variable {X:Cx}{e:KJ}{te:TE}{tx:TEX}{t:TS}{ts us:TSX}{st:KO}{sts rest:List KO}{pos:Nj}
end
section
variable {X:Cx}{k:Nat}{f C:Addr}{fd:rn}{ps:List Str}{sp:Sp}{dvs:List V}{ds:List Value}{x m:Str}{p pos apos:Nj}{e o:KJ}{es:List KJ}{ta:TE}{t:TA}
end
section
variable {X:Cx}{pins:List (Addr×Obj)}{σ:St}{H:Hp}{s:mu}
end
section
variable {X:Cx}{v v2:KJ}{vs:List KJ}{te:TE}{t:TJ}{pos:Nj}
end
section
variable {X:Cx}{C:Addr}{x:Str}{np cpos pos:Nj}{e₀:KJ}{es:List KJ}{t:TA}
end
section
variable {P:ti}{w:Kl}{K:Kq}{mg:Str->Option Value}{base:Heap}
end
section
variable {X:Cx}{pins:List (Addr×Obj)}{σ:St}{H:Hp}{s:mu}
end
section
variable {X:Cx}{C:Addr}{i:Nat}{x n:Str}{np hpos pos:Nj}{body suite:List KO}{b₀:KO}{tb:TSX}{ts:TS}
end
section
variable {κ:Type} [DecidableEq κ]
def dJ (kvs:List (κ×V)) (k:κ):Option V:=(kvs.find? λG=>decide (G.1=k)).map (·.2)
def putK (kvs:List (κ×V)) (k:κ) (v:V):List (κ×V):=
 if (kvs.any λG=>decide (G.1=k))=true then kvs.map (λG=>if G.1=k then(G.1,v)else G)else kvs++[(k,v)]
def lO (kvs:List (κ×V)) (k:κ):List (κ×V):=kvs.filter λG=>decide (G.1≠k)
theorem eB {p:κ×V}{r:List (κ×V)}{k:κ}(e:p.1=k):dJ (p::r) k=some p.2:=by simp[dJ,NU,e]
theorem b9 {p:κ×V}{r:List (κ×V)}{k:κ}(e:¬ p.1=k):dJ (p::r) k=dJ r k:=by simp[dJ,NU,e]
theorem jx (k:κ):∀kvs:List (κ×V),(kvs.any λG=>decide (G.1=k))=(dJ kvs k).isSome
 | []=>rfl
 |p::r=>by
  rw[Qf];by_cases e:p.1=k
  .simp only[eB e,decide_eq_true e,Bool.true_or,Option.isSome_some]
  .rw[b9 e,decide_eq_false e,Bool.false_or];exact jx k r
theorem fq (kvs:List (κ×V)) (k:κ) (v:V):(putK kvs k v).length<=kvs.length+1:=by
 unfold putK;split
 .rw[nq];omega
 .rw[E2,Kp,RW];omega
theorem jP {kvs:List (κ×V)}{k:κ}(v:V) (h:dJ kvs k=none):putK kvs k v=kvs++[(k,v)]:=by
 unfold putK;rw[jx,h];exact Tg av
theorem fM.f6 {o:Option V}{u:Option Value}(r:fM o u):o.isSome=u.isSome:=by
 cases o with
 |none=>cases u with
  |none=>rfl
  |some _=>exact(show False from r).elim
 |some _=>cases u with
  |none=>exact(show False from r).elim
  |some _=>rfl
theorem fM.getD {o:Option V}{u:Option Value}{d:V}{d':Value}(r:fM o u) (rd:RelV d d'):RelV (o.getD d) (u.getD d'):=by
 cases o with
 |none=>cases u with
  |none=>exact rd
  |some _=>exact(show False from r).elim
 |some _=>cases u with
  |none=>exact(show False from r).elim
  |some _=>exact r
theorem KV.val {kvs:List (κ×V)}{vs:List (κ×Value)}(r:KV kvs vs) (k:κ):fM (dJ kvs k) (PY vs k):=by
 unfold KV at r
 induction r with
 |nil=>exact LG
 | @cons p q ps qs h t I =>
  obtain⟨h1,h2⟩:=h;by_cases e:p.1=k
  .have G:q.1=k:=h1.symm.trans e;have b:PY (q::qs) k=some q.2:=(by simp[PY,NU,G]);rw[eB e,b];exact h2
  .have G:¬ q.1=k:=λz=>e (h1.trans z);have b:PY (q::qs) k=PY qs k:=(by simp[PY,NU,G]);rw[b9 e,b];exact I
theorem KV.any {kvs:List (κ×V)}{vs:List (κ×Value)}(r:KV kvs vs) (k:κ):(kvs.any λG=>decide (G.1=k))=vs.any λG=>decide (G.1=k):=by
 unfold KV at r
 induction r with
 |nil=>rfl
 |cons h t I=>rw[Qf,Qf,I,h.1]
theorem KV.Ec {kvs:List (κ×V)}{vs:List (κ×Value)}(r:KV kvs vs) (k:κ) {y:V}{u:Value}(J:RelV y u) :
  KV (kvs.map λG=>if G.1=k then(G.1,y)else G) (vs.map λG=>if G.1=k then(G.1,u)else G):=by
 unfold KV at r ⊢
 induction r with
 |nil=>exact .nil
 | @cons p q ps qs h t I =>
  rw[LU,LU];refine .cons ?_ I;obtain⟨h1,h2⟩:=h;by_cases e:p.1=k
  .rw[Th e,Th (h1.symm.trans e)];exact⟨h1,J⟩
  .rw[Tg e,Tg (λz=>e (h1.trans z))];exact⟨h1,h2⟩
theorem KV.put {kvs:List (κ×V)}{vs:List (κ×Value)}(r:KV kvs vs) (k:κ) {y:V}{u:Value}(G:RelV y u):KV (putK kvs k y) (stored vs k u):=by
 unfold putK stored;rw[r.any k];by_cases e:(vs.any λI=>decide (I.1=k))=true
 .rw[Th e,Th e];exact r.Ec k G
 .rw[Tg e,Tg e];exact Paired.snoc r ⟨rfl,G⟩
theorem KV.drop {kvs:List (κ×V)}{vs:List (κ×Value)}(r:KV kvs vs) (k:κ):KV (lO kvs k) (without vs k):=by
 unfold KV at r ⊢;unfold lO without
 induction r with
 |nil=>exact .nil
 | @cons p q ps qs h t G =>
  obtain⟨h1,h2⟩:=h;rw[LW,LW];by_cases e:p.1=k
  .have a:¬ decide (p.1≠k)=true:=(by simp[e]);have b:¬ decide (q.1≠k)=true:=(by simp[h1.symm.trans e]);rw[Tg a,Tg b];exact G
  .have I:¬ q.1=k:=λz=>e (h1.trans z);have a:decide (p.1≠k)=true:=(by simp[e]);have b:decide (q.1≠k)=true:=(by simp[I]);rw[Th a,Th b];exact .cons ⟨h1,h2⟩ G
theorem KV.keys {kvs:List (κ×V)}{vs:List (κ×Value)}(r:KV kvs vs):kvs.map (·.1)=vs.map (·.1):=by
 unfold KV at r
 induction r with
 |nil=>rfl
 |cons h t G=>rw[LU,LU,G,h.1]
theorem KV.length {kvs:List (κ×V)}{vs:List (κ×Value)}(r:KV kvs vs):kvs.length=vs.length:=Paired.length r
theorem zS (kvs:List (κ×V)) (k:κ):(lO kvs k).length<=kvs.length:=Ng _ _
end
theorem iP {P:ti}{w:Kl}{k:Key}{u:Value}(r:RelV (kV k) u):(br P w).is k u=true:=by
 cases k with
 |inl i=>obtain⟨t,e⟩:=(show ∃t,u=Value.int i t from r);subst e;exact tJ P w i t
 |inr x=>obtain⟨t,e⟩:=(show ∃t,u=Value.str x t from r);subst e;exact sj P w x t
theorem oJ {P:ti}{w:Kl}:∀{ks:List Key}{us:List Value},Vals (ks.map kV) us->ItemsAre (br P w) ks us
 | [],_,r=>by rw[Rx]at r;cases r;exact .nil
 |k::ks,_,r=>by
  rw[LU]at r;cases r with
  |cons h t=>exact .cons (iP h) (oJ t)
abbrev KT (H:Hp):List (List Key×V)->List (List Key×Addr×Value)->Prop:=Paired λp q=>p.1=q.1/\H q.2.1=some (.tup (p.1.map kV))/\RelV p.2 q.2.2
theorem KT.val {H:Hp}{kvs:List (List Key×V)}{xs:List (List Key×Addr×Value)}(r:KT H kvs xs) (k:List Key):fM (dJ kvs k) ((Rp xs k).map (·.2)):=by
 induction r with
 |nil=>exact LG
 | @cons p q ps qs h t I =>
  obtain⟨h1,_,h2⟩:=h;by_cases e:p.1=k
  .have G:q.1=k:=h1.symm.trans e;have b:Rp (q::qs) k=some q.2:=(by simp[Rp,NU,G]);rw[eB e,b];exact h2
  .have G:¬ q.1=k:=λz=>e (h1.trans z);have b:Rp (q::qs) k=Rp qs k:=(by simp[Rp,NU,G]);rw[b9 e,b];exact I
theorem KT.Ec {H:Hp}{kvs:List (List Key×V)}{xs:List (List Key×Addr×Value)}(r:KT H kvs xs) (k:List Key) {y:V}{u:Value}(J:RelV y u) :
  KT H (kvs.map λG=>if G.1=k then(G.1,y)else G) (xs.map (putAt k u)):=by
 induction r with
 |nil=>exact .nil
 | @cons p q ps qs h t I =>
  rw[LU,LU];refine .cons ?_ I;obtain⟨h1,h2,L⟩:=h;unfold putAt;by_cases e:p.1=k
  .rw[Th e,Th (h1.symm.trans e)];exact⟨h1,h2,J⟩
  .rw[Tg e,Tg (λz=>e (h1.trans z))];exact⟨h1,h2,L⟩
theorem KT.put {H:Hp}{kvs:List (List Key×V)}{xs:List (List Key×Addr×Value)}(r:KT H kvs xs) (k:List Key) {b:Addr}{y:V}{u:Value}(I:H b=some (.tup (k.map kV))) (G:RelV y u) :
  KT H (putK kvs k y) (storedH xs k b u):=by
 have e:(kvs.any λJ=>decide (J.1=k))=(Rp xs k).isSome:=by
  rw[jx,(r.val k).f6,OC]
 unfold putK storedH;rw[e];by_cases q:(Rp xs k).isSome=true
 .rw[Th q,Th q];exact r.Ec k G
 .rw[Tg q,Tg q];exact Paired.snoc r ⟨rfl,I,G⟩
theorem KT.keeps {H H':Hp}{kvs:List (List Key×V)}{xs:List (List Key×Addr×Value)}(r:KT H kvs xs) (G:∀b ys,H b=some (.tup ys)->H' b=some (.tup ys)):KT H' kvs xs :=
 Paired.yo r λ_ _ z=>⟨z.1,G _ _ z.2.1,z.2.2⟩
section
variable {P:ti}{w:Kl}{H:Hp}{h:Heap}{a:Addr}
theorem C2 {u:HO}(ok:iS P w H h) (e:Rd H a u):bS P w H h a u:=e.ok ok
theorem jE {kvs:List (Key×V)}(ok:iS P w H h) (e:Rd H a (.dK kvs)):kvs.length<=sizeLine/\(a==Mo)=false/\∃vs,KV kvs vs/\h.DictOf (br P w) a vs :=
 show bS P w H h a (.dK kvs)from C2 ok e
theorem fU {kvs:List (Key×V)}(ok:iS P w H h) (e:H a=some (.dK kvs)):kvs.length<=sizeLine/\(a==Mo)=false/\∃vs,KV kvs vs/\h.DictOf (br P w) a vs:=jE ok (.inl e)
theorem ja {ks:List Key}(ok:iS P w H h) (e:H a=some (.tup (ks.map kV))):(Om (br P w)).is h ks a:=by
 obtain⟨_,its,r,o,h1,h2,n,G⟩:=(show bS P w H h a (.tup (ks.map kV))from ok a _ e);exact⟨o,its.toArray,n,h1,h2,G,by simpa using oJ r⟩
theorem kU {kvs:List (List Key×V)}(ok:iS P w H h) (e:Rd H a (.dT kvs)):kvs.length<=sizeLine/\(a==Mo)=false /\
  ∃xs,KT H kvs xs/\h.DictOfH (Om (br P w)) a xs:=by
 obtain⟨z,y,xs,r,o,es,ep,h1,h2,O,L,N⟩:=(show bS P w H h a (.dT kvs)from C2 ok e);refine⟨z,y,xs,r,o,es,ep,h1,h2,O,L,λx G=>?_,N⟩;have all:∀{l:List (List Key×V)}{m:List (List Key×Addr×Value)},KT H l m->∀x∈m,(Om (br P w)).is h x.1 x.2.1:=by
  intro l m q
  induction q with
  |nil=>intro x G;exact nomatch G
  | @cons p q ps qs I t J =>
   intro x G;rcases E3.mp G with e|G
   .subst e;exact ja ok (by rw[<-I.1];exact I.2.1)
   .exact J x G
 exact all r x G
theorem F8 {kvs:List (List Key×V)}(ok:iS P w H h) (e:H a=some (.dT kvs)):kvs.length<=sizeLine/\(a==Mo)=false /\
  ∃xs,KT H kvs xs/\h.DictOfH (Om (br P w)) a xs:=kU ok (.inl e)
end
def dC (H:Hp) (a:Addr) (y:V) (r:Option V):Prop :=
 (∃kvs k,Rd H a (.dK kvs)/\y=kV k/\r=dJ kvs k)\/∃kvs k b,Rd H a (.dT kvs)/\y=.ref b/\H b=some (.tup (k.map kV))/\r=dJ kvs k
def fX (H:Hp) (a:Addr) (y v:V) (H':Hp):Prop :=
 (∃kvs k,H a=some (.dK kvs)/\y=kV k/\kvs.length<sizeLine/\H'=upd H a (.dK (putK kvs k v))) \/
 ∃kvs k b,H a=some (.dT kvs)/\y=.ref b/\H b=some (.tup (k.map kV))/\kvs.length<sizeLine/\H'=upd H a (.dT (putK kvs k v))
theorem dC.k {H:Hp}{a:Addr}{kvs:List (Key×V)}{k:Key}(e:H a=some (.dK kvs)):dC H a (kV k) (dJ kvs k):=.inl ⟨kvs,k,.inl e,rfl,rfl⟩
theorem fX.k {H:Hp}{a:Addr}{kvs:List (Key×V)}{k:Key}{v:V}(e:H a=some (.dK kvs)) (G:kvs.length<sizeLine):fX H a (kV k) v (upd H a (.dK (putK kvs k v))):=.inl ⟨kvs,k,e,rfl,G,rfl⟩
section
variable {X:Cx}{pins:List (Addr×Obj)}{σ:St}{H:Hp}{s:mu}{a:Addr}{y v:V}{u r:Value}{o:Option V}{A:KA}{E:Value->mu->Prop}
theorem Inv.big (I:Inv X pins σ H s):Mo<s.heap.objs.size:=by
 have h:KP<s.heap.objs.size:=(I.mod.glob.keeps I.bk).lt;exact Q2 av h
theorem xJ {Q:Value->mu->Prop}(Y:A.units+1<Mt) (I:Inv X pins σ H s) (g:dC H a y (some v)) (S:RelV y u) (h:∀G s',Inv X pins σ H s'->RelV v G->Q G s') :
  wpAny (model X.prog X.w) A (NY (.ref a) u) Q E s:=by
 rcases g with⟨kvs,k,e,J,l⟩|⟨kvs,k,b,e,J,eb,l⟩
 .subst J;obtain⟨z,hd,vs,O,R⟩:=jE I.bE e;obtain⟨G,N,L⟩:=fM.some_of (v:=v) (o:=PY vs k) (by rw[l];exact O.val k);exact wpAny_getItem_of (iP S) R.mapOf N (h G _ (I.tok _) L)
 .subst J;cases(show u=Value.ref b from S);obtain⟨z,hd,xs,O,R⟩:=kU I.bE e;obtain⟨G,N,L⟩:=fM.some_of (v:=v) (o:=(Rp xs k).map (·.2)) (by rw[l];exact O.val k);obtain⟨p,hp,U⟩:=vr.mp N;refine wpAny_getItem_heap (Mb Y) (ja I.bE eb) R hp ?_;rw[U];exact h G _ (I.tok _) L
theorem IC {Q:Value->mu->Prop}(O:A.units+1<Mt) (I:Inv X pins σ H s) (g:dC H a y o) (N:RelV y u) (h:∀s',Inv X pins σ H s'->Q (.bool o.isSome) s') :
  wpAny (model X.prog X.w) A (LB .In u (.ref a)) Q E s:=by
 rcases g with⟨kvs,k,e,G,l⟩|⟨kvs,k,b,e,G,R,l⟩
 .subst G;obtain⟨z,hd,vs,J,L⟩:=jE I.bE e;refine wpAny_in_of (iP N) hd L.mapOf ?_;rw[<-(J.val k).f6, <-l];exact h _ (I.tok _)
 .subst G;cases(show u=Value.ref b from N);obtain⟨z,hd,xs,J,L⟩:=kU I.bE e;refine wpAny_in_heap (Mb O) (ja I.bE R) hd L ?_;have q:=(J.val k).f6;rw[OC]at q;rw[<-q, <-l];exact h _ (I.tok _)
theorem Ci {Q:Value->mu->Prop}(O:A.units+1<Mt) (I:Inv X pins σ H s) (g:dC H a y o) (N:RelV y u) (h:∀s',Inv X pins σ H s'->Q (.bool (!o.isSome)) s') :
  wpAny (model X.prog X.w) A (LB .NotIn u (.ref a)) Q E s:=by
 rcases g with⟨kvs,k,e,G,l⟩|⟨kvs,k,b,e,G,R,l⟩
 .subst G;obtain⟨z,hd,vs,J,L⟩:=jE I.bE e;refine wpAny_notIn_of (iP N) hd L.mapOf ?_;rw[<-(J.val k).f6, <-l];exact h _ (I.tok _)
 .subst G;cases(show u=Value.ref b from N);obtain⟨z,hd,xs,J,L⟩:=kU I.bE e;refine wpAny_notIn_heap (Mb O) (ja I.bE R) hd L ?_;have q:=(J.val k).f6;rw[OC]at q;rw[<-q, <-l];exact h _ (I.tok _)
theorem jl {h':Heap}{t':Nat}{G:HO}(I:Inv X pins σ H s) (L:FR (H a)) (hs:Heap.SameBut a s.heap h') (N:∃q,h'.get? a=some q) (new:bS X.prog X.w (upd H a G) h' a G) :
  Inv X pins σ (upd H a G) { s with heap:=h',toks:=t' }:=
 I.write (x:=a) (e:=a) L (.inl rfl) (λb q J z=>(hs.2 b J).trans z) N new
theorem mf {P:ti}{w:Kl}{H':Hp}{h':Heap}{kvs:List (Key×V)}{vs:List (Key×Value)}(z:kvs.length<=sizeLine) (hd:(a==Mo)=false) (G:KV kvs vs) (I:h'.DictOf (br P w) a vs) :
  bS P w H' h' a (.dK kvs):=⟨z,hd,vs,G,I⟩
theorem o8 {H':Hp}{Q:Unit->mu->Prop}(hu:A.units+1<Mt) (I:Inv X pins σ H s) (g:fX H a y v H') (ry:RelV y u) (rv:RelV v r) (h:∀s',Inv X pins σ H' s'->Q () s') :
  wpAny (model X.prog X.w) A (Sy (.ref a) u r) Q E s:=by
 rcases g with⟨kvs,k,e,S,l,N⟩|⟨kvs,k,b,e,S,eb,l,N⟩
 .subst S N;obtain⟨z,hd,vs,G,U⟩:=fU I.bE e;have R:vs.length<=sizeLine:=(by rw[<-G.length];exact z);have O:(putK kvs k v).length<=sizeLine:=(by have:=fq kvs k v;exact Ko this l);refine wpAny_setItem_pairs (hsz:=R) (iP ry) U λh' J hs=>h _ ?_;have he:∃q,h'.get? a=some q:=let ⟨q,_,_,L,_⟩:=J;⟨q,L⟩;exact jl I (by rw[e];exact LG) hs he (mf O hd (G.put k rv) J)
 .subst S N;cases(show u=Value.ref b from ry);obtain⟨z,hd,xs,G,U⟩:=F8 I.bE e;have R:xs.length<=sizeLine:=(by rw[<-Paired.length G];exact z);have O:(putK kvs k v).length<=sizeLine:=(by have:=fq kvs k v;exact Ko this l);refine wpAny_setItem_heap (hsz:=R) (Mb hu) (ja I.bE eb) U λh' J hs=>h _ ?_;obtain⟨q,es,ep,L,h2,h3,h4,_,h5⟩:=J;refine jl I (by rw[e];exact LG) hs ⟨q,L⟩ ⟨O,hd,_,(G.put k eb rv).keeps λc ys Y=>?_,q,es,ep,L,h2,h3,h4,h5⟩;rw[ah (cE Y e (λz=>nomatch z))];exact Y
end
section
variable {X:Cx}{pins:List (Addr×Obj)}{σ:St}{H:Hp}{s:mu}{a:Addr}{kvs:List (Key×V)}{k:Key}{u:Value}{A:KA}{E:Value->mu->Prop}
theorem HA {v:V}{J:List Value}{Q:Value->mu->Prop}(I:Inv X pins σ H s) (e:H a=some (.dK kvs)) (L:RelV (kV k) u) (l:dJ kvs k=some v) (O:J=[]\/∃x,J=[x])
  (h:∀G s',Inv X pins σ (upd H a (.dK (lO kvs k))) s'->RelV v G->Q G s'):wpAny (model X.prog X.w) A (call (.builtin "dict.pop") (.ref a::u::J)) Q E s:=by
 obtain⟨z,hd,vs,N,S⟩:=fU I.bE e;obtain⟨G,hw,ab⟩:=fM.some_of (v:=v) (o:=PY vs k) (by rw[<-l];exact N.val k);have hp:(keyPart u).isSome=true:=by
  cases k with
  |inl i=>obtain⟨t,q⟩:=(show ∃t,u=Value.int i t from L);subst q;rfl
  |inr x=>obtain⟨t,q⟩:=(show ∃t,u=Value.str x t from L);subst q;rfl
 have U:argsOk "dict.pop" ⟨.ref a::u::J,[]⟩:=by
  rcases O with q|⟨x,q⟩
  .subst q;exact PySem.F.args_dict_pop_2 _ _
  .subst q;exact PySem.F.args_dict_pop_3 _ _ _
 refine MC P8 S.typeIs PySem.F.entry_dict_pop U (meets_dict_pop_there (br X.prog X.w) a (iP L) J O hp)
  ⟨vs,G,S,by rw[<-N.length];exact z,hw,λh' R hs=>h G _ ?_ ab⟩
 have he:∃q,h'.get? a=some q:=let ⟨q,_,_,Y,_⟩:=R;⟨q,Y⟩;exact jl I (by rw[e];exact LG) hs he (mf (Ko (zS kvs k) z) hd (N.drop k) R)
theorem FL {Q:Value->mu->Prop}(I:Inv X pins σ H s) (e:Rd H a (.dK kvs)) (h:∀t s',Inv X pins σ H s'->Q (.int kvs.length t) s'):wpAny (model X.prog X.w) A (call (.builtin "len") [.ref a]) Q E s:=by
 obtain⟨z,hd,vs,G,J⟩:=jE I.bE e;refine call_len_dict hd J (by rw[<-G.length];rw[BY]at z;omega) ?_;rw[<-G.length];exact h _ _ (I.tok _)
end
def Gk (i:KJ):Prop:=∀ov G,Qe i false ov G=operate [ov,G] (NY ov G)
theorem BJ {prog:ti}{w:Kl}{A:KA}{E:Value->mu->Prop}{s:mu}{env:Ss}{value G:KJ}{pos:Nj}{T id:String}{Q:Value->mu->Prop}
  (U:typeLookup (.type T) "__getitem__" = pure (some (.builtin id))) (hs:Gk G)
  (h:wpAny (model prog w) A (eval value env) (λo R=>wpAny (model prog w) A (eval G env) (λi I=>I.TypeIs o T/\wpAny (model prog w) A (NY o i) Q E I) E R) E s) :
  wpAny (model prog w) A (eval (.Subscript value G pos) env) Q E s:=by
 refine RO (Nv h (λo R Y=>Nv Y (λi I J=>?_) λ_ _ x=>x) λ_ _ x=>x);obtain⟨N,J⟩:=J;unfold Qx;refine oR ?_;rw[getitemInPython_of_ne N.not_modules];refine oR (wpAny_specialOf N U ?_);have L:wpAny (model prog w) A (Qe G false o i) (λr O=>wpAny (model prog w) A (letTemporaryGo value o r>>=λ_=>pure r) Q E O) E I:=by
  rw[hs o i];exact wpAny_operating (Nv J (λr O S=>oR (wpAny_letTemporaryGo (By S))) λ_ _ x=>x)
 first
  |exact By (oR L)
  |exact oR (By (oR L))
  |exact oR L
theorem sg {X:Cx}{pins:List (Addr×Obj)}{σ:St}{H:Hp}{s:mu}{a:Addr}{y:V}{o:Option V}(I:Inv X pins σ H s) (g:dC H a y o):s.TypeIs (.ref a) "dict" := by
 rcases g with⟨kvs,k,e,_,_⟩|⟨kvs,k,b,e,_,_,_⟩
 .obtain⟨_,_,vs,_,G⟩:=jE I.bE e;exact G.typeIs
 .obtain⟨_,_,xs,_,G⟩:=kU I.bE e;exact G.typeIs
inductive Ax (td ty:TE) (Q:VK) (x:V) (y:V) (H2:Hp):Prop
 |mk (a:_) (v:_) (_:x=.ref a) (_:dC H2 a y (some v)) (_:Q v H2):Ax td ty Q x y H2
def Hn (td ty:TE):TE:=λσ H Q=>td σ H λx H1=>ty σ H1 λy H2=>Ax td ty Q x y H2
inductive C8 (ty td:TE) (Q:VK) (y:V) (x:V) (H2:Hp):Prop
 |mk (a:_) (o:_) (_:x=.ref a) (_:dC H2 a y o) (_:Q (.bl o.isSome) H2):C8 ty td Q y x H2
def Jr (ty td:TE):TE:=λσ H Q=>ty σ H λy H1=>td σ H1 λx H2=>C8 ty td Q y x H2
inductive sV (ty td:TE) (Q:VK) (y:V) (x:V) (H2:Hp):Prop
 |mk (a:_) (o:_) (_:x=.ref a) (_:dC H2 a y o) (_:Q (.bl (!o.isSome)) H2):sV ty td Q y x H2
def CB (ty td:TE):TE:=λσ H Q=>ty σ H λy H1=>td σ H1 λx H2=>sV ty td Q y x H2
def HK (td ty tv:TE):TS:=λD σ H=>tv σ H λv H1=>td σ H1 λx H2=>ty σ H2 λy I=>y7 λa G=>rF (x=.ref a) (fX I a y v G) (D.nx σ G)
section
variable {X:Cx}{o i e value:KJ}{pos pos' tpos:Nj}{td ty tv:TE}
theorem bt (U:X.A.units+1<Mt) (ho:PE X o td) (hi:PE X i ty) (hs:Gk i):PE X (.Subscript o i pos) (Hn td ty):=by
 intro pins s σ H Q I h;refine BJ PySem.F.slot_dict_getitem.lookup hs (bT (ho pins s σ H _ I h) λu J Y=>?_);obtain⟨x,H1,I1,O,S⟩:=Y;refine bT (hi pins J σ H1 _ I1 S) λiv s2 ac=>?_;obtain⟨y,H2,G,N,a,v,ex,g,R⟩:=ac;subst ex;obtain rfl:u=Value.ref a:=O;exact⟨sg G g,xJ U G g N λw' s3 L ab=>⟨v,H2,L,ab,R⟩⟩
theorem ny (O:X.A.units+1<Mt) (hi:PE X i ty) (ho:PE X o td):PC X .In i o (Jr ty td):=by
 intro pins s σ H Q I h;refine bT (hi pins s σ H _ I h) λiv L J=>?_;obtain⟨y,H1,I1,R,G⟩:=J;refine bT (ho pins L σ H1 _ I1 G) λu s2 Y=>?_;obtain⟨x,H2,U,S,a,ov,ex,g,q2⟩:=Y;subst ex;obtain rfl:u=Value.ref a:=S;exact IC O U g R λs3 N=>⟨.bl ov.isSome,H2,N,rfl,q2⟩
theorem fY (O:X.A.units+1<Mt) (hi:PE X i ty) (ho:PE X o td):PC X .NotIn i o (CB ty td):=by
 intro pins s σ H Q I h;refine bT (hi pins s σ H _ I h) λiv L S=>?_;obtain⟨y,H1,I1,R,G⟩:=S;refine bT (ho pins L σ H1 _ I1 G) λu s2 J=>?_;obtain⟨x,H2,Y,U,a,ov,ex,g,q2⟩:=J;subst ex;obtain rfl:u=Value.ref a:=U;exact Ci O Y g R λs3 N=>⟨.bl (!ov.isSome),H2,N,rfl,q2⟩
theorem jn (hu:X.A.units+1<Mt) (ho:PE X o td) (hi:PE X i ty) (hv:PE X value tv) (hs:Pe value (some (.Subscript o i pos')) pos.line X.env=pure false) :
  PS X (.Assign [.Subscript o i pos'] value pos) (HK td ty tv):=by
 intro pins s σ H D I h;refine wpAny_Assign_Subscript (bT (hv pins s σ H _ I h) λr L G=>?_) hs;obtain⟨v,H1,I1,rv,q1⟩:=G;refine bT (ho pins L σ H1 _ I1 q1) λu s2 ab=>?_;obtain⟨x,H2,S,R,q2⟩:=ab;refine bT (hi pins s2 σ H2 _ S q2) λiv s3 J=>?_;obtain⟨y,H3,N,O,a,H4,ex,g,U⟩:=J;subst ex;obtain rfl:u=Value.ref a:=R;exact o8 hu N g O rv λs4 Y=>⟨σ,H4,Y,U⟩
end
theorem rK {P:ti}{w:Kl}{H:Hp}(h:Heap) (G:Mo<h.objs.size):bS P w H (h.push { cls:=.type "dict",data:=.dict #[] }) h.objs.size (.dK []):=
 ⟨KI _,beq_eq_false_iff_ne.mpr (qw (KN G)),[],.nil,Heap.DictOf.new h⟩
def DR:TE:=λ_ H Q=>∀p,H p=none->Q (.ref p) (upd H p (.dK []))
section
variable {X:Cx}{pos:Nj}
theorem cY:PE X (.Dict [] [] pos) DR:=λpins s σ H Q I h =>
 wpAny_Dict_empty ⟨.ref s.heap.objs.size,_,I.laid (a:=s.heap.objs.size) (o:=.dK []) (t':=s.toks) (λ_ _ q=>Heap.get?_push_of_some _ q) (sS _) (rK s.heap I.big),rfl,h _ (I.bE.fresh (sS _))⟩
end
def vH:List (TE×TE)->St->Hp->(List (V×V)->Hp->Prop)->Prop
 | [],_,H,Q=>Q [] H
 |(tk,tv)::r,σ,H,Q=>tk σ H λx H1=>tv σ H1 λy H2=>vH r σ H2 λps G=>Q ((x,y)::ps) G
abbrev VV:List (V×V)->List (Value×Value)->Prop:=Paired λp q=>RelV p.1 q.1/\RelV p.2 q.2
def HU (X:Cx) (pos:Nj) (keys:List (Option KJ)) (values:List KJ) (G:List (TE×TE)):Prop :=
 ∀(pins:List (Addr×Obj)) (s:mu) (σ:St) (H:Hp) (Q:List (V×V)->Hp->Prop),Inv X pins σ H s->vH G σ H Q ->
  wpAny (model X.prog X.w) X.A (evalPairs (pairTrees keys values X.env pos)) (λvs s'=>∃ps H',Inv X pins σ H' s'/\VV ps vs/\Q ps H') X.xe s
theorem Co {X:Cx}{pos:Nj}:HU X pos [] [] []:=λpins s σ H Q I h=>pairTrees_nil_walk ⟨[],H,I,.nil,h⟩
theorem jN {X:Cx}{pos:Nj}{k v:KJ}{ks:List (Option KJ)}{vs:List KJ}{tk tv:TE}{G:List (TE×TE)}(J:PE X k tk) (hv:PE X v tv) (hr:HU X pos ks vs G) :
  HU X pos (some k::ks) (v::vs) ((tk,tv)::G):=λpins s σ H Q I h =>
 pairTrees_cons_walk (bT (J pins s σ H _ I h) λu N ⟨x,H1,I1,S,q1⟩=>bT (hv pins N σ H1 _ I1 q1) λw2 s2 ⟨y,H2,U,R,q2⟩ =>
  bT (hr pins s2 σ H2 _ U q2) λws s3 L=>by obtain⟨ps,Y,O,ab,q3⟩:=L;exact⟨(x,y)::ps,Y,O,.cons ⟨S,R⟩ ab,q3⟩)
def kf (kvs I:List (Key×V)):List (Key×V):=I.foldl (λJ G=>putK J G.1 G.2) kvs
theorem KV.merge:∀{I:List (Key×V)}{G:List (Key×Value)}{kvs:List (Key×V)}{vs:List (Key×Value)},KV I G->KV kvs vs->KV (kf kvs I) (merged vs G):=by
 intro I G kvs vs r;unfold KV at r
 induction r generalizing kvs vs with
 |nil=>intro q;exact q
 | @cons p q ps qs h t J =>
  intro L;have e:KV (putK kvs p.1 p.2) (stored vs q.1 q.2):=by
   have:=L.put p.1 h.2;rw[<-h.1];exact this
  exact J e
theorem iR:∀(G kvs:List (Key×V)),(kf kvs G).length<=kvs.length+G.length
 | [],kvs=>by show kvs.length<=kvs.length+0;omega
 |p::r,kvs=>by
  have h1:=iR r (putK kvs p.1 p.2);have h2:=fq kvs p.1 p.2;show(kf (putK kvs p.1 p.2) r).length<=_;rw[Kp];omega
theorem l8 {P:ti}{w:Kl}:∀{kvs:List (Key×V)}{ws:List (Value×Value)},VV (kvs.map λI=>(kV I.1,I.2)) ws->∃G,Carries (br P w) ws G/\KV kvs G
 | [],_,r=>by rw[Rx]at r;cases r;exact⟨[],LG,.nil⟩
 |p::kvs,_,r=>by
  rw[LU]at r;cases r with
  | @cons a b L bs h t =>
   obtain⟨G,c,q⟩:=l8 (P:=P) (w:=w) t;obtain⟨N,J⟩:=b;exact⟨(p.1,J)::G,⟨iP h.1,rfl,c⟩,.cons ⟨rfl,h.2⟩ q⟩
def Hm (I:List (TE×TE)):TE:=λσ H Q=>∀p,H p=none->vH I σ (upd H p (.dK [])) λps H2=>H2 p=some (.dK [])/\∃kvs:List (Key×V),ps=kvs.map (λG=>(kV G.1,G.2))/\kvs.length<=15/\Q (.ref p) (upd H2 p (.dK (kf [] kvs)))
theorem CY {X:Cx}{pos:Nj}{keys:List (Option KJ)}{values:List KJ}{G:List (TE×TE)}(h:HU X pos keys values G) (ai:keys.all (·.isSome)=true) (R:keys.length=values.length) (h0:keys≠[])
  (N:keys.length<=15):PE X (.Dict keys values pos) (Hm G):=by
 intro pins s σ H Q I q;have hn:=I.bE.fresh (sS s.heap.objs.size);have I1:=I.laid (a:=s.heap.objs.size) (o:=.dK []) (h':=s.heap.push { cls:=.type "dict",data:=.dict #[] }) (t':=s.toks) (λ_ _ q=>Heap.get?_push_of_some _ q) (sS _) (rK s.heap I.big);refine wpAny_Dict_walk (knd:=br X.prog X.w) ai R h0 N (bT (h pins _ σ _ _ I1 (q _ hn)) λws s2 ac=>?_);obtain⟨ps,H2,J,ab,e,kvs,ep,lk,U⟩:=ac;subst ep;obtain⟨rs,c,O⟩:=l8 (P:=X.prog) (w:=X.w) ab;obtain⟨z,hd,am,r0,dd⟩:=fU J.bE e;cases r0;refine⟨rs,c,dd,λh' L hs=>⟨.ref s.heap.objs.size,_,?_,rfl,U⟩⟩;have Y:(kf [] kvs).length<=sizeLine:=by
  have h1:=iR kvs [];rw[RW]at h1;rw[BY];omega
 have S:∃q,h'.get? s.heap.objs.size=some q:=let ⟨q,_,_,hq,_⟩:=L;⟨q,hq⟩;exact jl J (by rw[e];exact LG) hs S (mf Y hd (O.merge .nil) L)
structure M1 (X:Cx) (o:KJ) (m:Str) (apos:Nj) (e:KJ) (cpos:Nj):Prop where
 base:MN o m X.env (eval o X.env)=eval o X.env
 Hr:((backTo cpos (starEach [e] X.env)).all (λx => !x.1)&&(Pk cpos (Nz [] X.env)).all (λx=>x.1.isSome)
  && decide (([e]:List KJ).length+([]:List Qo).length+(if ([]:List Qo).isEmpty then 0 else 1)<30))=true
 line:(apos.endLine==cpos.line)=true
 trees:backTo cpos (starEach [e] X.env)=[(false,eval e X.env)]
structure M2 (X:Cx) (o:KJ) (m:Str) (apos:Nj) (e f:KJ) (cpos:Nj):Prop where
 base:MN o m X.env (eval o X.env)=eval o X.env
 Hr:((backTo cpos (starEach [e,f] X.env)).all (λx => !x.1)&&(Pk cpos (Nz [] X.env)).all (λx=>x.1.isSome)
  && decide (([e,f]:List KJ).length+([]:List Qo).length+(if ([]:List Qo).isEmpty then 0 else 1)<30))=true
 line:(apos.endLine==cpos.line)=true
 trees:backTo cpos (starEach [e,f] X.env)=[(false,eval e X.env),(false,eval f X.env)]
def FV (H:Hp) (a:Addr):Prop:=(∃kvs,Rd H a (.dK kvs))\/∃kvs,Rd H a (.dT kvs)
theorem ky {X:Cx}{pins:List (Addr×Obj)}{σ:St}{H:Hp}{s:mu}{a:Addr}(I:Inv X pins σ H s) (d:FV H a) :
  s.TypeIs (.ref a) "dict" /\ (∀b,Value.ref a=.ref b->∃G,s.heap.get? b=some G/\G.dict=none)/\(a==Mo)=false:=by
 rcases d with⟨kvs,e⟩|⟨kvs,e⟩
 .obtain⟨_,hd,vs,_,J⟩:=jE I.bE e;refine⟨J.typeIs,λb q=>?_,hd⟩;cases q;obtain⟨G,_,_,h1,h2,_⟩:=J;exact⟨G,h1,h2.2.1⟩
 .obtain⟨_,hd,xs,_,J⟩:=kU I.bE e;refine⟨J.typeIs,λb q=>?_,hd⟩;cases q;obtain⟨G,_,_,h1,h2,_⟩:=J;exact⟨G,h1,h2.2.1⟩
section
variable {X:Cx}{pins:List (Addr×Obj)}{σ:St}{H:Hp}{s:mu}{a:Addr}{y d:V}{u r:Value}{o:Option V}{A:KA}{E:Value->mu->Prop}
theorem E6 {Q:Value->mu->Prop}(R:A.units+1<Mt) (I:Inv X pins σ H s) (g:dC H a y o) (O:RelV y u) (h:∀N s',Inv X pins σ H s'->RelV (o.getD .non) N->Q N s') :
  wpAny (model X.prog X.w) A (call (.builtin "dict.get") [.ref a,u]) Q E s:=by
 rcases g with⟨kvs,k,e,J,l⟩|⟨kvs,k,b,e,J,S,l⟩
 .subst J;obtain⟨z,hd,vs,L,G⟩:=jE I.bE e;refine MC Np G.typeIs OD (Pp _ _) (meets_dict_get (br X.prog X.w) a (iP O) hd) ⟨_,G.mapOf,h _ _ (I.tok _) ?_⟩;rw[l];exact(L.val k).getD rfl
 .subst J;cases(show u=Value.ref b from O);obtain⟨z,hd,xs,L,G⟩:=kU I.bE e;refine MC Np G.typeIs OD (Pp _ _) (meetsH_dict_get (Om (br X.prog X.w)) a b hd) ⟨Mb R,k,xs,ja I.bE S,G,h _ _ (I.tok _) ?_⟩;rw[l];exact(L.val k).getD rfl
theorem Ed {Q:Value->mu->Prop}(R:A.units+1<Mt) (I:Inv X pins σ H s) (g:dC H a y o) (O:RelV y u) (rd:RelV d r) (h:∀N s',Inv X pins σ H s'->RelV (o.getD d) N->Q N s') :
  wpAny (model X.prog X.w) A (call (.builtin "dict.get") [.ref a,u,r]) Q E s:=by
 rcases g with⟨kvs,k,e,J,l⟩|⟨kvs,k,b,e,J,S,l⟩
 .subst J;obtain⟨z,hd,vs,L,G⟩:=jE I.bE e;refine MC Np G.typeIs OD (Pq _ _ _) (meets_dict_get_default (br X.prog X.w) a (iP O) hd r) ⟨_,G.mapOf,h _ _ (I.tok _) ?_⟩;rw[l];exact(L.val k).getD rd
 .subst J;cases(show u=Value.ref b from O);obtain⟨z,hd,xs,L,G⟩:=kU I.bE e;refine MC Np G.typeIs OD (Pq _ _ _) (meetsH_dict_get_default (Om (br X.prog X.w)) a b hd r) ⟨Mb R,k,xs,ja I.bE S,G,h _ _ (I.tok _) ?_⟩;rw[l];exact(L.val k).getD rd
end
inductive xy (td ty:TE) (σ:St) (Q:VK) (x:V) (H1:Hp):Prop
 |mk (a:_) (_:x=.ref a) (_:FV H1 a) (_:ty σ H1 λy H2=>∃o,dC H2 a y o/\Q (o.getD .non) H2):xy td ty σ Q x H1
def Ea (td ty:TE):TE:=λσ H Q=>td σ H λx H1=>xy td ty σ Q x H1
inductive w9 (td ty tx:TE) (σ:St) (Q:VK) (x:V) (H1:Hp):Prop
 |mk (a:_) (_:x=.ref a) (_:FV H1 a) (_:ty σ H1 λy H2=>tx σ H2 λz H3=>∃o,dC H3 a y o/\Q (o.getD z) H3):w9 td ty tx σ Q x H1
def DY (td ty tx:TE):TE:=λσ H Q=>td σ H λx H1=>w9 td ty tx σ Q x H1
inductive xm (td ty:TE) (σ:St) (Q:VK) (x:V) (H1:Hp):Prop
 |mk (a:_) (_:x=.ref a) (_:FV H1 a) (_:ty σ H1 λy H2=>∃kvs k v,H2 a=some (.dK kvs)/\y=kV k/\dJ kvs k=some v/\Q v (upd H2 a (.dK (lO kvs k)))):xm td ty σ Q x H1
def D1 (td ty:TE):TE:=λσ H Q=>td σ H λx H1=>xm td ty σ Q x H1
section
variable {X:Cx}{o e f:KJ}{apos cpos:Nj}{td ty tx:TE}
theorem zX (hu:X.A.units+1<Mt) (ho:PE X o td) (Y:PE X e ty) (m:M1 X o "get" apos e cpos):PE X (.Call (.Attribute o "get" apos) [e] [] cpos) (Ea td ty):=by
 intro pins s σ H Q I h;refine NL m.base m.Hr m.line MG Np P9 (bT (ho pins s σ H _ I h) λu L ab=>?_);obtain⟨x,H1,G,R,a,ex,d,q1⟩:=ab;subst ex;obtain rfl:u=Value.ref a:=R;obtain⟨J,t2,_⟩:=ky G d;refine⟨J,t2,?_⟩;rw[m.trees];refine Calls.callWith_builtin rfl (Calls.evalArgs_plain (Calls.spliced_cons (bT (Y pins L σ H1 _ G q1) λiv s2 U=>?_)));obtain⟨y,H2,S,O,ov,g,q2⟩:=U;refine Calls.spliced_nil ?_;exact E6 hu S g O λw' s3 N ac=>⟨_,H2,N,ac,q2⟩
theorem r6 (hu:X.A.units+1<Mt) (ho:PE X o td) (Y:PE X e ty) (hf:PE X f tx) (m:M2 X o "get" apos e f cpos):PE X (.Call (.Attribute o "get" apos) [e,f] [] cpos) (DY td ty tx):=by
 intro pins s σ H Q I h;refine NL m.base m.Hr m.line MG Np P9 (bT (ho pins s σ H _ I h) λu L ac=>?_);obtain⟨x,H1,G,R,a,ex,d,q1⟩:=ac;subst ex;obtain rfl:u=Value.ref a:=R;obtain⟨J,t2,_⟩:=ky G d;refine⟨J,t2,?_⟩;rw[m.trees];refine Calls.callWith_builtin rfl (Calls.evalArgs_plain (Calls.spliced_cons (bT (Y pins L σ H1 _ G q1) λiv s2 ⟨y,H2,S,O,q2⟩ =>
  Calls.spliced_cons (bT (hf pins s2 σ H2 _ S q2) λfv s3 ⟨z,U,N,rz,ov,g,q3⟩=>Calls.spliced_nil ?_))))
 exact Ed hu N g O rz λw' s4 I4 ab=>⟨_,U,I4,ab,q3⟩
theorem eu (ho:PE X o td) (U:PE X e ty) (m:M1 X o "pop" apos e cpos):PE X (.Call (.Attribute o "pop" apos) [e] [] cpos) (D1 td ty):=by
 intro pins s σ H Q I h;refine NL m.base m.Hr m.line MG P8 PySem.F.type_dict_pop (bT (ho pins s σ H _ I h) λu L ab=>?_);obtain⟨x,H1,G,R,a,ex,d,q1⟩:=ab;subst ex;obtain rfl:u=Value.ref a:=R;obtain⟨J,t2,_⟩:=ky G d;refine⟨J,t2,?_⟩;rw[m.trees];refine Calls.callWith_builtin rfl (Calls.evalArgs_plain (Calls.spliced_cons (bT (U pins L σ H1 _ G q1) λiv s2 ai=>?_)));obtain⟨y,H2,S,O,kvs,k,v,ea,ey,l,Y⟩:=ai;refine Calls.spliced_nil ?_;subst ey;exact HA S ea O l (.inl rfl) λw' s3 N ac=>⟨v,_,N,ac,Y⟩
end
section
variable {X:Cx}{pins:List (Addr×Obj)}{σ:St}{H:Hp}{s:mu}{a:Addr}{kvs:List (Key×V)}{A:KA}{E:Value->mu->Prop}
end
section
variable {X:Cx}{pins:List (Addr×Obj)}{σ:St}{H:Hp}{s:mu}{a:Addr}{y:V}{u:Value}{A:KA}{E:Value->mu->Prop}
end
section
variable {X:Cx}
theorem kG:dt X (.builtin "len") (λxs H Q=>∃a kvs,xs=[V.ref a]/\H a=some (.dK kvs)/\Q (.int kvs.length) H):=by
 intro pins s σ H xs us Q I r h;obtain⟨a,kvs,rfl,G,q⟩:=h;obtain⟨u,rfl,L⟩:=vals1 r;cases L;exact FL I (.inl G) λt s' J=>⟨.int kvs.length,H,J,⟨t,rfl⟩,q⟩
end
section
variable {κ:Type} [DecidableEq κ]
theorem gy:∀{l:List κ}{k:κ},l.Nodup->¬ k∈l->(l++[k]).Nodup
 | [],k,_,_=>by simp
 |a::r,k,h,G=>by
  obtain⟨h1,h2⟩:=Ky.mp h;show(a::(r++[k])).Nodup;refine Ky.mpr ⟨λm=>?_,gy h2 λm=>G (E3.mpr (Td m))⟩;rcases pa.mp m with q|q
  .exact h1 q
  .exact G (E3.mpr (Tc (kQ.mp q).symm))
end
section
variable {X:Cx}{pins:List (Addr×Obj)}{σ:St}{H:Hp}{s:mu}{a:Addr}{kvs:List (Key×V)}{k:Key}{u r:Value}{d:V}{A:KA}{E:Value->mu->Prop}
theorem Fm {Q:Value->mu->Prop}(I:Inv X pins σ H s) (e:H a=some (.dK kvs)) (S:RelV (kV k) u) (rd:RelV d r) (hl:kvs.length<sizeLine)
  (h1:∀v J s',dJ kvs k=some v->Inv X pins σ H s'->RelV v J->Q J s') (h2:∀s',dJ kvs k=none->Inv X pins σ (upd H a (.dK (putK kvs k d))) s'->Q r s') :
  wpAny (model X.prog X.w) A (call (.builtin "dict.setdefault") [.ref a,u,r]) Q E s:=by
 obtain⟨z,hd,vs,G,R⟩:=fU I.bE e;refine MC Od R.typeIs PySem.F.entry_dict_setdefault (PySem.F.args_dict_setdefault_3 _ _ _) (kt_meets_setdefault (br X.prog X.w) a (iP S) hd r)
  ⟨vs,R,by rw[<-G.length];exact z,λv L=>?_,λU h' N hs=>?_⟩
 .have q:=G.val k;cases l:dJ kvs k with
  |none=>rw[l]at q;rw[fM.none_of q]at L;cases L
  |some y =>
   rw[l]at q;obtain⟨J,O,ab⟩:=fM.some_of q;rw[L]at O;cases O;exact h1 y v _ l (I.tok _) ab
 .have l:dJ kvs k=none:=by
   cases l:dJ kvs k with
   |none=>rfl
   |some y =>
    have q:=G.val k;rw[l,U]at q;cases q
  have he:∃q,h'.get? a=some q:=let ⟨q,_,_,Y,_⟩:=N;⟨q,Y⟩;exact h2 _ l (jl I (by rw[e];exact LG) hs he (mf (by have:=fq kvs k d;exact Ko this hl) hd (G.put k rd) N))
end
inductive wZ (td ty tx:TE) (σ:St) (Q:VK) (x:V) (H1:Hp):Prop
 |mk (a:_) (_:x=.ref a) (_:FV H1 a) (_:ty σ H1 λy H2=>tx σ H2 λz H3=>∃kvs k,H3 a=some (.dK kvs)/\y=kV k/\kvs.length<sizeLine/\(∀v,dJ kvs k=some v->Q v H3)/\(dJ kvs k=none->Q z (upd H3 a (.dK (putK kvs k z))))):wZ td ty tx σ Q x H1
def DP (td ty tx:TE):TE:=λσ H Q=>td σ H λx H1=>wZ td ty tx σ Q x H1
section
variable {X:Cx}{o e f:KJ}{apos cpos:Nj}{td ty tx:TE}
theorem AZ (ho:PE X o td) (he:PE X e ty) (hf:PE X f tx) (m:M2 X o "setdefault" apos e f cpos):PE X (.Call (.Attribute o "setdefault" apos) [e,f] [] cpos) (DP td ty tx):=by
 intro pins s σ H Q I h;refine NL m.base m.Hr m.line MG Od PySem.F.type_dict_setdefault (bT (ho pins s σ H _ I h) λu O ab=>?_);obtain⟨x,H1,J,U,a,ex,d,q1⟩:=ab;subst ex;obtain rfl:u=Value.ref a:=U;obtain⟨N,t2,_⟩:=ky J d;refine⟨N,t2,?_⟩;rw[m.trees];refine Calls.callWith_builtin rfl (Calls.evalArgs_plain (Calls.spliced_cons (bT (he pins O σ H1 _ J q1) λiv s2 ⟨y,H2,Y,S,q2⟩ =>
  Calls.spliced_cons (bT (hf pins s2 σ H2 _ Y q2) λfv s3 ⟨z,H3,R,L,kvs,k,ea,ey,hl,q3,q4⟩=>Calls.spliced_nil ?_))))
 subst ey;exact Fm R ea S L hl (λv w' s4 l G ac=>⟨v,_,G,ac,q3 v l⟩) λs4 l G=>⟨z,_,G,L,q4 l⟩
end
section
variable {X:Cx}{pins:List (Addr×Obj)}{σ:St}{H:Hp}{s:mu}{a:Addr}{o:Obj}{u:HO}{kvs:List (Key×V)}
theorem Inv.swap {w:HO}(I:Inv X pins σ H s) (h:H a=some u) (h1:∀o G,X.H₀ a≠some (.frz o G)) (h2:∀xs,u≠.tup xs) (h3:∀ps,u≠.tbl ps) (O:∀x,u≠.own x) (new:bS X.prog X.w (upd H a w) s.heap a w):Inv X pins σ (upd H a w) s:=by
 have J:∀b,H b=none->b≠a:=λb q z=>(by rw[z,h]at q;cases q);refine⟨I.ok,I.os,I.bare,⟨I.base.keep,I.base.slot,λb o q S Y=>?_,I.base.there,λb xs q=>?_,λb o G q=>?_,λb ps q=>?_⟩,I.loc,I.cell,?_,λy c q=>?_,λp hp=>?_,λb v q=>?_,I.len⟩
 .have z:=I.base.free b o q S Y;rw[ah (J b z)];exact z
 .have z:=I.base.qX b xs q;rw[ah (λe=>h2 xs (by rw[e,h]at z;exact ro z))];exact z
 .have z:=I.base.oq b o G q;rw[ah (λe=>h1 o G (by rw[<-e];exact q))];exact z
 .obtain⟨U,z⟩:=I.base.oe b ps q;exact⟨U,by rw[ah (λe=>h3 _ (by rw[e,h]at z;exact ro z))];exact z⟩
 .rw[ah (J _ I.free)];exact I.free
 .rw[ah (J _ (I.gK y c q))];exact I.gK y c q
 .obtain⟨R,N,a3⟩:=I.pin p hp;exact⟨R,by rw[ah (J _ N)];exact N,a3⟩
 .by_cases L:b=a
  .subst L;rw[ae]at q;cases q;exact new
  .rw[ah L]at q;exact(I.bE b v q).lQ (λ_ _ _ z=>z) (λc z=>by rw[ah (λe=>O b (by rw[e,h]at z;exact ro z))];exact z) λc xs z=>by rw[ah (λe=>h2 xs (by rw[e,h]at z;exact ro z))];exact z
theorem Inv.freeze (I:Inv X pins σ H s) (h:H a=some (.dK kvs)) (G:s.heap.get? a=some o) (h1:∀o J,X.H₀ a≠some (.frz o J)):Inv X pins σ (upd H a (.frz o (.dK kvs))) s :=
 I.swap h h1 (λ_ z=>nomatch z) (λ_ z=>nomatch z) (λ_ z=>nomatch z) ⟨G,(show bS X.prog X.w H s.heap a (.dK kvs)from I.bE a _ h)⟩
theorem Inv.D7 (I:Inv X pins σ H s) (h:H a=some (.frz o (.dK kvs))) (h1:∀o G,X.H₀ a≠some (.frz o G)):Inv X pins σ (upd H a (.dK kvs)) s :=
 I.swap h h1 (λ_ z=>nomatch z) (λ_ z=>nomatch z) (λ_ z=>nomatch z) (show bS X.prog X.w H s.heap a (.frz o (.dK kvs))from I.bE a _ h).2
end
def y8 (o:Obj):Nat:=match o.data with
 |.dict _ ep=>ep
 |_=>0
def Eo (a:Addr) (o:Obj) (kvs:List (Key×V)):It :=
 ⟨λi H=>H a=some (.frz o (.dK kvs))/\i<kvs.length,λi H x H'=>H'=H/\∃k v,kvs[i]?=some (k,v)/\x=kV k,λi H=>H a=some (.frz o (.dK kvs))/\kvs.length<=i⟩
theorem ml {P:ti}{w:Kl}{k:Key}{u:Value}(h:(br P w).is k u=true):RelV (kV k) u:=by
 rcases ck (show mZ k u=true from h)with⟨i,t,rfl,rfl⟩|⟨x,t,rfl,rfl⟩
 .exact⟨t,rfl⟩
 .exact⟨t,rfl⟩
theorem kD {P:ti}{w:Kl}{H:Hp}{h:Heap}{a:Addr}{o:Obj}{kvs:List (Key×V)}(ok:iS P w H h) (e:H a=some (.frz o (.dK kvs))):(a==Mo)=false/\∃vs,KV kvs vs/\h.DictAt (br P w) a vs (y8 o):=by
 obtain⟨G,_,hd,vs,r,o',es,ep,h1,h2,I,L⟩:=(show bS P w H h a (.frz o (.dK kvs))from ok a _ e);rw[G]at h1;cases h1;have J:y8 o=ep:=(by unfold y8;rw[I]);exact⟨hd,vs,r,o,es,G,h2,by rw[J];exact I,L⟩
theorem xH {P:ti}{w:Kl}{K:Kq}{tg:KJ}(a G:Addr) (aB:a≠G) (o:Obj) (kvs:List (Key×V)):Turn P w K tg (Eo a o kvs) [G] G (λi h=>h.IsKeyIter G a i kvs.length (y8 o)) where
 mem:=by simp
 obj:=λi h st b J=>by
  have e:b=G:=(by simpa using J);subst e;obtain⟨ob,h1,_,h3⟩:=st;exact⟨ob,h1,λv z=>by rw[h3]at z;cases z⟩
 keep:=λi h h' st k=>st.at λo e=>k G (by simp) o e
 item:=by
  intro X hP hw S hc i pins s σ H E I N st Y;subst hP hw S;obtain⟨ab,O⟩:=Y;obtain⟨f0,f1,f2,U,f4,f5⟩:=N G (by simp);obtain⟨hd,vs,r,R⟩:=kD I.bE ab;have L:=r.length;obtain⟨⟨k,x⟩,hx⟩:∃p,vs[i]?=some p:=⟨vs[i]'(Ln O L),by simp⟩;have ap:∃v,kvs[i]?=some (k,v):=by
   have hi:i<kvs.length:=O;refine⟨(kvs[i]).2,?_⟩;have e:=r.keys;have e1:(kvs.map (·.1))[i]?=(vs.map (·.1))[i]?:=(by rw[e]);rw[wh,wh,hx,IF hi]at e1;have e2:kvs[i].1=k:=ro e1;rw[IF hi, <-e2]
  obtain⟨v,hv⟩:=ap;rw[L]at st ⊢;refine wpAny_pyNext_dict_item st R hx λas h' am ac ai=>?_;have I1:Inv X pins σ H { s with heap:=h',toks:=s.toks }:=I.turned (λb o J e=>(ai.2 b J).trans e) f0 f1 U f4 f5;obtain⟨ob,h1,h2,h3⟩:=id ac;exact⟨_,rfl,pz (s:={ s with heap:=h' }) (n := "dict_keyiterator") h1 h2 h3 av ⟨kV k,H,I1,ml am,⟨rfl,k,v,hv,rfl⟩,ac,λb J=>(N b J).1⟩⟩
 done:=by
  intro X hP hw S hc i pins s σ H E I N st Y;subst hP hw S;obtain⟨ab,O⟩:=Y;obtain⟨f0,f1,f2,U,f4,f5⟩:=N G (by simp);obtain⟨hd,vs,r,R⟩:=kD I.bE ab;have L:=r.length;rw[L]at st;exact wpAny_pyNext_dict_end (I.ok.hd hc) st R (by simp;exact le_of_eq_of_le (id (MU L)) O) λh' eb=>⟨rfl,I.turned (t':=s.toks) (λb o J e=>eb b o J e) f0 f1 U f4 f5⟩
 self:=λ_ _ _ _ _ st h=>wpAny_pyIter_keyiter st h
def F9 (H₀:Hp) (td:TE):TI:=λσ H R=>td σ H λx H1=>y7 λa kvs=>Fq (x=.ref a) (H1 a=some (.dK kvs)) ((∀o G,H₀ a≠some (.frz o G))) (∀o,R (Eo a o kvs) (upd H1 a (.frz o (.dK kvs))))
section
variable {X:Cx}{tg:KJ}
theorem wW {l:KJ}{td:TE}(U:PE X l td):PI X tg l (F9 X.H₀ td):=by
 intro pins s σ H R I h;refine bT (U pins s σ H _ I h) λv G ab=>?_;obtain⟨x,H1,O,r1,a,kvs,e,N,hn,q⟩:=ab;subst e;cases r1;obtain⟨_,hd,vs,Y,dd⟩:=fU O.bE N;obtain⟨J,es,ep,h1,h2,h3,h4⟩:=id dd;have L:=O.freeze N h1 hn;have lt:a<G.heap.objs.size:=Heap.lt_size h1;have S:G.heap.DictAt (br X.prog X.w) a vs (y8 J):=⟨J,es,h1,h2,by unfold y8;rw[h3],h4⟩;refine wpAny_pyIter_dict hd S ?_;refine⟨G.heap.objs.size,[G.heap.objs.size],_,Eo a J kvs,_,rfl,L.kept (t':=G.toks) λb o e=>Heap.get?_push_of_some _ e,xH a _ (KN lt) J kvs,⟨_,Heap.get?_push_size _ rfl,rfl,?_⟩,λb hb=>?_,q J⟩
 .rw[Y.length];rfl
 .have e:b=G.heap.objs.size:=(by simpa using hb);subst e;exact L.jy (sS _) (L.bE.fresh (sS _))
def Gx (H₀:Hp) (t:TS):TS:=λD σ H=>t { D with
 nx:=λI H'=>∃a o kvs,H' a=some (.frz o (.dK kvs))/\(∀o G,H₀ a≠some (.frz o G))/\D.nx I (upd H' a (.dK kvs))
 rt:=λv H'=>∃a o kvs,H' a=some (.frz o (.dK kvs))/\(∀o G,H₀ a≠some (.frz o G))/\D.rt v (upd H' a (.dK kvs)) } σ H
theorem xD {st:KO}{t:TS}(h:PS X st t):PS X st (Gx X.H₀ t):=by
 intro pins s σ H D I q;refine bT (h pins s σ H _ I q) λf S G=>?_;cases f with
 |next =>
  obtain⟨N,H',O,a,o,kvs,J,L,R⟩:=G;exact⟨N,_,O.D7 J L,R⟩
 |ret u =>
  obtain⟨v,N,H',O,r,a,o,kvs,J,L,R⟩:=G;exact⟨v,N,_,O.D7 J L,r,R⟩
 |brk=>exact G
 |cont=>exact G
end
theorem Bf {a:Addr}{o:Obj}{kvs:List (Key×V)}{g:TG}{tb:TS}{D:Ends}{σ:St}{H:Hp}(Pv:Nat->St->Hp->Prop) (U:Pv 0 σ H) (S:∀i σ H,i<=kvs.length->Pv i σ H->H a=some (.frz o (.dK kvs)))
  (hs:∀i k v σ H,kvs[i]?=some (k,v)->Pv i σ H->g (kV k) σ H λJ H2=>tb { D with nx:=Pv (i+1),ct:=Pv (i+1),bk:=D.nx } J H2) (hd:∀σ H,Pv kvs.length σ H->D.nx σ H) :
  ∃W:Nat->Nat->St->Hp->Prop,(∃m,W 0 m σ H)/\∀i m σ H,W i m σ H ->
   ((Eo a o kvs).stop i H/\D.nx σ H)\/((Eo a o kvs).go i H/\∃N:St->Hp->Prop,(∀I H',N I H'->∃L,L<m/\W (i+1) L I H')/\∀x H',(Eo a o kvs).Cg i H x H'->g x σ H' λJ H2=>tb { D with nx:=N,ct:=N,bk:=D.nx } J H2):=by
 refine⟨λi m σ H=>m=kvs.length-i/\i<=kvs.length/\Pv i σ H,⟨kvs.length,by simp,KI _,U⟩,?_⟩;rintro i m σ H ⟨rfl,hi,p⟩;have q:=S i σ H hi p;by_cases G:i<kvs.length
 .refine .inr ⟨⟨q,G⟩,Pv (i+1),λI H' R=>⟨kvs.length-(i+1),Lf (LI kvs) i G,rfl,G,R⟩,λx H' y=>?_⟩;obtain⟨e,k,v,O,ex⟩:=y;subst e ex;exact hs i k v σ _ O p
 .have e:i=kvs.length:=af;subst e;exact .inl ⟨⟨q,sS _⟩,hd σ H p⟩
section
variable {X:Cx}
inductive Hb (K:Kq) (x:V) (y:V) (H:Hp) (Q:VK):Prop
 |mk (p:_) (q:_) (xs:_) (ys:_) (_:x=.ref p) (_:y=.ref q) (_:bq K H p xs) (_:bq K H q ys) (_:xs.all cV=true) (_:ys.all cV=true) (_:Q (.bl (!gM xs ys)) H):Hb K x y H Q
theorem AV (R:X.A.units<Mt):j4 X (LB .NotEq) (Hb X.K):=by
 intro pins s σ H x y v u Q I rx ry h;obtain⟨p,q,xs,ys,rfl,rfl,hx,hy,fx,fy,S⟩:=h;cases rx;cases ry;obtain⟨its,r,pl,hz⟩:=I.list hx;obtain⟨O,N,Y,ai⟩:=I.list hy;have G:=r.length;have U:=N.length;by_cases e:xs.length=ys.length
 .refine Pb (e:=λj=>jV (xs.getD j .non) (ys.getD j .non)) pl.isList Y.isList (by rw[qj,qj];omega) R (λj h1 h2=>?_) _ _ _ _ ⟨.bl (!gM xs ys),H,I,?_,S⟩
  .have J:j<xs.length:=(by rw[qj]at h1;exact Ln h1 (id (MU G)));have L:j<ys.length:=Ln h2 (id (MU U));obtain⟨a,ea,ra⟩:=r.get (i:=j) (x:=xs[j]) (by simp[J]);obtain⟨b,eb,rb⟩:=N.get (i:=j) (x:=ys[j]) (by simp[L]);obtain⟨_,ab⟩:=j1.mp ea;obtain⟨_,ac⟩:=j1.mp eb;have g1:xs.getD j .non=xs[j]:=(by simp[J]);have g2:ys.getD j .non=ys[j]:=(by simp[L]);show Mp _ _ its.toArray[j] O.toArray[j] (jV (xs.getD j .non) (ys.getD j .non));rw[g1,g2];have f1:cV xs[j]=true:=KH.mp fx _ (LK J);have f2:cV ys[j]=true:=KH.mp fy _ (LK L);have z:=iX (A:=X.A.in1) (s:=s) ra rb f1 f2;have a1:its.toArray[j]=a:=(by simpa using ab);have a2:O.toArray[j]=b:=(by simpa using ac);rw[a1,a2];exact z
  .show Value.bool _=Value.bool _;rw[qj, <-G,gw e]
 .refine Q8 pl.isList Y.isList ?_ R _ _ _ _ ⟨.bl (!gM xs ys),H,I,?_,S⟩
  .rw[qj,qj, <-G, <-U];exact bne_iff_ne.mpr e
  .show Value.bool _=Value.bool _;rw[jO e];rfl
end
def DE (lo st:Int) (n:Nat):It:=⟨λi _=>i<n,λi H x H'=>H'=H/\x=.int (lo+i*st),λi _=>n<=i⟩
theorem sG {P:ti}{w:Kl}{K:Kq}{tg:KJ}(G:Addr) (lo st:Int) (n:Nat):Turn P w K tg (DE lo st n) [G] G (λi h=>Qc h G (lo+(i:Nat)*st) ((n:Int)-(i:Nat)) st) where
 mem:=by simp
 obj:=λi h st b J=>by
  have e:b=G:=(by simpa using J);subst e;exact⟨_,st,λv z=>by
   have z':OO _=NR v:=z;cases z'⟩
 keep:=λi h h' st k=>k G (by simp) _ st
 item:=by
  intro X Y S N hc i pins s σ H E I L ab R;subst Y S N;obtain⟨f0,f1,f2,O,U,f5⟩:=L G (by simp);have W:=SN (prog:=X.prog) (w:=X.w) (I.ok.hd hc) G lo st n;refine W.item i s _ _ R ab λv h' tk hv ac kk=>?_;obtain⟨t,rfl⟩:=hv;have I1:Inv X pins σ H { s with heap:=h',toks:=tk }:=I.turned (λb o J e=>kk b o (by simpa using J) e) f0 f1 O U f5;exact⟨_,rfl,pz (s:={ s with heap:=h',toks:=tk }) (n := "range_iterator") ac rfl rfl av ⟨.int (lo+i*st),H,I1,⟨t,rfl⟩,⟨rfl,rfl⟩,ac,λb J=>(L b J).1⟩⟩
 done:=by
  intro X Y S N hc i pins s σ H E I L ab R;subst Y S N;obtain⟨f0,f1,f2,O,U,f5⟩:=L G (by simp);exact PD (I.ok.hd hc) ab (by have:n<=i:=R;omega) λh' eb=>⟨rfl,I.turned (t':=s.toks) (λb o J e=>eb b o J e) f0 f1 O U f5⟩
 self:=λ_ _ _ _ _ st h=>PF st h
def F3 (ta:TA):TI:=λσ H R=>ta σ H λvs H1=>∃(i j st:Int) (n:Nat),vs=[.int i,.int j,.int st]/\Builtin.Range.small i j st=true/\Builtin.Range.rangeSize i j st=(n:Int)/\st≠0/\Builtin.divisionGoesByPylong (j-i) st=false/\R (DE i st n) H1
section
variable {X:Cx}{tg:KJ}
theorem yQ {a b c:KJ}{ta:TA}{p pos:Nj}(U:Gl X "range") (hm:X.mg "range" = none) (ha:PA X [a,b,c] ta) (hs:starEach [a,b,c] X.env=[(false,eval a X.env),(false,eval b X.env),(false,eval c X.env)]:=by rfl) (O:starEach [b,c] X.env=[(false,eval b X.env),(false,eval c X.env)]:=by rfl) :
  PI X tg (.Call (.Name "range" p) [a,b,c] [] pos) (F3 ta):=by
 intro pins s σ H R I h;refine Call_ (gE I U hm RE (Lk (bT (ha pos pins s σ H _ I h) λus J ⟨vs,H1,I1,r1,N⟩=>?_) (by rw[hs,O]) (by rw[O];rfl)));obtain⟨i,j,st,n,e,N,q2,Y,q4,q⟩:=N;subst e;cases r1 with
 |cons r G =>
  cases G with
  |cons r' G =>
   cases G with
   |cons ab G =>
    cases G;obtain⟨t,rfl⟩:=r;obtain⟨t',rfl⟩:=r';obtain⟨ac,rfl⟩:=ab;refine call_range_3 Y ?_ (.inl q4);refine QC (SO ..) N ?_;have L:Inv X pins σ H1 { J with heap:=J.heap.push { cls:=.type "range",data:=.fields #[.int i t,.int j t',.int st ac] },toks:=J.toks }:=I1.kept λb o e=>Heap.get?_push_of_some _ e;refine⟨_,[_],_,_,H1,rfl,L.kept (t':=J.toks) λb o e=>Heap.get?_push_of_some _ e,sG _ i st n,?_,λb hb=>?_,q⟩
    .have e1:i+((0:Nat):Int)*st=i:=(by simp);have S:(n:Int)-((0:Nat):Int)=Builtin.Range.rangeSize i j st:=(by rw[q2];omega);show Qc _ _ (i+((0:Nat):Int)*st) ((n:Int)-((0:Nat):Int)) st;rw[e1,S];exact Heap.get?_push_size _ rfl
    .have e:=kQ.mp hb;subst e;exact L.jy (sS _) (L.bE.fresh (sS _))
end
theorem Bj (K:Kq):Nw K (.type "int") (.type "tuple")=some false:=by with_unfolding_all rfl
theorem AG (K:Kq):Nw K (.type "int") (.type "list")=some false:=by with_unfolding_all rfl
theorem Ae (K:Kq):Nw K (.type "int") (.type "dict")=some false:=by with_unfolding_all rfl
theorem AM (K:Kq):Nw K (.type "str") (.type "tuple")=some false:=by with_unfolding_all rfl
theorem zM (K:Kq):Nw K (.type "str") (.type "list")=some false:=by with_unfolding_all rfl
theorem Au (K:Kq):Nw K (.type "str") (.type "dict")=some false:=by with_unfolding_all rfl
theorem zU (K:Kq):Nw K (.type "NoneType") (.type "tuple")=some false:=by with_unfolding_all rfl
theorem zB (K:Kq):Nw K (.type "NoneType") (.type "list")=some false:=by with_unfolding_all rfl
theorem Bq (K:Kq):Nw K (.type "NoneType") (.type "dict")=some false:=by with_unfolding_all rfl
theorem D5 (K:Kq):Nw K (.type "tuple") (.type "tuple")=some true:=rfl
end L2
namespace Srt
open PySem PyProof.Rows
theorem qG:∀{vs:List Value}{ns:List Int},vs.length=ns.length->(∀(j:Nat) (v:Value),vs[j]?=some v->∃(m:Int) (t:SK),ns[j]?=some m/\v=.int m t)->LY vs ns
 | [],[],_,_=>.nil
 |v::vs,n::ns,G,h=>by
  obtain⟨m,t,e,rfl⟩:=h 0 v rfl;cases e;exact .cons n t (qG (by simpa using G) λj u I=>by simpa using h (j+1) u (by simpa using I))
 | [],_::_,G,_=>by simp at G
 |_::_,[],G,_=>by simp at G
section
variable {prog:ti}{w:Kl}{A:KA}{E:Value->mu->Prop}{s:mu}{T:String}{r d:Addr}{n:Nat}{P:Nat->Value->Prop}{OK:Heap->Prop}
theorem uX {ns:List Int}{Q:Value->mu->Prop}(S:KdlSrc prog w T r d n P OK) (R:A.handled=none) (bE:OK s.heap) (hP:∀(i:Nat) (v:Value),P i v->∃(m:Int) (t:SK),ns[i]?=some m/\v=.int m t) (hl:ns.length=n) (hn:ns.Nodup) (hz:n<=1000)
  (k:∀(h1 h':Heap) (tk:Nat) (out:Array Value) (ns':List Int) (e:Nat),(∀b o,s.heap.get? b=some o->h1.get? b=some o)->(∀b o,h1.get? b=some o->h'.get? b=some o)->h'.get? h1.objs.size=some (seqObj "list" out e)->LY out.toList ns'->ns'.Perm ns->ns'.Pairwise (· <= ·)->Q (.ref h1.objs.size) { s with heap:=h',toks:=tk }) :
  wpAny (model prog w) A (call (.builtin "sorted") [.ref r]) Q E s:=by
 have lz:sizeLine=16777216:=BY;refine Calls.call_function_entry Ro Q6 Q7 (args_sorted1 _) ?_;refine oR (m:=R0 "sorted" 1 1 _) (By (oR (kdu_collect (A:=A.in1) S R bE af λh1 tk G k1 L=>?_)));have ln:G.toList.length=n:=(by rw[Ly];exact L.1);refine oR (O8 ?_ af);have O:LY G.toList ns:=qG af λj v e=>hP j v (L.2 j v (by rw[<-LJ];exact e));have I:=Heap.get?_push_size h1 (o:=seqObj "list" G.toList.toArray 0) rfl;show wpAny _ _ _ _ _ { s with heap:=h1.push (seqObj "list" G.toList.toArray 0),toks:=tk };refine oR (LS (Nc Qk ⟨_,I,rfl⟩ P1 (pG I O hn af λout ns' w1 N U=>⟨_,rfl,By ⟨_,rfl,?_⟩⟩) (args_list_sort _)));obtain⟨e,Y⟩:=sortedHeap_at (vs:=G.toList) (out:=out) I;refine k h1 _ tk out ns' e k1 (λb o J=>?_) Y w1 N U;have lt:=Heap.lt_size J;rw[sortedHeap_old (KN lt) (by rw[RY];exact N1 lt),Heap.get?_push_ne _ _ _ (KN lt)];exact J
end
end Srt
namespace L2
open PySem PySem.Spec PyProof.Rows
section
variable {X:Cx}
theorem qU:dt X (.builtin "sorted") (λxs H Q=>∃(p:Addr) (ns:List Int),xs=[.ref p]/\bq X.K H p (ns.map V.int)/\ns.Nodup/\ns.length<=1000/\∀(l:Addr) (ns':List Int),H l=none->ns'.Perm ns->ns'.Pairwise (· <= ·)->Q (.ref l) (upd H l (.lst (ns'.map V.int)))):=by
 intro pins s σ H xs us Q I r h;obtain⟨p,ns,rfl,S,N,hn,q⟩:=h;obtain⟨u,rfl,U⟩:=vals1 r;cases U;obtain⟨its,G,pl,hz⟩:=I.list S;have L:=intsAre_of G;have O:=G.length;rw[nq]at O;refine Srt.uh pl.isList L N af λout ns' Y J a3=>?_;obtain⟨e,R⟩:=sortedAll_at s.heap its out;have hs:=BY;refine⟨.ref (s.heap.objs.size+1),_,I.laid (t':=s.toks) (λb o e=>sortedAll_old e) (Oi _) (show bS X.prog X.w _ _ _ (.lst (ns'.map V.int))from⟨by rw[nq,J.length_eq];omega,out.toList,e,fZ Y,by simpa using R⟩),rfl,q _ ns' (I.bE.fresh (Oi _)) J a3⟩
end
end L2
namespace Srt
open PySem PyProof.Rows
theorem sI {prog:ti}{w:Kl}{A:KA}{I:Addr}{fp wr:List Addr}{G:Array QO->Array QO->Prop}{n:Nat}{P:Nat->Value->Prop}{St:Nat->mu->Prop}(W:WalksS prog w A I fp wr G n P St) (m:Nat) (L:Nat->Value->Prop) :
  WalksS prog w A I fp wr G (m+n) (λj v=>(j<m/\L j v)\/(m<=j/\P (j-m) v)) (λi s=>m<=i/\St (i-m) s) where
 sub:=W.sub
 grefl:=W.grefl
 gtrans:=W.gtrans
 frame:=λi s h' tk st J O=>⟨st.1,W.frame (i-m) s h' tk st.2 J O⟩
 item:=λi s Q E hi st h=>W.item (i-m) s Q E (by have:=st.1;omega) st.2 λv s' R N S=>h v s' (.inr ⟨st.1,R⟩) ⟨by have:=st.1;omega,by rw[show i+1-m=i-m+1 by have:=st.1;omega];exact N⟩ S
 done:=λs Q E st h=>W.done s Q E (by have:=st.2;rwa [show m+n-m=n by omega]at this) h
 self:=λi s Q E st h=>W.self (i-m) s Q E st.2 h
section
variable {prog:ti}{w:Kl}{A:KA}{s:mu}{T:String}{r d:Addr}{n:Nat}{P:Nat->Value->Prop}{OK:Heap->Prop}
theorem uL {R:Result->mu->Prop}(Z:KdlSrc prog w T r d n P OK) (hh:A.handled=none) (Y:OK s.heap) (S:Addr) (sr:S≠r) (sd:S≠d) (res:Value) (G:Array Value) (c:Nat) (hS:s.heap.get? S=some { cls:=.type "list",data:=.seq G c }) (hz:G.size+n<sizeLine)
  (k:∀h' tk L J,(∀b o,b≠S->s.heap.get? b=some o->h'.get? b=some o)->h'.get? S=some { cls:=.type "list",data:=.seq L J }->ItemsOf (λj v=>(j<G.size/\G[j]?=some v)\/(G.size<=j/\P (j-G.size) v)) L (G.size+n)->R (.ok (.ret res)) { s with heap:=h',toks:=tk }) :
  wpAny (model prog w) A.in1 (Builtin.List.listExtendWith (.ref S) (.ref r) res) (λas s'=>match as with|.done f=>R (.ok f) s' |.again J=>J.quiet=true/\Oh (model prog w) A J R s') (λe s'=>R (.error e) s') s:=by
 have nI:S≠s.heap.objs.size:=KN (Heap.lt_size hS);obtain⟨oI,St,ap,W,ac⟩:=Z.iter A.in1 s hh Y;have ai:S∉[s.heap.objs.size,d]:=λz=>by
  rcases E3.mp z with e|z
  .exact nI e
  .exact sd (kQ.mp z)
 have am:∀(h:Heap) (c1 tk:Nat),St 0 h->(∀b o,b≠S->s.heap.get? b=some o->h.get? b=some o)->h.get? S=some { cls:=.type "list",data:=.seq G c1 } ->
   Oh (model prog w) A (.builtin "list.extend.loop" ⟨[.ref S,.ref s.heap.objs.size,res],[]⟩) R { s with heap:=h,toks:=tk }:=by
  intro h c1 tk q0 O N;have WS:=sI W.toS G.size λj v=>G[j]?=some v;refine codeAny_extend_loopS WS (QN hz) S ai res n G.size _ G c1 af af ⟨sS _,by rw[Nat.sub_self];exact q0⟩ N ⟨rfl,λj v e=>.inl ⟨?_,e⟩⟩ λs' L J mv e1 e2=>?_
  .exact(Array.getElem?_eq_some_iff.mp e).1
  .rw[Moved.eq_with mv];refine k s'.heap s'.toks L J (λb o I e=>mv.heap b o (λz=>?_) (O b o I e)) e1 e2;rcases E3.mp z with z|z
   .exact I z
   .exact ML _ (kQ.mp z▸Heap.lt_size e)
 unfold Builtin.List.listExtendWith;refine oR (PN (T:=T) (Z.type s Y) ?_);have ns:Builtin.List.listSameRef (.ref S) (.ref r)=false:=(by simp[Builtin.List.listSameRef,sr]);simp only[ns,Z.notList,Z.notTuple,Sn,LP,if_false];refine oR (ap _ _ ?_);have U:=Heap.get?_push_of_some oI hS;refine oR (LS (Z.hint _ _ _ _ (Z.keep _ _ Y λb _ o e=>Heap.get?_push_of_some _ e) ?_));refine wpAny_ite_split (λ_=>?_) (λ_=>By ⟨plainId_quiet OH _,am _ c _ ac (λb o _ e=>Heap.get?_push_of_some _ e) U⟩);refine oR (MX (oR ?_));show wpAny _ _ (updateSeq S (·.push .none)>>=λ_=>updateSeq S (·.pop)) _ _ _;have O:=NT U (·.push Value.none);have N:=NT O (·.pop);have ep:(G.push Value.none).pop=G:=Array.pop_push ..;refine oR (wpAny_updateSeq U rfl (wpAny_updateSeq O rfl (By ⟨plainId_quiet OH _,?_⟩) ?_ ?_) ?_ ?_)
 .rw[ep]at N;refine am _ _ _ (W.frame 0 _ _ ac λb I o e=>?_) (λb o I e=>?_) N
  .have ab:b≠S:=λz=>ai (z▸I);exact(Heap.get?_update_other _ _ (qw ab)).trans ((Heap.get?_update_other _ _ (qw ab)).trans e)
  .exact(Heap.get?_update_other _ _ (qw I)).trans ((Heap.get?_update_other _ _ (qw I)).trans (Heap.get?_push_of_some _ e))
 .show(G.push Value.none).size<=sizeLine;rw[Pn];omega
 .show((G.push Value.none).pop).size<=sizeLine+1;rw[ep];omega
 .omega
 .show(G.push Value.none).size<=sizeLine+1;rw[Pn];omega
end
end Srt
namespace L2
open PySem PySem.Spec PyProof.Rows
theorem qC:∀{xs:List V}{vs:List Value},xs.length=vs.length->(∀(j:Nat) (x:V) (v:Value),xs[j]?=some x->vs[j]?=some v->RelV x v)->Vals xs vs
 | [],[],_,_=>.nil
 |x::xs,v::vs,G,h=>.cons (h 0 x v rfl rfl) (qC (by simpa using G) λj a b J I=>h (j+1) a b (by simpa using J) (by simpa using I))
 | [],_::_,G,_=>by simp at G
 |_::_,[],G,_=>by simp at G
section
variable {X:Cx}
inductive rN (x:V) (vs:List V) (H:Hp) (Q:VK):Prop
 |mk (l:_) (d:_) (xs:_) (kvs:_) (_:x=.ref l) (_:vs=[.ref d]) (_:H l=some (.lst xs)) (_:H d=some (.dK kvs)) (_:xs.length+kvs.length<sizeLine) (_:Q .non (upd H l (.lst (xs++kvs.map λkv=>kV kv.1)))):rN x vs H Q
theorem uD (hc:X.calm=true):En X "list.extend" rN:=by
 intro pins s σ H x vs v us Q I rx rv h;obtain⟨l,d,xs,kvs,rfl,rfl,O,hD,hz,q⟩:=h;cases rx;obtain⟨u,rfl,ru⟩:=rv.one;cases ru;obtain⟨z,its,n,r,hl,e⟩:=I.nK O;obtain⟨_,hd,vs,ac,dd⟩:=fU I.bE hD;obtain⟨ep,am⟩:=dd.dictAt;have ap:=ac.length;have ab:l≠d:=λz=>(by rw[z,hD]at O;cases O);refine QD (codeAny_call_builtin Mr.plain PySem.F.entry_list_extend (Mr.check _ _ _ _ _ _ _ _ ⟨_,e,rfl⟩ (PySem.F.args_list_extend_2 _ _) ?_));show wpAny _ _ (Builtin.List.listExtendWith (.ref l) (.ref d) .none) _ _ s;refine Srt.uL (R:=λr s'=>match r with|.ok (.ret v)=>EP X pins σ Q v s' |.ok _=>False|.error e=>X.xe e s') (kdl_dict (knd:=br X.prog X.w) (kvs:=vs) (ep:=ep) hd) (I.ok.hd hc) am l ab ab .none its.toArray n e (by rw[qj];omega) λh' tk J c' k1 k2 k3=>⟨.non,_,?_,rfl,q⟩;obtain⟨sz,it⟩:=k3;have sz:J.size=its.length+vs.length:=(by rw[sz,qj]);refine I.write (x:=l) (e:=l) (by rw[O];exact trivial) (.inl rfl) k1 ⟨_,k2⟩ (show bS X.prog X.w _ _ _ (.lst _)from⟨?_,J.toList,c',qC ?_ λj x v G hv=>?_,by simpa using k2⟩)
 .rw[E2,nq];omega
 .have al:J.toList.length=J.size:=Ly;rw[E2,nq];omega
 .have ai:J[j]?=some v:=(by rw[<-LJ];exact hv);rcases it j v ai with⟨S,N⟩|⟨S,N⟩
  .rw[qj]at S;rw[Lm af]at G;obtain⟨b,eb,rb⟩:=r.get G;have:its[j]?=some v:=(by simpa using N);rw[this]at eb;cases eb;exact rb
  .rw[qj]at S N;obtain⟨k,y,e1,e2⟩:=N;rw[Lj af,wh]at G;have L:(vs.map (·.1))[j-its.length]?=some k:=(by rw[wh,e1];rfl);rw[<-ac.keys,wh]at L;rw[show j-xs.length=j-its.length by omega]at G;cases U:kvs[j-its.length]? with
   |none=>rw[U]at L;cases L
   |some Y =>
    rw[U]at L G;obtain rfl:Y.1=k:=ro L;obtain rfl:kV Y.1=x:=ro G;exact ml e2
def IG (K:Kq):R2:=λx y H Q=>∃p q xs ys,x=.ref p/\y=.ref q/\bZ K H p xs/\bZ K H q ys/\xs.all cV=true/\ys.all cV=true/\Q (.bl (gM xs ys)) H
theorem oU:∀{xs ys:List V},((Kx (min xs.length ys.length)).all (λj=>jV (xs.getD j .non) (ys.getD j .non))&&xs.length==ys.length)=gM xs ys:=by
 intro xs ys;by_cases e:xs.length=ys.length
 .rw[e,Nat.min_self,beq_self_eq_true,Bool.and_true, <-gw e,e]
 .rw[jO e,beq_eq_false_iff_ne.mpr e,Qg]
theorem uw (hu:X.A.units<Mt):j4 X (LB .Eq) (IG X.K):=by
 intro pins s σ H x y v u Q I rx U h;obtain⟨p,q,xs,ys,rfl,rfl,hx,R,fx,fy,hq⟩:=h;cases rx;cases U;obtain⟨its,r,pl,hz⟩:=I.tuple hx;obtain⟨N,L,am,ap⟩:=I.tuple R;have hl:=r.length;have ai:=L.length;refine SeqAt.eq_tupleAt (e:=λj=>jV (xs.getD j .non) (ys.getD j .non)) pl am hu (λj h1 h2=>?_) ⟨.bl (gM xs ys),H,I,?_,hq⟩
 .rw[qj]at h1 h2;have G:j<xs.length:=af;have J:j<ys.length:=af;obtain⟨a,ea,Y⟩:=r.get (i:=j) (x:=xs[j]) (by simp[G]);obtain⟨b,eb,rb⟩:=L.get (i:=j) (x:=ys[j]) (by simp[J]);obtain⟨_,ab⟩:=j1.mp ea;obtain⟨_,ac⟩:=j1.mp eb;have S:xs.getD j .non=xs[j]:=(by simp[G]);have O:ys.getD j .non=ys[j]:=(by simp[J]);show Mp _ _ its.toArray[j] N.toArray[j] (jV (xs.getD j .non) (ys.getD j .non));have a1:its.toArray[j]=a:=(by simpa using ab);have a2:N.toArray[j]=b:=(by simpa using ac);rw[S,O,a1,a2];exact iX Y rb (KH.mp fx _ (LK G)) (KH.mp fy _ (LK J))
 .show Value.bool _=Value.bool _;rw[qj,qj, <-hl, <-ai,oU]
end
def sN (K:Kq) (H:Hp):Nat->V->V->Prop
 |0,x,y=>x=y/\cV x=true
 |n+1,x,y=>(x=y/\cV x=true)\/∃p q xs ys,x=.ref p/\y=.ref q/\p≠q/\((bq K H p xs/\bq K H q ys)\/(bZ K H p xs/\bZ K H q ys))/\Paired (sN K H n) xs ys
theorem rM:∀{x:V},cV x=true->jV x x=true:=by
 intro x h;cases x<;>first|(simp[jV];done)|exact nomatch h
theorem uf {α G:Type}{F:α->G->Prop}:∀{xs:List α}{ys:List G},Paired F xs ys->xs.length=ys.length
 |_,_,.nil=>rfl
 |_,_,.cons _ t=>by rw[Kp,Kp,uf t]
theorem Du {α G:Type}{F:α->G->Prop}:∀{xs:List α}{ys:List G},Paired F xs ys->∀(j:Nat) (x:α) (y:G),xs[j]?=some x->ys[j]?=some y->F x y
 |_,_,.nil,j,_,_,h,_=>by simp at h
 |_,_,.cons r t,0,x,y,h1,h2=>by simp at h1 h2;subst h1;subst h2;exact r
 |_,_,.cons r t,j+1,x,y,h1,h2=>Du t j x y (by simpa using h1) (by simpa using h2)
section
variable {X:Cx}{pins:List (Addr×Obj)}{σ:St}{H:Hp}{s:mu}
theorem jc {n:Nat}{A:KA}{xs ys:List V}{its G:List Value}(r:Vals xs its) (I:Vals ys G) (hp:Paired (sN X.K H n) xs ys)
  (N:∀{x y:V}{v u:Value},sN X.K H n x y->RelV x v->RelV y u->Mp A s v u true) (j:Nat) (h1:j<its.toArray.size) (h2:j<G.toArray.size):Mp A s its.toArray[j] G.toArray[j] true:=by
 have hl:=r.length;have ab:=I.length;rw[qj]at h1 h2;have J:j<xs.length:=af;have L:j<ys.length:=af;obtain⟨a,ea,R⟩:=r.get (i:=j) (x:=xs[j]) (by simp[J]);obtain⟨b,U,Y⟩:=I.get (i:=j) (x:=ys[j]) (by simp[L]);obtain⟨_,S⟩:=j1.mp ea;obtain⟨_,O⟩:=j1.mp U;have a1:its.toArray[j]=a:=(by simpa using S);have a2:G.toArray[j]=b:=(by simpa using O);rw[a1,a2];exact N (Du hp j _ _ (by simp[J]) (by simp[L])) R Y
theorem wU (I:Inv X pins σ H s):∀(n:Nat) {A:KA}{x y:V}{v u:Value},A.units+n<Mt->sN X.K H n x y->RelV x v->RelV y u->Mp A s v u true
 |0,A,x,y,v,u,_,⟨e,f⟩,L,J=>by
  subst e;have z:=iX (A:=A) (s:=s) L J f f
  rwa [rM f]at z
 |n+1,A,x,y,v,u,hu,h,L,J=>by
  rcases h with⟨e,f⟩|⟨p,q,xs,ys,rfl,rfl,U,Y,R⟩
  .subst e;have z:=iX (A:=A) (s:=s) L J f f
   rwa [rM f]at z
  .cases L;cases J;have ab:A.in1.units+n<Mt:=(by show A.units+1+n<Mt;omega);have S:∀{x y:V}{v u:Value},sN X.K H n x y->RelV x v->RelV y u->Mp A.in1 s v u true:=λa b c=>wU I n ab a b c;have hl:=uf R;rcases Y with⟨h1,h2⟩|⟨h1,h2⟩
   .obtain⟨its,r,pl,_⟩:=I.list h1;obtain⟨N,G,O,_⟩:=I.list h2;have l1:=r.length;have l2:=G.length;have z:=SeqAt.RcAt.lists (A:=A) (s:=s) (e:=λ_=>true) pl.isList O.isList (by rw[qj,qj];omega) af (jc r G R S);have e:((Kx its.toArray.size).all λ_=>true)=true:=KH.mpr λ_ _=>rfl;rw[e]at z;exact QI U z
   .obtain⟨its,r,pl,_⟩:=I.tuple h1;obtain⟨N,G,O,_⟩:=I.tuple h2;have l1:=r.length;have l2:=G.length;have z:=SeqAt.RcAt.tuples (A:=A) (s:=s) (e:=λ_=>true) pl O af (jc r G R S);have e:((Kx (min its.toArray.size N.toArray.size)).all (λ_=>true)&&its.toArray.size==N.toArray.size)=true:=by
     rw[Nd];exact⟨KH.mpr λ_ _=>rfl,by rw[qj,qj];exact beq_iff_eq.mpr af⟩
    rw[e]at z;exact QI U z
end
inductive Hw (K:Kq) (n:Nat) (x:V) (y:V) (H:Hp) (Q:VK):Prop
 |mk (p:_) (q:_) (xs:_) (ys:_) (_:x=.ref p) (_:y=.ref q) (_:bq K H p xs) (_:bq K H q ys) (_:Paired (sN K H n) xs ys) (_:Q (.bl false) H):Hw K n x y H Q
section
variable {X:Cx}
theorem EX (n:Nat) (hu:X.A.units+n+1<Mt):j4 X (LB .NotEq) (Hw X.K n):=by
 intro pins s σ H x y v u Q I U N h;obtain⟨p,q,xs,ys,rfl,rfl,O,S,J,Y⟩:=h;cases U;cases N;obtain⟨its,r,pl,hz⟩:=I.list O;obtain⟨ai,G,ab,ac⟩:=I.list S;have l1:=r.length;have l2:=G.length;have hl:=uf J;have R:X.A.in1.units+n<Mt:=(by show X.A.units+1+n<Mt;omega);have L:∀{x y:V}{v u:Value},sN X.K H n x y->RelV x v->RelV y u->Mp X.A.in1 s v u true:=λa b c=>wU I n R a b c;refine Pb (e:=λ_=>true) pl.isList ab.isList (by rw[qj,qj];omega) af (jc r G J L) _ _ _ _ ⟨.bl false,H,I,?_,Y⟩;have e:((Kx its.toArray.size).all λ_=>true)=true:=KH.mpr λ_ _=>rfl;rw[e];rfl
end
end L2
namespace PySem
open PyProof.Rows
namespace F
end F
section
variable {prog:ti}{w:Kl}{K:Type} [DecidableEq K] {knd:KeyKind prog w K}{A:KA}{E:Value->mu->Prop}
end
end PySem
namespace L2
open PySem PySem.Spec PyProof.Rows
section
variable {X:Cx}{scope:N3}{cl:List (Str×Addr)}{t:Str×Str}{caps:List (Str×Nat)}{pins:List (Addr×Obj)}{σ:St}{H:Hp}{s:mu}{C:Addr}{fp:List Addr}
end
section
variable {X:Cx}{scope:N3}{cl:List (Str×Addr)}{t:Str×Str}{caps:List (Str×Nat)}{elt iter:KJ}{ifs:List KJ}{px pos:Nj}{es:List KJ}{kx:Nat}{g:TG}{wi:TI}{tt:TT}{te:TE}
end
theorem DF:KS "zip" = some (.type "zip"):=aq
theorem qS:KS "enumerate" = some (.type "enumerate"):=aq
theorem uq:KS "all" = some (.builtin "all"):=aq
theorem zc:KS "min" = some (.builtin "min"):=aq
section
variable {X:Cx}{pins:List (Addr×Obj)}{σ:St}{H:Hp}{s:mu}{h':Heap}
theorem Inv.jo {t':Nat}{ch:List Addr}(I:Inv X pins σ H s) (k:∀b o,b∉ch->s.heap.get? b=some o->h'.get? b=some o) (J:∀b∈ch,gf X pins H b):Inv X pins σ H { s with heap:=h',toks:=t' }:=by
 have L:∀b u,H b=some u->b∉ch:=λb u e z=>(by rw[(J b z).1]at e;cases e);refine I.step (g':=s.gens) (d':=s.drawn) (ch:=ch) (λb S=>?_) (λb o _ _ G e _=>k b o G e) (λb o _ _ G e _=>⟨o.slots,k b o G e⟩) (λ_ _ _ _ n=>n)
  (λb o G e=>⟨o,k b o G e⟩) (λ_ _ e=>e) (λ_ _ _ e=>e) (λb ps e=>⟨#[],by rw[e];simp⟩) (λm N=>?_) (λb u e=>?_) I.bare
 .obtain⟨_,O,f2,R,Y,f5⟩:=J b S;exact⟨R,O,Y,f5⟩
 .obtain⟨o,es,ep,U,r⟩:=N;exact⟨o,es,ep,k _ o (λz=>(J _ z).2.1 rfl) U,r⟩
 .refine(I.bE b u e).lQ (λc v G q=>k c v ?_ q) (λ_ q=>q) λ_ _ q=>q;rcases G with z|z
  .rw[z];exact L b u e
  .exact L c _ z
theorem Inv.vX {D:Addr}{ys:List V}{its:List Value}(I:Inv X pins σ H s) (f:gf X pins H D) (e:IsTup s.heap D its.toArray) (r:Vals ys its) (U:ys.length<=sizeLine) :
  Inv X pins σ (upd H D (.tup ys)) s:=by
 obtain⟨J,O,f2,R,S,Y⟩:=f;obtain⟨N,g,d,tk,os⟩:=s;refine I.step (g':=g) (d':=d) (t':=tk) (h':=N) (ch:=[D]) (λb G=>?_) (λb o _ _ _ e _=>e) (λb o _ _ _ e _=>⟨o.slots,e⟩) (λb o G _ n=>?_) (λb o _ e=>⟨o,e⟩) (λb xs q=>?_) (λb o u q=>?_) (λb ps q=>⟨#[],?_⟩) (λm L=>L) (λb u q=>?_) I.bare
 .have z:b=D:=(by simpa using G);subst z;exact⟨R,O,S,Y⟩
 .rw[ah (λz=>G (by simp[z]))];exact n
 .rw[ah (au q J)];exact q
 .rw[ah (au q J)];exact q
 .rw[ah (au q J),q];simp
 .by_cases G:b=D
  .subst G;rw[ae]at q;cases q;exact⟨U,its,r,e⟩
  .rw[ah G]at q;exact(I.bE b u q).lQ (λ_ _ _ z=>z) (λc z=>by rw[ah (au z J)];exact z) λc xs z=>by rw[ah (au z J)];exact z
end
def Fx (K:Kq) (G I:Addr):It :=
 ⟨λi H=>∃xs ys x y,bq K H G xs/\bq K H I ys/\xs[i]?=some x/\ys[i]?=some y,
  λi H v H'=>∃T x y,v=.ref T/\H T=none/\H'=upd H T (.tup [x,y])/\(∀xs,bq K H G xs->xs[i]?=some x)/\∀ys,bq K H I ys->ys[i]?=some y,
  λi H=>∃xs ys,bq K H G xs/\bq K H I ys/\(xs.length<=i\/ys.length<=i)⟩
def Kh (z TI TO I G J L:Addr) (i:Nat) (h:Heap):Prop:=IsZip h z TI TO .none/\IsPair h TI (.ref I) (.ref G)/\(∃a b,IsPair h TO a b)/\h.IsListIter I J i/\h.IsListIter G L i
theorem uR:2<=sizeLine:=by rw[BY];decide
theorem zC {P:ti}{w:Kl}{K:Kq}{es:List KJ}{kx:Nat}{px:Nj}{z TI TO L O l1 l2:Addr}(D:ZipApart z TI TO L O l1 l2):Turn P w K (.Tuple es kx px) (Fx K l1 l2) [z,TI,TO,L,O] z (Kh z TI TO L O l1 l2) where
 mem:=by simp
 obj:=by
  rintro i h ⟨N,J,⟨a,b',S⟩,h1,h2⟩ b G;simp only[E3,Km,or_false]at G;rcases G with rfl|rfl|rfl|rfl|rfl
  .exact⟨_,N,λv q=>by cases(show OO _=NR v from q)⟩
  .exact⟨_,J,λv q=>by cases(show SU _ _=NR v from q)⟩
  .exact⟨_,S,λv q=>by cases(show SU _ _=NR v from q)⟩
  .obtain⟨o,e,c,d⟩:=h1;exact⟨o,e,λv q=>by rw[d]at q;cases q⟩
  .obtain⟨o,e,c,d⟩:=h2;exact⟨o,e,λv q=>by rw[d]at q;cases q⟩
 keep:=λi h h' ⟨N,J,⟨a,b,S⟩,h1,h2⟩ k=>⟨k z (by simp) _ N,k TI (by simp) _ J,⟨a,b,k TO (by simp) _ S⟩,h1.at λo e=>k L (by simp) o e,h2.at λo e=>k O (by simp) o e⟩
 item:=by
  intro X hP hw hK hc i pins s σ H E I Y st hg;subst hP hw hK;obtain⟨N,J,⟨a,b,S⟩,h1,h2⟩:=st;obtain⟨xs,ys,x,y,q1,q2,e1,e2⟩:=hg;obtain⟨a3,ac,p1,_⟩:=I.list q1;obtain⟨a0,ab,p2,_⟩:=I.list q2;obtain⟨u1,aB,ap⟩:=ac.get e1;obtain⟨u2,aT,am⟩:=ab.get e2;have f4:∀b∈[z,TO,L,O],gf X pins H b:=λb G=>Y b (by simp only[E3,Km,or_false]at G ⊢;rcases G with h|h|h|h<;>simp[h]);refine wpAny_pyNext_zip_item D N J S h1 h2 p1.isList p2.isList (x:=u1) (y:=u2) (by simpa using aB) (by simpa using aT) λh' z' a6 a1 a2 pT sz kk=>?_;have I1:Inv X pins σ H { s with heap:=h' }:=I.jo (t':=s.toks) (ch:=[z,TO,L,O]) (λb o G e=>kk b o (λq=>G (by simp[q])) (λq=>G (by simp[q])) (λq=>G (by simp[q])) (λq=>G (by simp[q])) e) f4;refine⟨_,rfl,wpAny_letOwnedTupleGo_zip z' λU z2 R=>?_⟩;replace R:Heap.SameBut z h' U:=R;have I2:Inv X pins σ H { s with heap:=U }:=I1.jo (s:={ s with heap:=h' }) (h':=U) (t':=s.toks) (ch:=[z]) (λb o G e=>(R.2 b (λq=>G (by simp[q]))).trans e) λb G=>Y b (by simp only[kQ]at G;simp[G]);have fT:gf X pins H s.heap.objs.size:=I.jy (sS _) (I.bE.fresh (sS _));have nz:s.heap.objs.size≠z:=Pf (Heap.lt_size N);have a4:IsPair U s.heap.objs.size u1 u2:=R.extBut _ _ nz pT;have I3:Inv X pins σ (upd H s.heap.objs.size (.tup [x,y])) { s with heap:=U }:=I2.vX (its:=[u1,u2]) fT ⟨_,a4,rfl,_,rfl⟩ (.cons ap (.cons am .nil)) uR;refine⟨.ref s.heap.objs.size,_,I3,rfl,⟨_,x,y,rfl,fT.1,rfl,λzs ai=>by rw[I.jz ai q1];exact e1,λzs ai=>by rw[I.jz ai q2];exact e2⟩,⟨z2,R.extBut _ _ D.TIz (kk _ _ D.TIz D.TITO D.TIi1 D.TIi2 J),⟨_,_,R.extBut _ _ D.TOz a6⟩,a1.extBut R.extBut D.i1z,a2.extBut R.extBut D.i2z⟩,λb G=>?_⟩;have nb:b≠s.heap.objs.size:=by
   intro q;simp only[E3,Km,or_false]at G;obtain⟨o1,g1,_⟩:=h1;obtain⟨o2,g2,_⟩:=h2;rcases G with e|e|e|e|e<;>rw[e]at q
   .exact nz q.symm
   .exact KN (Heap.lt_size J) q
   .exact KN (Heap.lt_size S) q
   .exact KN (Heap.lt_size g1) q
   .exact KN (Heap.lt_size g2) q
  rw[ah nb];exact(Y b G).1
 done:=by
  intro X hP hw hK hc i pins s σ H E I Y st hg;subst hP hw hK;obtain⟨N,J,⟨a,b,S⟩,h1,h2⟩:=st;obtain⟨xs,ys,q1,q2,e⟩:=hg;obtain⟨a3,ac,p1,_⟩:=I.list q1;obtain⟨a0,ab,p2,_⟩:=I.list q2;have as:=ac.length;have a5:=ab.length;have f4:∀b∈[z,TO,L,O],gf X pins H b:=λb G=>Y b (by simp only[E3,Km,or_false]at G ⊢;rcases G with h|h|h|h<;>simp[h]);refine wpAny_pyNext_zip_end (I.ok.hd hc) D N J S h1 h2 p1.isList p2.isList (e.elim (λe=>.inl (by simp;exact le_of_eq_of_le (id (MU as)) e)) λe=>.inr (by simp;exact le_of_eq_of_le (id (MU a5)) e)) λh' kk=>⟨rfl,I.jo (t':=s.toks) (ch:=[z,TO,L,O]) (λb o G e=>kk b o (λq=>G (by simp[q])) (λq=>G (by simp[q])) (λq=>G (by simp[q])) (λq=>G (by simp[q])) e) f4⟩
 self:=λ_ _ _ _ _ st h=>Rg st.1 h
section
variable {X:Cx}
def IU (K:Kq) (ta:TA):TI:=λσ H R=>ta σ H λvs H1=>y7 λG I=>Fq (vs=[.ref G,.ref I]) ((∃xs,bq K H1 G xs)) ((∃ys,bq K H1 I ys)) (R (Fx K G I) H1)
theorem Ej {es:List KJ}{kx:Nat}{px:Nj}{a b:KJ}{ta:TA}{p pos:Nj}(hg:Gl X "zip") (hm:X.mg "zip" = none) (ha:PA X [a,b] ta) (hs:starEach [a,b] X.env=[(false,eval a X.env),(false,eval b X.env)]:=by rfl) (N:starEach [b] X.env=[(false,eval b X.env)]:=by rfl) :
  PI X (.Tuple es kx px) (.Call (.Name "zip" p) [a,b] [] pos) (IU X.K ta):=by
 intro pins s σ H R I h;refine Call_ (gE I hg hm DF (Lk (bT (ha pos pins s σ H _ I h) λus G ⟨vs,H1,J,r1,q1⟩=>?_) (by rw[hs,N]) (by rw[N];rfl)));obtain⟨L,S,rfl,⟨xs,g1⟩,⟨ys,g2⟩,q⟩:=q1;obtain⟨u1,u2,rfl,e1,e2⟩:=vals2 r1;obtain rfl:u1=Value.ref L:=e1;obtain rfl:u2=Value.ref S:=e2;obtain⟨aT,a1,U,_⟩:=J.list g1;obtain⟨aB,a0,p2,_⟩:=J.list g2;have ap:L<G.heap.objs.size:=let ⟨_,e,_⟩:=U.isList;Heap.lt_size e;have ab:S<G.heap.objs.size:=let ⟨_,e,_⟩:=p2.isList;Heap.lt_size e;refine call_zip_2 U.isList p2.isList λh' O ac ai am as hsz hk=>?_;refine Rg O ?_;refine⟨G.heap.objs.size+4,[G.heap.objs.size+4,G.heap.objs.size+2,G.heap.objs.size+3,G.heap.objs.size,G.heap.objs.size+1],_,_,H1,rfl,J.kept (t':=G.toks) hk,zC (zipApart_new ap ab),⟨O,ac,⟨_,_,ai⟩,am,as⟩,λb Y=>?_,q⟩;have le:G.heap.objs.size<=b:=by
  simp only[E3,Km,or_false]at Y;rcases Y with e|e|e|e|e<;>rw[e]<;>first|exact sS _|exact NV _ _
 exact J.jy le (J.bE.fresh le)
def Gu (K:Kq) (l:Addr):It :=
 ⟨λi H=>∃xs x,bq K H l xs/\xs[i]?=some x,
  λi H v H'=>∃T x,v=.ref T/\H T=none/\H'=upd H T (.tup [.int i,x])/\∀xs,bq K H l xs->xs[i]?=some x,
  λi H=>∃xs,bq K H l xs/\xs.length<=i⟩
def Kc (e G l:Addr) (i:Nat) (h:Heap):Prop:=(∃I,IsEnum h e G i I)/\h.IsListIter G l i
theorem xM {P:ti}{w:Kl}{K:Kq}{es:List KJ}{kx:Nat}{px:Nj}{e L l:Addr}(D:e≠L):Turn P w K (.Tuple es kx px) (Gu K l) [e,L] e (Kc e L l) where
 mem:=by simp
 obj:=by
  rintro i h ⟨⟨U,J⟩,h1⟩ b G;simp only[E3,Km,or_false]at G;rcases G with rfl|rfl
  .exact⟨_,J,λv q=>by cases(show OO _=NR v from q)⟩
  .obtain⟨o,e,c,d⟩:=h1;exact⟨o,e,λv q=>by rw[d]at q;cases q⟩
 keep:=λi h h' ⟨⟨U,J⟩,h1⟩ k=>⟨⟨U,k e (by simp) _ J⟩,h1.at λo q=>k L (by simp) o q⟩
 item:=by
  intro X hP hw hK hc i pins s σ H E I N st hg;subst hP hw hK;obtain⟨⟨U,J⟩,h1⟩:=st;obtain⟨xs,x,Y,S⟩:=hg;obtain⟨as,ab,p1,_⟩:=I.list Y;obtain⟨u1,am,ac⟩:=ab.get S;refine wpAny_pyNext_enum_item J h1 p1.isList (x:=u1) (by simpa using am) D λh' eo a1 pT sz kk=>?_;have I1:Inv X pins σ H { s with heap:=h',toks:=s.toks+1 }:=I.jo (t':=s.toks+1) (ch:=[e,L]) (λb o G q=>kk b o (λz=>G (by simp[z])) (λz=>G (by simp[z])) q) N;refine⟨_,rfl,wpAny_letOwnedTupleGo_enum eo λR e2 O=>?_⟩;replace O:Heap.SameBut e h' R:=O;have I2:Inv X pins σ H { s with heap:=R,toks:=s.toks+1 }:=I1.jo (s:={ s with heap:=h',toks:=s.toks+1 }) (h':=R) (t':=s.toks+1) (ch:=[e]) (λb o G q=>(O.2 b (λz=>G (by simp[z]))).trans q) λb G=>N b (by simp only[kQ]at G;simp[G]);have fT:gf X pins H s.heap.objs.size:=I.jy (sS _) (I.bE.fresh (sS _));have ne:s.heap.objs.size≠e:=Pf (Heap.lt_size J);have aB:=O.extBut _ _ ne pT;have I3:Inv X pins σ (upd H s.heap.objs.size (.tup [.int i,x])) { s with heap:=R,toks:=s.toks+1 }:=I2.vX (its:=[.int i s.toks,u1]) fT ⟨_,aB,rfl,_,rfl⟩ (.cons ⟨_,rfl⟩ (.cons ac .nil)) uR;refine⟨.ref s.heap.objs.size,_,I3,rfl,⟨_,x,rfl,fT.1,rfl,λzs ap=>by rw[I.jz ap Y];exact S⟩,⟨⟨u1,?_⟩,a1.extBut O.extBut (qw D)⟩,λb G=>?_⟩
  .have ec:((i+1:Nat):Int)=(i:Int)+1:=(by push_cast;rfl);rw[ec];exact e2
  .have nb:b≠s.heap.objs.size:=by
    intro q;simp only[E3,Km,or_false]at G;obtain⟨o1,g1,_⟩:=h1;rcases G with z|z<;>rw[z]at q
    .exact ne q.symm
    .exact KN (Heap.lt_size g1) q
   rw[ah nb];exact(N b G).1
 done:=by
  intro X hP hw hK hc i pins s σ H E I N st hg;subst hP hw hK;obtain⟨⟨U,J⟩,h1⟩:=st;obtain⟨xs,Y,S⟩:=hg;obtain⟨as,ab,p1,_⟩:=I.list Y;have ai:=ab.length;obtain⟨f0,f1,f2,f3,f4,f5⟩:=N L (by simp);exact wpAny_pyNext_enum_end (I.ok.hd hc) J h1 p1.isList (by simp;exact le_of_eq_of_le (id (MU ai)) S) λh' eb=>⟨rfl,I.turned (t':=s.toks) (λb o G q=>eb b o G q) f0 f1 f3 f4 f5⟩
 self:=λ_ _ _ _ _ st h=>let ⟨⟨_,J⟩,_⟩:=st;Q9 J h
def Gb (K:Kq) (ta:TA):TI:=λσ H R=>ta σ H λvs H1=>∃l,vs=[.ref l]/\(∃xs,bq K H1 l xs)/\R (Gu K l) H1
theorem wG {es:List KJ}{kx:Nat}{px:Nj}{a:KJ}{ta:TA}{p pos:Nj}(Y:Gl X "enumerate") (hm:X.mg "enumerate" = none) (ha:PA X [a] ta) (hs:starEach [a] X.env=[(false,eval a X.env)]:=by rfl) :
  PI X (.Tuple es kx px) (.Call (.Name "enumerate" p) [a] [] pos) (Gb X.K ta):=by
 intro pins s σ H R I h;refine Call_ (gE I Y hm qS (Lk (bT (ha pos pins s σ H _ I h) λus G S=>?_) hs rfl));obtain⟨vs,H1,J,r1,q1⟩:=S;obtain⟨l,rfl,⟨xs,U⟩,q⟩:=q1;obtain⟨u1,rfl,e1⟩:=vals1 r1;obtain rfl:u1=Value.ref l:=e1;obtain⟨ab,ac,p1,_⟩:=J.list U;refine call_enumerate_list p1.isList λh' L hi hsz O=>?_;refine Q9 L ?_;refine⟨G.heap.objs.size+1,[G.heap.objs.size+1,G.heap.objs.size],_,_,H1,rfl,J.kept (t':=G.toks) O,xM (l:=l) (Nat.succ_ne_self _),⟨⟨_,L⟩,hi⟩,λb N=>?_,q⟩;have le:G.heap.objs.size<=b:=by
  simp only[E3,Km,or_false]at N;rcases N with e|e<;>rw[e]<;>first|exact sS _|exact NV _ _
 exact J.jy le (J.bE.fresh le)
theorem qW:∀{bs:List Bool}{its:List Value},Vals (bs.map V.bl) its->its=bs.map Value.bool
 | [],_,.nil=>rfl
 |b::bs,_,.cons r t=>by rw[qW t,show _=Value.bool b from r];rfl
theorem j6 (hc:X.calm=true):dt X (.builtin "all") (λxs H Q=>∃(l:Addr) (bs:List Bool),xs=[.ref l]/\bq X.K H l (bs.map V.bl)/\Q (.bl (bs.all id)) H):=by
 intro pins s σ H xs us Q I r h;obtain⟨l,bs,rfl,Y,q⟩:=h;obtain⟨u,rfl,ru⟩:=vals1 r;obtain rfl:u=Value.ref l:=ru;obtain⟨its,rv,p,_⟩:=I.list Y;have S:=qW rv;subst S;have L:=p.isList;have ab:l<s.heap.objs.size:=let ⟨_,e,_⟩:=L;Heap.lt_size e;refine call_all_walk (OP L ?_);refine⟨s.heap.objs.size,[s.heap.objs.size,l],[s.heap.objs.size],(bs.map Value.bool).toArray.size,_,_,λi=>(bs[i]?).getD true,rfl,Te (A:=X.A.in1) (I.ok.hd hc) _ l (KN ab) (bs.map Value.bool).toArray,
  ⟨⟨_,Heap.get?_push_size _ rfl,rfl,rfl⟩,L.push _⟩,λi v s' Q' E' hP N=>?_,λh' tk O=>?_⟩
 .have R:(bs.map Value.bool).toArray[i]?=some v:=hP;have G:(bs.map Value.bool)[i]?=some v:=(by simpa using R);rw[wh]at G;cases J:bs[i]? with
  |none=>rw[J]at G;cases G
  |some b =>
   rw[J]at G;have U:Value.bool b=v:=ro G;subst U;simp only[J,Rh]at N;exact LF N
 .have e:((Kx (bs.map Value.bool).toArray.size).all λi=>(bs[i]?).getD true)=bs.all id:=by
   rw[qj,nq];exact LSm.range_all bs
  rw[e];exact⟨.bl _,H,I.kept (So O),rfl,q⟩
end
theorem tL {K:Kq}{a:Addr}{xs:List V}{g:TG}{tb:TS}{D:Ends}{σ:St}{H:Hp}(Pv:Nat->St->Hp->Prop) (h0:Pv 0 σ H) (U:∀i σ H,i<=xs.length->Pv i σ H->bq K H a xs)
  (hs:∀i x σ H T,xs[i]?=some x->H T=none->Pv i σ H->g (.ref T) σ (upd H T (.tup [.int i,x])) λL H2=>tb { D with nx:=Pv (i+1),ct:=Pv (i+1),bk:=D.nx } L H2) (hd:∀σ H,Pv xs.length σ H->D.nx σ H) :
  ∃W:Nat->Nat->St->Hp->Prop,(∃m,W 0 m σ H)/\∀i m σ H,W i m σ H ->
   ((Gu K a).stop i H/\D.nx σ H)\/((Gu K a).go i H/\∃N:St->Hp->Prop,(∀I H',N I H'->∃O,O<m/\W (i+1) O I H')/\∀x H',(Gu K a).Cg i H x H'->g x σ H' λL H2=>tb { D with nx:=N,ct:=N,bk:=D.nx } L H2):=by
 refine⟨λi m σ H=>m=xs.length-i/\i<=xs.length/\Pv i σ H,⟨xs.length,by simp,KI _,h0⟩,?_⟩;rintro i m σ H ⟨rfl,hi,p⟩;have J:=U i σ H hi p;by_cases G:i<xs.length
 .refine .inr ⟨⟨xs,xs[i],J,by simp[G]⟩,Pv (i+1),λI H' R=>⟨xs.length-(i+1),Lf (LI xs) i G,rfl,G,R⟩,?_⟩;rintro v H' ⟨T,x,rfl,S,rfl,Y⟩;exact hs i x σ H T (Y xs J) S p
 .have e:i=xs.length:=af;subst e;exact .inl ⟨⟨xs,J,sS _⟩,hd σ H p⟩
section
variable {X:Cx}
theorem gB (hc:X.calm=true):dt X (.builtin "sorted") (λxs H Q=>∃(a:Addr) (kvs:List (Key×V)) (ns:List Int),xs=[.ref a]/\H a=some (.dK kvs)/\kvs.map (·.1)=ns.map vu/\ns.Nodup/\ns.length<=1000 /\
  ∀(l:Addr) (ns':List Int),H l=none->ns'.Perm ns->ns'.Pairwise (· <= ·)->Q (.ref l) (upd H l (.lst (ns'.map V.int)))):=by
 intro pins s σ H xs us Q I r h;obtain⟨a,kvs,ns,rfl,ha,R,ac,hn,q⟩:=h;obtain⟨u,rfl,ru⟩:=vals1 r;cases ru;obtain⟨_,hd,vs,ab,dd⟩:=fU I.bE ha;obtain⟨ep,ai⟩:=dd.dictAt;have L:vs.map (·.1)=ns.map vu:=(by rw[<-ab.keys];exact R);have S:ns.length=vs.length:=by
  have:=congrArg LI L;simpa using this.symm
 have hs:=BY;refine Srt.uX (kdl_dict (knd:=br X.prog X.w) (kvs:=vs) (ep:=ep) (d:=a) hd) (I.ok.hd hc) ai (ns:=ns) (λi w' Y=>?_) S ac af λh1 h' tk out ns' e k1 k2 he a1 N a3=>?_
 .obtain⟨k,x,e1,U⟩:=Y;have G:(vs.map (·.1))[i]?=some k:=(by rw[wh,e1];rfl);rw[L,wh]at G;cases J:ns[i]? with
  |none=>rw[J]at G;cases G
  |some m =>
   rw[J]at G;obtain rfl:vu m=k:=ro G;obtain⟨t,rfl⟩:=ml U;exact⟨m,t,rfl,rfl⟩
 .have O:Inv X pins σ H { s with heap:=h1,toks:=tk }:=I.kept k1;exact⟨.ref h1.objs.size,_,O.laid (t':=tk) k2 (sS _) (show bS X.prog X.w _ _ _ (.lst (ns'.map V.int))from⟨by rw[nq,N.length_eq];omega,out.toList,e,fZ a1,by simpa using he⟩),rfl,q _ ns' (O.bE.fresh (sS _)) N a3⟩
inductive xx (H₀:Hp) (t:TE) (Q:VK) (v:V) (H':Hp):Prop
 |mk (a:_) (o:_) (kvs:_) (_:H' a=some (.frz o (.dK kvs))) (_:(∀o u',H₀ a≠some (.frz o u'))) (_:Q v (upd H' a (.dK kvs))):xx H₀ t Q v H'
def Ey (H₀:Hp) (t:TE):TE:=λσ H Q=>t σ H λv H'=>xx H₀ t Q v H'
theorem xk {e:KJ}{t:TE}(h:PE X e t):PE X e (Ey X.H₀ t):=by
 intro pins s σ H Q I q;refine bT (h pins s σ H _ I q) λu R L=>?_;obtain⟨v,H',N,r,a,o,kvs,G,J,O⟩:=L;exact⟨v,_,N.D7 G J,r,O⟩
end
theorem lX:entryFor table "dict_itemiterator.__iter__" = some Builtin.«dict_keyiterator.__iter__» :=
 entryFor_alias (id' := "dict_keyiterator.__iter__") (by kernel_rfl) (by first|rfl|decide +kernel|(unfold String.splitOn;simp +decide [String.splitOnAux])) aq (by kernel_rfl)
theorem gN {prog:ti}{w:Kl}{A:KA}{E:Value->mu->Prop}{s:mu}{G d:Addr}{i n ep:Nat}{ok ov:Value}{Q:Value->mu->Prop}(J:IsItemIter s.heap G d i n ep ok ov) (h:Q (.ref G) s):wpAny (model prog w) A (pyIter (.ref G)) Q E s:=by
 have I:s.TypeIs (.ref G) "dict_itemiterator" := ⟨_,J,rfl⟩;refine wpAny_pyIter_slot I Nq (Nc Nq I lX ?_ (PySem.F.args_dict_itemiterator_iter_1 _));show wpAny _ _ (ret (.ref G)) _ _ s;exact By ⟨_,rfl,"dict_itemiterator",_,I,PySem.F.slot_dict_itemiterator_next.lookup,h⟩
def Fu (a:Addr) (o:Obj) (kvs:List (Key×V)):It :=
 ⟨λi H=>H a=some (.frz o (.dK kvs))/\i<kvs.length,λi H x H'=>∃T k v,x=.ref T/\H T=none/\kvs[i]?=some (k,v)/\H'=upd H T (.tup [kV k,v]),λi H=>H a=some (.frz o (.dK kvs))/\kvs.length<=i⟩
theorem Av:∀{kvs:List (Key×V)}{vs:List (Key×Value)},Paired (λ(p:Key×V) (q:Key×Value)=>p.1=q.1/\RelV p.2 q.2) kvs vs->∀{i:Nat},i<kvs.length->∃k v x,kvs[i]?=some (k,v)/\vs[i]?=some (k,x)/\RelV v x
 |_,_,.nil,_,h=>by simp at h
 |p::_,J::_,.cons q _,0,_=>⟨p.1,p.2,J.2,rfl,by rw[q.1];rfl,q.2⟩
 |_::_,_::_,.cons _ t,i+1,h=>by
  obtain⟨k,v,x,L,G,I⟩:=Av t (i:=i) (by simpa using h);exact⟨k,v,x,by simpa using L,by simpa using G,I⟩
theorem C6 {kvs:List (Key×V)}{vs:List (Key×Value)}(r:KV kvs vs) {i:Nat}(hi:i<kvs.length):∃k v x,kvs[i]?=some (k,v)/\vs[i]?=some (k,x)/\RelV v x:=Av r hi
theorem uU {P:ti}{w:Kl}{K:Kq}{es:List KJ}{kx:Nat}{px:Nj}(a G:Addr) (aB:a≠G) (o:Obj) (kvs:List (Key×V)):Turn P w K (.Tuple es kx px) (Fu a o kvs) [G] G (λi h=>∃ok ov,IsItemIter h G a i kvs.length (y8 o) ok ov) where
 mem:=by simp
 obj:=λi h st b J=>by
  have e:b=G:=(by simpa using J);subst e;obtain⟨ok,ov,st⟩:=st;exact⟨_,st,λv q=>by cases(show OO _=NR v from q)⟩
 keep:=λi h h' st k=>let ⟨ok,ov,st⟩:=st;⟨ok,ov,k G (by simp) _ st⟩
 item:=by
  intro X hP hw hK hc i pins s σ H E I S st hg;subst hP hw hK;obtain⟨ab,ai⟩:=hg;obtain⟨Y,O,f2,R,N,f5⟩:=S G (by simp);obtain⟨hd,vs,r,da⟩:=kD I.bE ab;have ac:=r.length;obtain⟨k,v,x,e1,e2,e3⟩:=C6 r ai;obtain⟨ok,ov,st⟩:=st;rw[ac]at st ⊢;refine wpAny_pyNext_items_item st da e2 λap h' am ho hT hsz hk=>?_;have I1:Inv X pins σ H { s with heap:=h',toks:=s.toks }:=I.turned (λb o J e=>hk b o J e) Y O R N f5;refine⟨_,rfl,wpAny_letOwnedTupleGo_items ho λL e4 U=>?_⟩;replace U:Heap.SameBut G h' L:=U;have I2:Inv X pins σ H { s with heap:=L,toks:=s.toks }:=I1.turned (s:={ s with heap:=h',toks:=s.toks }) (h':=L) (t':=s.toks) (λb o J e=>(U.2 b J).trans e) Y O R N f5;have fT:gf X pins H s.heap.objs.size:=I.jy (sS _) (I.bE.fresh (sS _));have ne:s.heap.objs.size≠G:=Pf (Heap.lt_size st);have as:=U.extBut _ _ ne hT;have I3:Inv X pins σ (upd H s.heap.objs.size (.tup [kV k,v])) { s with heap:=L,toks:=s.toks }:=I2.vX (its:=[ap,x]) fT ⟨_,as,rfl,_,rfl⟩ (.cons (ml am) (.cons e3 .nil)) uR;refine⟨.ref s.heap.objs.size,_,I3,rfl,⟨_,k,v,rfl,fT.1,e1,rfl⟩,⟨_,_,e4⟩,λb J=>?_⟩;have nb:b≠s.heap.objs.size:=λq=>ne (by rw[<-q];simpa using J);rw[ah nb];exact(S b J).1
 done:=by
  intro X hP hw hK hc i pins s σ H E I S st hg;subst hP hw hK;obtain⟨ab,ai⟩:=hg;obtain⟨Y,O,f2,R,N,f5⟩:=S G (by simp);obtain⟨hd,vs,r,da⟩:=kD I.bE ab;have ac:=r.length;obtain⟨ok,ov,st⟩:=st;rw[ac]at st;exact wpAny_pyNext_items_end (I.ok.hd hc) st da (by simp;omega) λh' eb=>⟨rfl,I.turned (t':=s.toks) (λb o J e=>eb b o J e) Y O R N f5⟩
 self:=λ_ _ _ _ _ st h=>by
  obtain⟨ok,ov,st⟩:=st;exact gN st h
section
variable {X:Cx}
def Eb (H₀:Hp) (td:TE):TI:=λσ H R=>td σ H λx H1=>y7 λa kvs=>Fq (x=.ref a) (H1 a=some (.dK kvs)) ((∀o G,H₀ a≠some (.frz o G))) (∀o,R (Fu a o kvs) (upd H1 a (.frz o (.dK kvs))))
theorem AA {es:List KJ}{kx:Nat}{px:Nj}{o:KJ}{apos cpos:Nj}{td:TE}(ho:PE X o td) (am:MN o "items" X.env (eval o X.env)=eval o X.env:=by rfl) (as:(apos.endLine==cpos.line)=true:=by rfl):PI X (.Tuple es kx px) (.Call (.Attribute o "items" apos) [] [] cpos) (Eb X.H₀ td):=by
 intro pins s σ H R I h;refine Pr am as (bT (ho pins s σ H _ I h) λu G ab=>?_);obtain⟨x,H1,S,rx,a,kvs,ex,L,hn,q⟩:=ab;subst ex;obtain rfl:u=Value.ref a:=rx;obtain⟨t1,t2,hd⟩:=ky S (.inl ⟨kvs,.inl L⟩);obtain⟨_,_,vs,aT,Y⟩:=fU S.bE L;refine⟨"dict","dict.items",MG,Pt,PySem.F.type_dict_items,t1,t2,Calls.callWith_builtin rfl (Qv ?_)⟩;refine MC Pt Y.typeIs PySem.F.entry_dict_items (PySem.F.args_dict_items_1 _) (meets_dict_items (br X.prog X.w) a hd) ⟨⟨vs,Y⟩,?_⟩;have nw:=Heap.get?_push_size G.heap (o:={ cls:=.type "dict_items",data:=.fields #[.ref a] }) rfl;have U:Inv X pins σ H1 { G with heap:=G.heap.push { cls:=.type "dict_items",data:=.fields #[.ref a] },toks:=G.toks }:=S.kept λb o e=>Heap.get?_push_of_some _ e;obtain⟨_,aB,ac,ai,BC⟩:=fU U.bE L;obtain⟨J,ap,ep,N,g2,g3,g4⟩:=id BC;have O:=U.freeze L N hn;have lt:a<(G.heap.push { cls:=.type "dict_items",data:=.fields #[.ref a] }).objs.size:=Heap.lt_size N;have da:(G.heap.push { cls:=.type "dict_items",data:=.fields #[.ref a] }).DictAt (br X.prog X.w) a ac (y8 J):=⟨J,ap,N,g2,by unfold y8;rw[g3],g4⟩;refine wpAny_pyIter_items ⟨_,nw,rfl,rfl⟩ da ?_;refine⟨(G.heap.push { cls:=.type "dict_items",data:=.fields #[.ref a] }).objs.size,[(G.heap.push { cls:=.type "dict_items",data:=.fields #[.ref a] }).objs.size],_,Fu a J kvs,_,rfl,O.kept (t':=G.toks) λb o e=>Heap.get?_push_of_some _ e,uU a _ (KN lt) J kvs,⟨.none,.none,?_⟩,λb hb=>?_,q J⟩
 .rw[ai.length];exact Heap.get?_push_size _ rfl
 .have e:b=(G.heap.push { cls:=.type "dict_items",data:=.fields #[.ref a] }).objs.size:=(by simpa using hb);subst e;exact O.jy (sS _) (O.bE.fresh (sS _))
end
def HV (a:Addr) (o:Obj) (kvs:List (Key×V)):It :=
 ⟨λi H=>H a=some (.frz o (.dK kvs))/\i<kvs.length,λi H x H'=>H'=H/\∃k,kvs[i]?=some (k,x),λi H=>H a=some (.frz o (.dK kvs))/\kvs.length<=i⟩
theorem xZ {P:ti}{w:Kl}{K:Kq}{tg:KJ}(a G:Addr) (as:a≠G) (o:Obj) (kvs:List (Key×V)):Turn P w K tg (HV a o kvs) [G] G (λi h=>h.IsValIter G a i kvs.length (y8 o)) where
 mem:=by simp
 obj:=λi h st b J=>by
  have e:b=G:=(by simpa using J);subst e;obtain⟨O,h1,_,L⟩:=st;exact⟨O,h1,λv z=>by rw[L]at z;cases z⟩
 keep:=λi h h' ⟨O,h1,h2,L⟩ k=>⟨O,k G (by simp) _ h1,h2,L⟩
 item:=by
  intro X hP hw S hc i pins s σ H E I N st Y;subst hP hw S;obtain⟨ab,am⟩:=Y;obtain⟨f0,f1,f2,U,f4,f5⟩:=N G (by simp);obtain⟨hd,vs,r,R⟩:=kD I.bE ab;have ac:=r.length;obtain⟨k,v,x,e1,e2,e3⟩:=C6 r am;rw[ac]at st ⊢;refine wpAny_pyNext_values_item st R e2 λh' ai ap=>?_;have I1:Inv X pins σ H { s with heap:=h',toks:=s.toks }:=I.turned (λb o J e=>(ap.2 b J).trans e) f0 f1 U f4 f5;obtain⟨O,h1,h2,L⟩:=id ai;exact⟨_,rfl,pz (s:={ s with heap:=h' }) (n := "dict_valueiterator") h1 h2 L av ⟨v,H,I1,e3,⟨rfl,k,e1⟩,ai,λb J=>(N b J).1⟩⟩
 done:=by
  intro X hP hw S hc i pins s σ H E I N st Y;subst hP hw S;obtain⟨ab,am⟩:=Y;obtain⟨f0,f1,f2,U,f4,f5⟩:=N G (by simp);obtain⟨hd,vs,r,R⟩:=kD I.bE ab;have ac:=r.length;rw[ac]at st;exact wpAny_pyNext_values_end (I.ok.hd hc) st R (by simp;omega) λh' eb=>⟨rfl,I.turned (t':=s.toks) (λb o J e=>eb b o J e) f0 f1 U f4 f5⟩
 self:=λ_ _ _ _ _ st h=>wpAny_pyIter_valiter st h
section
variable {X:Cx}{tg:KJ}
def Hz (H₀:Hp) (td:TE):TI:=λσ H R=>td σ H λx H1=>y7 λa kvs=>Fq (x=.ref a) (H1 a=some (.dK kvs)) ((∀o G,H₀ a≠some (.frz o G))) (∀o,R (HV a o kvs) (upd H1 a (.frz o (.dK kvs))))
theorem CN {o:KJ}{apos cpos:Nj}{td:TE}(ho:PE X o td) (am:MN o "values" X.env (eval o X.env)=eval o X.env:=by rfl) (as:(apos.endLine==cpos.line)=true:=by rfl):PI X tg (.Call (.Attribute o "values" apos) [] [] cpos) (Hz X.H₀ td):=by
 intro pins s σ H R I h;refine Pr am as (bT (ho pins s σ H _ I h) λu G ai=>?_);obtain⟨x,H1,S,rx,a,kvs,ex,L,hn,q⟩:=ai;subst ex;obtain rfl:u=Value.ref a:=rx;obtain⟨t1,t2,hd⟩:=ky S (.inl ⟨kvs,.inl L⟩);obtain⟨_,_,vs,aT,Y⟩:=fU S.bE L;refine⟨"dict","dict.values",MG,Pc,PySem.F.type_dict_values,t1,t2,Calls.callWith_builtin rfl (Qv ?_)⟩;refine MC Pc Y.typeIs PySem.F.entry_dict_values (PySem.F.args_dict_values_1 _) (meets_dict_values (br X.prog X.w) a hd) ⟨⟨vs,Y⟩,?_⟩;have nw:=Heap.get?_push_size G.heap (o:={ cls:=.type "dict_values",data:=.fields #[.ref a] }) rfl;have U:Inv X pins σ H1 { G with heap:=G.heap.push { cls:=.type "dict_values",data:=.fields #[.ref a] },toks:=G.toks }:=S.kept λb o e=>Heap.get?_push_of_some _ e;obtain⟨_,aB,ab,ac,BC⟩:=fU U.bE L;obtain⟨J,ap,ep,N,g2,g3,g4⟩:=id BC;have O:=U.freeze L N hn;have lt:a<(G.heap.push { cls:=.type "dict_values",data:=.fields #[.ref a] }).objs.size:=Heap.lt_size N;have da:(G.heap.push { cls:=.type "dict_values",data:=.fields #[.ref a] }).DictAt (br X.prog X.w) a ab (y8 J):=⟨J,ap,N,g2,by unfold y8;rw[g3],g4⟩;refine wpAny_pyIter_values ⟨_,nw,rfl,rfl⟩ da ?_;refine⟨(G.heap.push { cls:=.type "dict_values",data:=.fields #[.ref a] }).objs.size,[(G.heap.push { cls:=.type "dict_values",data:=.fields #[.ref a] }).objs.size],_,HV a J kvs,_,rfl,O.kept (t':=G.toks) λb o e=>Heap.get?_push_of_some _ e,xZ a _ (KN lt) J kvs,?_,λb hb=>?_,q J⟩
 .rw[ac.length];exact⟨_,Heap.get?_push_size _ rfl,rfl,rfl⟩
 .have e:b=(G.heap.push { cls:=.type "dict_values",data:=.fields #[.ref a] }).objs.size:=(by simpa using hb);subst e;exact O.jy (sS _) (O.bE.fresh (sS _))
end
section
variable {X:Cx}{tg:KJ}
end
section
variable {X:Cx}{C:Addr}{x:Str}{np hpos pos:Nj}{body suite:List KO}{b₀:KO}{tb:TSX}{ts:TS}
end
end L2
namespace Srt
open PySem PyProof.Rows
section
variable {prog:ti}{w:Kl}{A:KA}{E:Value->mu->Prop}{s:mu}{a₀:Array HC}
end
section
variable {prog:ti}{w:Kl}{A:KA}{E:Value->mu->Prop}{s:mu}
end
section
variable {prog:ti}{w:Kl}{A:KA}{E:Value->mu->Prop}{s:mu}{T:String}{r d:Addr}{n:Nat}{P:Nat->Value->Prop}{OK:Heap->Prop}
end
end Srt
namespace L2
open PySem PySem.Spec PyProof.Rows
section
variable {X:Cx}
end
end L2
namespace Sp
open PySem PySem.StrLaws PySem.Builtin PySem.Builtin.Str
end Sp
namespace L2
open PySem PySem.Spec PyProof.Rows PySem.Builtin PySem.Builtin.Str
section
variable {X:Cx}
theorem ie (S:X.calm=true):dt X (.builtin "sum") (λxs H Q=>∃(p:Addr) (ns:List Int),xs=[.ref p]/\bq X.K H p (ns.map V.int)/\Q (.int ns.sum) H):=by
 intro pins s σ H xs us Q I r h;obtain⟨p,ns,rfl,R,q⟩:=h;obtain⟨u,rfl,U⟩:=vals1 r;cases U;obtain⟨its,O,pl,Y⟩:=I.list R;have G:=intsAre_of O;have N:=G.numsOf;obtain⟨ys,e⟩:=G.allInts.items;have J:=pl.isList;rw[e]at J;refine sum_intListG (I.ok.hd S) J λh' tk t' L=>?_;have hs:preSum (numAt ys) ys.size=ns.sum:=by
  rw[preSum_eq,Ll (by simp), <-nums_intItems, <-e];rw[show its.toArray.toList=its from rfl,N]
 exact⟨.int ns.sum,H,I.kept L,⟨_,by rw[hs]⟩,q⟩
end
section
variable {X:Cx}
theorem yS:dt X (.type "range") (λxs H Q=>∃i j:Int,xs=[.int i,.int j]/\∀p,H p=none->Q (.ref p) (upd H p (.rng i j))):=by
 intro pins s σ H xs us Q I r h;obtain⟨i,j,rfl,q⟩:=h;obtain⟨u,G,rfl,⟨t,rfl⟩,⟨t',rfl⟩⟩:=vals2 r;refine call_range_2 ⟨.ref s.heap.objs.size,_,I.laid (λb o e=>Heap.get?_push_of_some _ e) (sS _) ?_,rfl,q _ (I.bE.fresh (sS _))⟩;exact⟨_,_,_,Heap.get?_push_size s.heap rfl⟩
end
section
variable {X:Cx}
def xF (K:Kq):List V->Hp->VK->Prop:=λxs H Q=>∃p ys,xs=[.ref p]/\(bq K H p ys\/bZ K H p ys)/\Q (.int (ys.length:Nat)) H
theorem yF:dt X (.builtin "len") (xF X.K):=bJ
end
section
variable {t u r:TS}{D:Ends}{σ:St}{H:Hp}
abbrev Le (u G:TS):Prop:=∀D σ H,u D σ H->G D σ H
theorem Le.rfl:Le u u:=λ_ _ _ h=>h
theorem J7 {c:TT}(k:∀t' G,Le t t'->Le u G->lU c t' G D σ H):lU c t u D σ H:=k t u Le.rfl Le.rfl
theorem gn {te:TE}{i:Nat}(k:∀Q:V->Hp->Prop,(∀x H1,u D (σ.set i (some x)) H1->Q x H1)->te σ H Q):iZ (zi te (ma i)) u D σ H:=k _ λ_ _ h=>h
theorem CQ {te:TE}(k:∀Q:V->Hp->Prop,(∀x H1,u D σ H1->Q x H1)->te σ H Q):iZ (Bg te) u D σ H:=k _ λ_ _ h=>h
theorem Dm {te:TE}(k:∀Q:V->Hp->Prop,(∀x H1,D.nx σ H1->Q x H1)->te σ H Q):Bg te D σ H:=k _ λ_ _ h=>h
theorem Jn {te:TE}(k:∀Q:V->Hp->Prop,(∀x H1,D.rt x H1->Q x H1)->te σ H Q):zb te D σ H:=k _ λ_ _ h=>h
theorem bQ {A B:Hp->Prop}{Q:Bool->Hp->Prop}(e:Q=λb H1=>if b=true then A H1 else B H1):(∀H1,A H1->Q true H1)/\∀H1,B H1->Q false H1:=by
 subst e;exact⟨λ_ h=>eI h,λ_ h=>bU h⟩
theorem iK {c:TT}(k:∀Q:Bool->Hp->Prop,(∀H1,t { D with nx:=r D } σ H1->Q true H1)->(∀H1,r D σ H1->Q false H1)->c σ H Q):iZ (lU c t kP) r D σ H:=k _ (bQ rfl).1 (bQ (A:=λH1=>t { D with nx:=r D } σ H1) rfl).2
theorem C4 {c:TT}{te:TE}(k:∀Q:Bool->Hp->Prop,(∀H1,zb te D σ H1->Q true H1)->(∀H1,r D σ H1->Q false H1)->c σ H Q):iZ (lU c (zb te) kP) r D σ H:=k _ (bQ rfl).1 (bQ (A:=λH1=>zb te D σ H1) rfl).2
theorem wC {c:TT}(k:∀Q:Bool->Hp->Prop,(∀H1,t D σ H1->Q true H1)->(∀H1,D.nx σ H1->Q false H1)->c σ H Q):lU c t kP D σ H:=k _ (bQ rfl).1 (bQ (A:=λH1=>t D σ H1) rfl).2
theorem vD {Q:Bool->Hp->Prop}{b:Bool}{H:Hp}(t:b=true->Q true H) (f:¬ b=true->Q false H):Q b H:=by
 cases b
 .exact f (by intro z;cases z)
 .exact t rfl
theorem mK {c:TT}(G:St->Hp->Prop) (mk:(∀σ H,G σ H->r D σ H)->∀Q:Bool->Hp->Prop,(∀H1,t { D with nx:=r D } σ H1->Q true H1)->(∀H1,G σ H1->Q false H1)->c σ H Q) (h:∀σ H,G σ H->r D σ H):iZ (lU c t kP) r D σ H:=mk h _ (bQ rfl).1 λH1 p=>(bQ (A:=λH1=>t { D with nx:=r D } σ H1) rfl).2 H1 (h _ _ p)
def Ev (te:TE) (σ:St) (H:Hp) (v:V):Prop:=∀Q:V->Hp->Prop,Q v H->te σ H Q
theorem iM {i:Nat}{v:V}(h:σ[i]?=some (some v)):Ev (sJ i) σ H v:=λ_ q=>⟨_,h,q⟩
theorem iJ {v:V}:Ev (tC v) σ H v:=λ_ q=>q
theorem yZ {ta tb:TE}{x y:V}{Q:Bool->Hp->Prop}(a:Ev ta σ H x) (b:Ev tb σ H y) (s:tR x y=true) (n:¬ x=y) (q:Q false H):lW (Bw Eu ta tb) σ H Q:=a _ (b _ ⟨s,_,rfl,by rw[decide_eq_false n];exact q⟩)
theorem eqT {ta tb:TE}{x:V}{Q:Bool->Hp->Prop}(a:Ev ta σ H x) (b:Ev tb σ H x) (s:tR x x=true) (q:Q true H):lW (Bw Eu ta tb) σ H Q:=a _ (b _ ⟨s,_,rfl,by rw[decide_eq_true rfl];exact q⟩)
theorem share (G:St->Hp->Prop) (mk:∀I,(∀σ H,G σ H->I D σ H)->iZ t I D σ H) (h:∀σ H,G σ H->u D σ H):iZ t u D σ H:=mk u h
end
section
variable {X:Cx}
theorem mW (S:X.calm=true):dt X (.type "list") (λxs H Q=>∃(p:Addr) (i:Int) (n:Nat),xs=[.ref p]/\H p=some (.rng i (i+n))/\n<=1000 /\ -1000<=i/\i<=1000/\∀l,H l=none->Q (.ref l) (upd H l (.lst ((Kx n).map λk:Nat=>V.int (i+k))))):=by
 intro pins s σ H xs us Q I r h;obtain⟨p,i,n,rfl,hp,hn,i0,i1,q⟩:=h;obtain⟨u,rfl,Y⟩:=vals1 r;cases Y;have hs:=BY;obtain⟨t,u,v,e⟩:=(show bS X.prog X.w H s.heap p (.rng i (i+n))from I.bE p _ hp);refine call_list_range (n:=n) (I.ok.hd S) e (small_one af af af af) (by rw[rangeSize_one];split<;>omega) af λh' tk G N kp U it=>?_;have R:Vals ((Kx n).map λk:Nat=>V.int (i+k)) G.toList:=by
  obtain⟨h1,h2⟩:=it;refine qC ?_ λj x v J hv=>?_
  .rw[nq,Lg];simpa using h1.symm
  .rw[wh]at J;obtain⟨k,L,rfl⟩:=vr.mp J;have O:k=j:=by
    have:=j1.mp L;obtain⟨_,e⟩:=this;simpa using e.symm
   obtain⟨t,e⟩:=h2 j v (by simpa using hv);exact⟨t,by rw[e,O];congr 1;omega⟩
 refine⟨.ref s.heap.objs.size,_,I.laid kp (sS _) (show bS X.prog X.w _ h' _ (.lst ((Kx n).map λk:Nat=>V.int (i+k)))from⟨by rw[nq,Lg];omega,G.toList,N,R,by simpa using U⟩),rfl,q _ (I.bE.fresh (sS _))⟩
end
theorem vi {a:Addr}{o:Obj}{kvs:List (Key×V)}{caps:List (Str×Nat)}{te:TE}{σ:St}{H:Hp}{J:List V->Hp->Prop}(Pv:Nat->List V->Hp->Prop) (N:Pv 0 [] H)
  (S:∀i zs H,i<=kvs.length->Pv i zs H->H a=some (.frz o (.dK kvs)))
  (hs:∀i k v zs H,kvs[i]?=some (k,v)->Pv i zs H->te (fL caps σ (some (kV k))) H (λz R=>zs.length<sizeLine/\Pv (i+1) (zs++[z]) R))
  (hd:∀zs H,Pv kvs.length zs H->J zs H):∃W:Nat->Nat->List V->Hp->Prop,(∃m,W 0 m [] H)/\ic caps nX te σ (Eo a o kvs) J W:=by
 refine⟨λi m zs H=>m=kvs.length-i/\i<=kvs.length/\Pv i zs H,⟨kvs.length,by simp,KI _,N⟩,?_⟩;rintro i m zs H ⟨rfl,hi,p⟩;have I:=S i zs H hi p;by_cases G:i<kvs.length
 .refine .inr ⟨⟨I,G⟩,Pv (i+1),λU H' O=>⟨kvs.length-(i+1),Lf (LI kvs) i G,rfl,G,O⟩,?_⟩;rintro x H' ⟨rfl,k,v,L,rfl⟩;unfold nX;dsimp only;rw[Th rfl];exact hs i k v zs _ L p
 .have e:i=kvs.length:=af;subst e;exact .inl ⟨⟨I,sS _⟩,hd zs H p⟩
theorem qK {caps:List (Str×Nat)}{te:TE}{σ:St}{H:Hp}{lo st:Int}{n:Nat}{I:List V->Hp->Prop}(Pv:Nat->List V->Hp->Prop) (J:Pv 0 [] H)
  (hs:∀i ys H,i<n->Pv i ys H->te (fL caps σ (some (.int (lo+i*st)))) H (λy N=>ys.length<sizeLine/\Pv (i+1) (ys++[y]) N))
  (hd:∀ys H,Pv n ys H->I ys H):∃W:Nat->Nat->List V->Hp->Prop,(∃m,W 0 m [] H)/\ic caps nX te σ (DE lo st n) I W:=by
 refine⟨λi m ys H=>m=n-i/\i<=n/\Pv i ys H,⟨n,by simp,KI _,J⟩,?_⟩;rintro i m ys H ⟨rfl,hi,p⟩;by_cases G:i<n
 .refine .inr ⟨G,Pv (i+1),λO H' L=>⟨n-(i+1),Lf n i G,rfl,G,L⟩,λx H' y=>?_⟩;obtain⟨e,y⟩:=y;subst e y;unfold nX;dsimp only;rw[Th rfl];exact hs i ys _ G p
 .have e:i=n:=af;subst e;exact .inl ⟨sS _,hd ys H p⟩
theorem Cu {K:Kq}{a b:Addr}{xs ys:List V}{g:TG}{tb:TS}{D:Ends}{σ:St}{H:Hp}(Pv:Nat->St->Hp->Prop) (h0:Pv 0 σ H) (he:xs.length=ys.length)
  (hl:∀i σ H,i<=xs.length->Pv i σ H->bq K H a xs/\bq K H b ys)
  (hs:∀i x y σ H T,xs[i]?=some x->ys[i]?=some y->H T=none->Pv i σ H->g (.ref T) σ (upd H T (.tup [x,y])) λO H2=>tb { D with nx:=Pv (i+1),ct:=Pv (i+1),bk:=D.nx } O H2)
  (hd:∀σ H,Pv xs.length σ H->D.nx σ H) :
  ∃W:Nat->Nat->St->Hp->Prop,(∃m,W 0 m σ H)/\∀i m σ H,W i m σ H ->
   ((Fx K a b).stop i H/\D.nx σ H)\/((Fx K a b).go i H/\∃N:St->Hp->Prop,(∀I H',N I H'->∃R,R<m/\W (i+1) R I H')/\∀x H',(Fx K a b).Cg i H x H'->g x σ H' λO H2=>tb { D with nx:=N,ct:=N,bk:=D.nx } O H2):=by
 refine⟨λi m σ H=>m=xs.length-i/\i<=xs.length/\Pv i σ H,⟨xs.length,by simp,KI _,h0⟩,?_⟩;rintro i m σ H ⟨rfl,hi,p⟩;obtain⟨L,J⟩:=hl i σ H hi p;by_cases G:i<xs.length
 .have ab:i<ys.length:=Ln G he;refine .inr ⟨⟨xs,ys,xs[i],ys[i],L,J,by simp[G],by simp[ab]⟩,Pv (i+1),λI H' U=>⟨xs.length-(i+1),Lf (LI xs) i G,rfl,G,U⟩,?_⟩;rintro v H' ⟨T,x,y,rfl,Y,rfl,e1,S⟩;exact hs i x y σ H T (e1 _ L) (S _ J) Y p
 .have e:i=xs.length:=af;subst e;exact .inl ⟨⟨xs,ys,L,J,.inl (sS _)⟩,hd σ H p⟩
inductive Md (P:ti) (w:Kl) (K:Kq) (mg:Str->Option Value) (base:Heap) (cx:uO) (k:Nat) (C:Addr) (m:Str) (sp:Sp):Prop
 |mk (f:Addr) (fd:rn) (ps:List Str) (_:aZ P w K mg base cx k f fd ps sp) (_:Binds K fd ps []) (_:Meth K C m f):Md P w K mg base cx k C m sp
inductive Df (P:ti) (w:Kl) (K:Kq) (mg:Str->Option Value) (base:Heap) (cx:uO) (k:Nat) (x:Str) (sp:Sp):Prop
 |mk (f:Addr) (fd:rn) (ps:List Str) (_:aZ P w K mg base cx k f fd ps sp) (_:Binds K fd ps []) (_:mg x=some (.ref f)) (_:PH K (.ref f)=true):Df P w K mg base cx k x sp
section
variable {X:Cx}{CX:uO}{k j:Nat}{C:Addr}{sp:Sp}{E:XK}{x m:Str}{p pos apos:Nj}{e o:KJ}{es:List KJ}{ta:TE}{t:TA}
theorem pm {pl:QP Bool}(J:PE X o ta) (c:rG X.K C) (F:Md X.prog X.w X.K X.mg X.base CX k C m sp) (N:dn j X.A) (O:Passes CX X E) (R:PA X (e::es) t) (G:k<=j:=by decide)
  (I:starEach (e::es) X.env=(false,eval e X.env)::starEach es X.env:=by rfl) (S:(backTo pos (starEach es X.env)).any (·.1)=false:=by rfl)
  (L:eval (.Call (.Attribute o m apos) (e::es) [] pos) X.env=(do
   let ov <-eval o X.env
   QR apos.atName
   let (f,first) <-OM [ov] (Ph ov m pl)
   RH pos f first (backTo pos (starEach (e::es) X.env)) (Pk pos (Nz [] X.env))):=by rfl) :
  PE X (.Call (.Attribute o m apos) (e::es) [] pos) (wH C m sp [] E ta t):=by
 obtain⟨f,fd,_,g,b,q⟩:=F;exact B1 J c q g (N.mono G) b .nil O R I S L
theorem qz {pl:QP Bool}(I:PE X o ta) (c:rG X.K C) (F:Md X.prog X.w X.K X.mg X.base CX k C m sp) (L:dn j X.A) (N:Passes CX X E) (G:k<=j:=by decide)
  (J:eval (.Call (.Attribute o m apos) [] [] pos) X.env=(do
   let ov <-eval o X.env
   QR apos.atName
   let (f,first) <-OM [ov] (Ph ov m pl)
   RH pos f first (backTo pos (starEach [] X.env)) (Pk pos (Nz [] X.env))):=by rfl) :
  PE X (.Call (.Attribute o m apos) [] [] pos) (wH C m sp [] E ta BP):=by
 obtain⟨f,fd,_,g,b,q⟩:=F;exact Br I c q g (L.mono G) b .nil N J
theorem pc (F:Df X.prog X.w X.K X.mg X.base CX k x sp) (L:dn j X.A) (O:Passes CX X E) (N:PA X (e::es) t) (R:Gl X x:=by rfl) (G:k<=j:=by decide)
  (I:(x==("__debug__" : Str))=false:=by decide) (J:starEach (e::es) X.env=(false,eval e X.env)::starEach es X.env:=by rfl) (S:(backTo pos (starEach es X.env)).any (·.1)=false:=by rfl) :
  PE X (.Call (.Name x p) (e::es) [] pos) (Dl sp [] E t):=by
 obtain⟨f,fd,_,g,b,q,r⟩:=F;exact CF g (L.mono G) R q r b .nil O N I J S
end
end L2
namespace St
open PySem L2
def top (i:Nat):KO:=PySem.Challenge.pw_ownroom_k17_all_free_at_the_end.main.body.getD i (.Pass ⟨0,0,0,0⟩)
abbrev mQ:KO:=inClass (top 10) 0
abbrev za:KO:=inClass (top 10) 1
abbrev AJ:KO:=inClass (top 10) 3
abbrev Ap:KO:=inClass (top 10) 2
abbrev zF:KO:=inClass (top 10) 7
abbrev vd:KO:=inClass (top 10) 4
abbrev vR:KO:=inClass (top 10) 5
abbrev Fi:KO:=inClass (top 10) 6
abbrev qu:KO:=inClass (top 10) 8
theorem kc:¬ (("owners" : Str) = "contents"):=aq
def jD (ow co:Addr):List (Str×V):=bj "contents" (.ref co) (bj "owners" (.ref ow) [])
theorem d9 (ow co:Addr):(jD ow co).lookup ("owners" : Str)=some (.ref ow):=by
 unfold jD;rw[aF,Tg kc,aF,Th rfl]
theorem pH (ow co:Addr):(jD ow co).lookup ("contents" : Str)=some (.ref co):=by
 unfold jD;rw[aF,Th rfl]
theorem aX (ow co:Addr) {m:Str}(h1:¬ m = "contents") (h2:¬ m = "owners"):(jD ow co).lookup m=none:=by
 unfold jD;rw[aF,Tg h1,aF,Tg h2]
 all_goals rfl
def dN (H:Hp) (M:Addr->Prop):V->Option (List Int)->Prop
 |.non,none=>True
 |.ref a,some ns=>¬ M a/\H a=some (.lst (ns.map V.int))
 |_,_=>False
structure aQ (C:Addr) (H:Hp) (M:Addr->Prop) (p ow co:Addr) (os:List Int) (pg:List (Option (List Int))):Prop where
 ob:∃dx,H p=some (.ins C dx (jD ow co))
 hw:H ow=some (.lst (os.map V.int))
 hc:∃cs,H co=some (.lst cs)/\Paired (dN H M) cs pg
def Off (B:Addr->Prop) (H H':Hp):Prop:=∀b o,H b=some o->¬ B b->H' b=some o
theorem dN.off {B M:Addr->Prop}{H H':Hp}(h:Off B H H') (G:∀b,B b->M b):∀{v:V}{x:Option (List Int)},dN H M v x->dN H' M v x
 |.non,none,_=>trivial
 |.ref a,some ns,⟨h1,h2⟩=>⟨h1,h a _ h2 λz=>h1 (G a z)⟩
theorem iw {B M:Addr->Prop}{H H':Hp}(h:Off B H H') (G:∀b,B b->M b) {cs:List V}{pg:List (Option (List Int))}(q:Paired (dN H M) cs pg):Paired (dN H' M) cs pg :=
 Paired.yo q λ_ _ z=>z.off h G
theorem mX {α G:Type}{F:α->G->Prop}:∀{xs:List α}{ys:List G}{i:Nat}{y:G},Paired F xs ys->ys[i]?=some y->∃x,xs[i]?=some x/\F x y
 |_,_,_,_,.nil,e=>by simp at e
 |_,_,0,_,.cons r _,e=>by simp at e;subst e;exact⟨_,rfl,r⟩
 |_,_,i+1,y,.cons _ t,e=>by
  obtain⟨u,h1,h2⟩:=mX (i:=i) (y:=y) t (by simpa using e);exact⟨u,by simpa using h1,h2⟩
theorem jj {α G:Type}{F:α->G->Prop}{x:α}{y:G}(r:F x y):∀{xs:List α}{ys:List G}(i:Nat),Paired F xs ys->Paired F (xs.set i x) (ys.set i y)
 |_,_,_,.nil=>.nil
 |_,_,0,.cons _ t=>.cons r t
 |_,_,i+1,.cons q t=>.cons q (jj r i t)
theorem nj {α G:Type}{F:α->G->Prop}{x:α}{y:G}(r:F x y):∀n:Nat,Paired F (replicate n x) (replicate n y)
 |0=>.nil
 |n+1=>.cons r (nj r n)
structure Txt (K:Kq) (mg:Str->Option Value) (C:Addr):Prop where
 cl:rG K C
 nO:cQ K C "owners"
 nC:cQ K C "contents"
 len:mg "len" = none
 list:mg "list" = none
 pc:∃u,mg "PAGE_CELLS" = some u/\RelV (.int 8) u
inductive gU (C:Addr) (vs:List V) (H:Hp) (Q:VK) (e3:XK):Prop
 |mk (p dx:Addr) (n:Nat) (_:vs=[.ref p,.int n]) (_:n<=60) (_:H p=some (.ins C dx [])) (_:∀(ow co:Addr) (H':Hp),H ow=none->H co=none->ow≠co->(∀M,aQ C H' M p ow co (replicate n 0) (replicate n none))->Off (· = p) H H'->Q .non H'):gU C vs H Q e3
def dW (os:List Int) (n:Int):Int:=if n<0\/(os.length:Int)<=n then 0 else os.getD n.toNat 0
theorem k8 {os:List Int}{n:Int}(h:dW os n≠0):0<=n/\n.toNat<os.length/\n<os.length/\n=(n.toNat:Int):=by
 unfold dW at h;by_cases z:n<0\/(os.length:Int)<=n
 .rw[Th z]at h;exact absurd rfl h
 .omega
theorem wg {os:List Int}{j:Nat}(h:j<os.length):dW os (j:Int)=os.getD j 0:=by
 unfold dW;rw[Tg af];simp
inductive gx (C:Addr) (vs:List V) (H:Hp) (Q:VK) (e3:XK):Prop
 |mk (p ow co:Addr) (M:Addr->Prop) (os:List Int) (pg:List (Option (List Int))) (n:Int) (_:vs=[.ref p,.int n]) (_:aQ C H M p ow co os pg) (_:os.length<=60) (_:Q (.int (dW os n)) H):gx C vs H Q e3
inductive gj (C:Addr) (vs:List V) (H:Hp) (Q:VK) (e3:XK):Prop
 |mk (p ow co:Addr) (M:Addr->Prop) (os:List Int) (pg:List (Option (List Int))) (n:Int) (_:vs=[.ref p,.int n]) (_:aQ C H M p ow co os pg) (_:os.length<=60) (_:dW os n≠0) (_:Q .non H):gj C vs H Q e3
inductive wa (C:Addr) (vs:List V) (H:Hp) (Q:VK) (e3:XK):Prop
 |mk (p ow co:Addr) (M:Addr->Prop) (os:List Int) (pg:List (Option (List Int))) (_:vs=[.ref p]) (_:aQ C H M p ow co os pg) (_:M ow) (_:M co) (_:(∀b,M b->H b≠none)) (_:ow≠co) (_:os.length=pg.length) (_:os.length<=60) (_:(¬ (0:Int)∈os->Q .non H)) (_:((0:Int)∈os->∀H',aQ C H' M p ow co (os.set (os.idxOf 0) 1) (pg.set (os.idxOf 0) (some (replicate 8 0)))->Off (λb=>b=ow\/b=co) H H'->Q (.int (os.idxOf 0:Nat)) H')):wa C vs H Q e3
inductive rh (C:Addr) (vs:List V) (H:Hp) (Q:VK) (e3:XK):Prop
 |mk (p ow co:Addr) (M:Addr->Prop) (os:List Int) (pg:List (Option (List Int))) (n:Int) (_:vs=[.ref p,.int n]) (_:aQ C H M p ow co os pg) (_:M ow) (_:M co) (_:ow≠co) (_:os.length<=60) (_:dW os n≠0) (_:∀H',aQ C H' M p ow co (os.set n.toNat (dW os n-1)) pg->Off (λb=>b=ow\/b=co) H H'->Q .non H'):rh C vs H Q e3
inductive qx (C:Addr) (vs:List V) (H:Hp) (Q:VK) (e3:XK):Prop
 |mk (p ow co:Addr) (M:Addr->Prop) (os:List Int) (pg:List (Option (List Int))) (n:Int) (_:vs=[.ref p,.int n]) (_:aQ C H M p ow co os pg) (_:M ow) (_:M co) (_:ow≠co) (_:os.length<=60) (_:dW os n≠0) (_:∀H',aQ C H' M p ow co (os.set n.toNat (dW os n+1)) pg->Off (λb=>b=ow\/b=co) H H'->Q .non H'):qx C vs H Q e3
inductive qf (C:Addr) (vs:List V) (H:Hp) (Q:VK) (e3:XK):Prop
 |mk (p ow co:Addr) (M:Addr->Prop) (os:List Int) (pg:List (Option (List Int))) (_:vs=[.ref p]) (_:aQ C H M p ow co os pg) (_:Q (.int (os.count 0:Nat)) H):qf C vs H Q e3
inductive lE (C:Addr) (vs:List V) (H:Hp) (Q:VK) (e3:XK):Prop
 |mk (p ow co:Addr) (M:Addr->Prop) (os:List Int) (pg:List (Option (List Int))) (n:Int) (ns:List Int) (_:vs=[.ref p,.int n]) (_:aQ C H M p ow co os pg) (_:os.length<=60) (_:dW os n≠0) (_:pg[n.toNat]?=some (some ns)) (_:∀l,H l=none->Q (.ref l) (upd H l (.lst (ns.map V.int)))):lE C vs H Q e3
inductive xu (K:Kq) (C:Addr) (vs:List V) (H:Hp) (Q:VK) (e3:XK):Prop
 |mk (p ow co c:Addr) (M:Addr->Prop) (os:List Int) (pg:List (Option (List Int))) (n:Int) (ns:List Int) (_:vs=[.ref p,.int n,.ref c]) (_:aQ C H M p ow co os pg) (_:M ow) (_:M co) (_:(∀b,M b->H b≠none)) (_:ow≠co) (_:os.length=pg.length) (_:os.length<=60) (_:dW os n≠0) (_:bq K H c (ns.map V.int)) (_:∀H',aQ C H' M p ow co os (pg.set n.toNat (some ns))->Off (λb=>b=ow\/b=co) H H'->Q .non H'):xu K C vs H Q e3
section
variable {P:ti}{w:Kl}{K:Kq}{mg:Str->Option Value}{base:Heap}
theorem rep1 {α:Type}(x:α) (n:Nat):(replicate n [x]).flatten=replicate n x:=by
 induction n with
 |zero=>rfl
 |succ n G=>rw[L6,Ml,G,L6];rfl
theorem IS:aD ["self","many"] ["self","many"] (aw mQ):=L2.bD
theorem qB {f C:Addr}{fd:rn}(F:cD K "__init__" "Store.__init__" mQ f fd) (T:Txt K mg C):aZ P w K mg base aS 1 f fd ["self","many"] (gU C):=by
 refine F.dg IS (λa0 A outer s H vs Q E hr h=>?_);obtain⟨p,dx,n,rfl,hn,U,k⟩:=h;refine⟨_,ag (fb (pv 0) (ay ff (bN (aa ak aj)) (pv 1)) rfl) (ao (fb (pv 0) (ay ff (bN (aa qN aj)) (pv 1)) rfl)),?_⟩;have hs:=BY;refine⟨av,λL ac=>?_⟩;have aT:p≠L:=au U ac;refine⟨_,rfl,L,n,_,rfl,rfl,ae,af,af,by rw[Lr];omega,λow J=>?_⟩;have aB:ow≠L:=λz=>(by rw[z,ae]at J;cases J);rw[ah aB]at J;have O:p≠ow:=au U J;refine⟨_,rfl,p,C,dx,[],rfl,by rw[ah O,ah aT];exact U,T.cl,T.nO,av,?_⟩;refine⟨av,λN I=>?_⟩;have ab:N≠p:=λz=>(by rw[z,ae]at I;cases I);rw[ah ab]at I;have ai:N≠ow:=λz=>(by rw[z,ae]at I;cases I);rw[ah ai]at I;have am:N≠L:=λz=>(by rw[z,ae]at I;cases I);rw[ah am]at I;refine⟨_,rfl,N,n,_,rfl,rfl,ae,af,af,by rw[Lr];omega,λco G=>?_⟩;have as:co≠N:=λz=>(by rw[z,ae]at G;cases G);rw[ah as]at G;have S:co≠p:=λz=>(by rw[z,ae]at G;cases G);rw[ah S]at G;have R:co≠ow:=λz=>(by rw[z,ae]at G;cases G);rw[ah R]at G;have ap:co≠L:=λz=>(by rw[z,ae]at G;cases G);rw[ah ap]at G;refine⟨_,rfl,p,C,dx,_,rfl,by rw[ah (qw S),ah (qw ab),ae],T.cl,T.nC,by show 1<1000;decide,?_⟩;rw[show((n:Int)).toNat=n by omega,rep1,rep1];refine k ow co _ J G (qw R) (λM=>⟨⟨dx,ae⟩,?_,⟨_,?_,nj (show dN _ M .non none from trivial) n⟩⟩) λb o e hb=>?_
 .rw[ah (qw O),ah (qw R),ah (qw ai),ah (qw O),ae,N2]
 .rw[ah S,ae]
 .have Y:b≠p:=hb;rw[ah Y,ah (au e G),ah (au e I),ah Y,ah (au e J),ah (au e ac)];exact e
theorem HX:aD ["self","n"] ["self","n"] (aw vd):=L2.bD
theorem Bl {f C:Addr}{fd:rn}(F:cD K "count" "Store.count" vd f fd) (T:Txt K mg C):aZ P w K mg base aS 1 f fd ["self","n"] (gx C):=by
 refine F.dg HX (λN A outer s H vs Q E O h=>?_);obtain⟨p,ow,co,M,os,pg,n,rfl,S,L,k⟩:=h;obtain⟨⟨dx,h1⟩,J,_⟩:=id S;refine⟨_,ag (aU (gL (aE gH (pv 1) ak (aI _)) (fK (aE FJ (pv 1) (aP bJ (by rfl) T.len boot_len (aa (aM (pv 0) rfl) aj)) (aI _)))).pt (ao (aG ak)) aH)
  (ao (aG (a9 cz (aM (pv 0) rfl) (pv 1) cq))),?_⟩
 refine⟨_,rfl,_,_,rfl,rfl,_,rfl,?_⟩;refine iV (λc=>?_) (λc=>?_)
 .refine eI ?_;have I:n<0:=(by simpa using c);unfold dW at k;rw[Th (.inl I)]at k;exact k
 .have I:¬ n<0:=(by simpa using c);refine⟨_,rfl,_,rfl,p,C,dx,_,_,rfl,h1,T.cl,T.nO,d9 _ _,ow,_,rfl,.inl (bq.of J),_,_,rfl,rfl,_,rfl,?_⟩;refine iV (λd=>?_) (λd=>?_)
  .have d':(os.length:Int)<=n:=(by simpa using d);unfold dW at k;rw[Th (.inr d')]at k;exact k
  .have d':¬ (os.length:Int)<=n:=(by simpa using d);obtain⟨j,rfl⟩:∃j:Nat,n=j:=⟨n.toNat,af⟩;have G:j<os.length:=af;rw[wg G]at k;refine⟨_,rfl,p,C,dx,_,_,rfl,h1,T.cl,T.nO,d9 _ _,_,rfl,ow,_,j,.int (os.getD j 0),rfl,rfl,bq.of J,jv ?_,k⟩;rw[wh,IF G];simp[G]
theorem Ke:aD ["self","n"] ["self","n"] (aw qu):=L2.bD
theorem yR {f C:Addr}{fd:rn}(F:cD K "refuse_free" "Store.refuse_free" qu f fd) (T:Txt K mg C) (G:Md P w K mg base aS 1 C "count" (gx C)) :
  aZ P w K mg base aS 2 f fd ["self","n"] (gj C):=by
 refine F.dg Ke (λO A outer s H vs Q E J h=>?_);obtain⟨p,ow,co,M,os,pg,n,rfl,S,I,L,k⟩:=h;obtain⟨⟨dx,h1⟩,N,_⟩:=id S;refine⟨_,ao (aU (aE bR (pm (pv 0) T.cl G J az (aa (pv 1) aj)) ak (aI _)) (cN) aH),?_⟩;refine⟨_,rfl,p,dx,_,rfl,h1,aX _ _ aq aq,_,rfl,p,ow,co,M,os,pg,n,rfl,S,I,rfl,_,rfl,?_⟩;refine iV (λc=>?_) (λc=>?_)
 .exact absurd (by simpa using c) L
 .exact k
theorem HN:aD ["self","n"] ["self","n"] (aw AJ):=L2.bD
theorem f9 {H:Hp}{M:Addr->Prop}{a:Addr}{o:HO}{cs:List V}{pg:List (Option (List Int))}(I:M a) (q:Paired (dN H M) cs pg):Paired (dN (upd H a o) M) cs pg :=
 iw (B:=(· = a)) (λb u e G=>by rw[ah (show b≠a from G)];exact e) (λb z=>by rw[show b=a from z];exact I) q
theorem kh {H:Hp}{M:Addr->Prop}{a:Addr}{o:HO}{cs:List V}{pg:List (Option (List Int))}(G:H a=none) (q:Paired (dN H M) cs pg):Paired (dN (upd H a o) M) cs pg :=
 iw (B:=λ_=>False) (λb u e _=>by rw[ah (au e G)];exact e) (λb z=>z.elim) q
theorem iG {H:Hp}{p a C dx:Addr}{fs:List (Str×V)}{xs:List V}(h:H p=some (.ins C dx fs)) (h':H a=some (.lst xs)):p≠a:=cE h h' (by intro z;cases z)
theorem Cc {f C:Addr}{fd:rn}(F:cD K "less" "Store.less" AJ f fd) (T:Txt K mg C) (L:Md P w K mg base aS 2 C "refuse_free" (gj C)) :
  aZ P w K mg base aS 3 f fd ["self","n"] (rh C):=by
 refine F.dg HN (λab A outer s H vs Q E R h=>?_);obtain⟨p,ow,co,M,os,pg,n,rfl,S,mw,mc,U,N,J,k⟩:=h;obtain⟨⟨dx,h1⟩,G,cs,O,hp⟩:=id S;refine⟨_,ag (aL (pm (pv 0) T.cl L R az (aa (pv 1) aj)))
  (ao (wY (aM (pv 0) rfl) (pv 1) (tV) ak Ew set_list)),?_⟩
 refine⟨_,rfl,p,dx,_,rfl,h1,aX _ _ aq aq,_,rfl,p,ow,co,M,os,pg,n,rfl,S,N,J,?_⟩;obtain⟨h0,I,hn,Y⟩:=k8 J;generalize n.toNat=j at *;subst Y;refine⟨_,rfl,p,C,dx,_,_,rfl,h1,T.cl,T.nO,d9 _ _,_,rfl,ow,_,j,.int (os.getD j 0),rfl,rfl,bq.of G,jv (by rw[wh,IF I];simp[I]),_,_,rfl,rfl,ow,_,j,j,rfl,rfl,G,?_,?_⟩
 .unfold xw;rw[nq,Th af,Th af];simp
 .rw[wg I]at k;refine k _ ⟨⟨dx,by rw[ah (iG h1 G)];exact h1⟩,?_,⟨cs,by rw[ah (qw U)];exact O,f9 mw hp⟩⟩ λb o e hb=>?_
  .rw[ae,SG]
  .rw[ah (λz=>hb (.inl z))];exact e
theorem Ka:aD ["self","n"] ["self","n"] (aw vR):=L2.bD
theorem zv {f C:Addr}{fd:rn}(F:cD K "cells" "Store.cells" vR f fd) (T:Txt K mg C) (I:Md P w K mg base aS 2 C "refuse_free" (gj C)) :
  aZ P w K mg base aS 3 f fd ["self","n"] (lE C):=by
 refine F.dg Ka (λab A outer s H vs Q E O h=>?_);obtain⟨p,ow,co,M,os,pg,n,ns,rfl,S,L,G,J,k⟩:=h;obtain⟨⟨dx,h1⟩,hw,cs,N,hp⟩:=id S;refine⟨_,ag (aL (pm (pv 0) T.cl I O az (aa (pv 1) aj)))
  (ao (aG (bG cB (by rfl) T.list dv (aa (a9 cz (aM (pv 0) rfl) (pv 1) cq) aj)))),?_⟩
 refine⟨_,rfl,p,dx,_,rfl,h1,aX _ _ aq aq,_,rfl,p,ow,co,M,os,pg,n,rfl,S,L,G,?_⟩;obtain⟨h0,hj,hn,R⟩:=k8 G;generalize n.toNat=j at *;subst R;obtain⟨v,Y,cv⟩:=mX hp J;obtain⟨a,rfl,U⟩:∃a,v=.ref a/\H a=some (.lst (ns.map V.int)):=by
  cases v with
  |ref a=>exact⟨a,rfl,cv.2⟩
  |_=>exact LO cv
 refine⟨_,rfl,p,C,dx,_,_,rfl,h1,T.cl,T.nC,pH _ _,_,rfl,co,cs,j,_,rfl,rfl,bq.of N,jv Y,a,_,rfl,.inl (bq.of U),k⟩
theorem FQ:aD ["self","n","cells"] ["self","n","cells"] (aw Fi):=L2.bD
theorem iU {α G:Type}{F:α->G->Prop}:∀{xs:List α}{ys:List G},Paired F xs ys->xs.length=ys.length
 |_,_,.nil=>rfl
 |_,_,.cons _ t=>by rw[Kp,Kp,iU t]
theorem DG {f C:Addr}{fd:rn}(F:cD K "put" "Store.put" Fi f fd) (T:Txt K mg C) (R:Md P w K mg base aS 2 C "refuse_free" (gj C)) :
  aZ P w K mg base aS 3 f fd ["self","n","cells"] (xu K C):=by
 refine F.dg FQ (λac A outer s H vs Q E Y h=>?_);obtain⟨p,ow,co,c,M,os,pg,n,ns,rfl,S,mw,mc,mt,ab,ai,U,N,hq,k⟩:=h;obtain⟨⟨dx,h1⟩,L,cs,I,O⟩:=id S;refine⟨_,ag (aL (pm (pv 0) T.cl R Y az (aa (pv 1) aj)))
  (ao (cK (bG cB (by rfl) T.list dv (aa (pv 2) aj)) (d0 (aM (pv 0) rfl) (pv 1) set_list))),?_⟩
 refine⟨_,rfl,p,dx,_,rfl,h1,aX _ _ aq aq,_,rfl,p,ow,co,M,os,pg,n,rfl,S,U,N,?_⟩;obtain⟨h0,hj,hn,en⟩:=k8 N;generalize n.toNat=j at *;subst en;have am:=iU O;refine⟨_,rfl,c,_,rfl,.inl hq,λl J=>?_⟩;have G:∀{b:Addr}{o:HO},H b=some o->b≠l:=λe=>au e J;refine⟨_,rfl,p,C,dx,_,_,rfl,by rw[ah (G h1)];exact h1,T.cl,T.nC,pH _ _,_,rfl,co,cs,j,j,rfl,rfl,by rw[ah (G I)];exact I,?_,?_⟩
 .unfold xw;rw[Th af,Th af];simp
 .have hM:¬ M l:=λz=>mt l z J;refine k _ ⟨⟨dx,by rw[ah (iG h1 I),ah (G h1)];exact h1⟩,by rw[ah ab,ah (G L)];exact L,⟨_,ae,f9 mc (jj ⟨hM,ae⟩ j (kh J O))⟩⟩ λb o e hb=>?_;rw[ah (λz=>hb (.inr z)),ah (G e)];exact e
theorem JP:aD ["self","n"] ["self"] (aw za):=L2.bD
theorem J8 (os:List Int):EF (.int 0) (os.map V.int)=decide ((0:Int)∈os):=by
 unfold EF;rw[List.any_map,MF,Pu,decide_eq_true_iff];constructor
 .rintro⟨x,G,e⟩;have I:x=0:=by
   have:(x==(0:Int))=true:=e;simpa using this
  subst I;exact G
 .intro h;exact⟨0,h,rfl⟩
theorem Ct {f C:Addr}{fd:rn}(F:cD K "take" "Store.take" za f fd) (T:Txt K mg C):aZ P w K mg base aS 1 f fd ["self"] (wa C):=by
 refine F.dg JP (λab A outer s H vs Q E hr h=>?_);obtain⟨p,ow,co,M,os,pg,rfl,S,mw,mc,mt,U,ac,hl,k0,k1⟩:=h;obtain⟨⟨dx,h1⟩,I,cs,O,hp⟩:=id S;obtain⟨u8,m8,r8⟩:=T.pc;have hs:=BY;refine⟨_,ag (aU (aE jm ak (aM (pv 0) rfl) (by with_unfolding_all rfl)) (ao (aG qN)) aH)
  (ag (dA 1 JP.nd (ig Lq Po PySem.F.type_list_index AO (aM (pv 0) rfl) (aa ak aj)))
  (ag (cK ak (d0 (aM (pv 0) rfl) (pv 1) set_list))
  (ag (cK (ay ff (bN (aa ak aj)) (cj (by rfl) m8 r8)) (d0 (aM (pv 0) rfl) (pv 1) set_list))
  (ao (aG (pv 1)))))),?_⟩
 refine⟨_,rfl,p,C,dx,_,_,rfl,h1,T.cl,T.nO,d9 _ _,ow,_,rfl,.inl (bq.of I),rfl,dF _,_,rfl,?_⟩;show if (!EF (.int 0) (os.map V.int))=true then _ else _
 rw[J8];by_cases c:(0:Int)∈os
 .rw[decide_eq_true c];refine bU ?_;have hj:os.idxOf 0<os.length:=LA.mpr c;have ai:=iU hp;refine⟨_,rfl,p,C,dx,_,_,rfl,h1,T.cl,T.nO,d9 _ _,.inl ⟨rfl,_,bq.of I⟩,ow,os,0,rfl,rfl,I,c,?_⟩;have k2:=k1 c;generalize os.idxOf 0=j at *;refine⟨_,rfl,p,C,dx,_,_,rfl,h1,T.cl,T.nO,d9 _ _,_,rfl,ow,_,j,j,rfl,rfl,I,?_,?_⟩
  .unfold xw;rw[nq,Th af,Th af];simp
  .refine⟨av,λl N=>?_⟩;have lw:l≠ow:=λz=>(by rw[z,ae]at N;cases N);rw[ah lw]at N;refine⟨l,8,_,rfl,rfl,ae,af,af,by rw[Lr];omega,λq G=>?_⟩;have Y:q≠l:=λz=>(by rw[z,ae]at G;cases G);rw[ah Y]at G;have R:q≠ow:=λz=>(by rw[z,ae]at G;cases G);rw[ah R]at G;have L:∀{b:Addr}{o:HO},H b=some o->b≠l:=λe=>au e N;have J:∀{b:Addr}{o:HO},H b=some o->b≠q:=λe=>au e G;refine⟨_,rfl,p,C,dx,_,_,rfl,by rw[ah (J h1),ah (L h1),ah (iG h1 I)];exact h1,T.cl,T.nC,pH _ _,_,rfl,co,cs,j,j,rfl,rfl,by rw[ah (J O),ah (L O),ah (qw U)];exact O,?_,?_⟩
   .unfold xw;rw[Th af,Th af];simp
   .refine⟨_,rfl,?_⟩;have hM:¬ M q:=λz=>mt q z G;refine k2 _ ⟨⟨dx,by rw[ah (iG h1 O),ah (J h1),ah (L h1),ah (iG h1 I)];exact h1⟩,?_,⟨_,ae,f9 mc (jj ⟨hM,by rw[ae];rfl⟩ j (kh (by rw[ah Y,ah R];exact G) (kh (by rw[ah lw];exact N) (f9 mw hp))))⟩⟩ λb o e hb=>?_
    .rw[ah U,ah (J I),ah (L I),ae,SG]
    .rw[ah (λz=>hb (.inr z)),ah (J e),ah (L e),ah (λz=>hb (.inl z))];exact e
 .rw[decide_eq_false c];exact k0 c
theorem Ip:aD ["self","n"] ["self","n"] (aw Ap):=L2.bD
theorem CK {f C:Addr}{fd:rn}(F:cD K "more" "Store.more" Ap f fd) (T:Txt K mg C) (L:Md P w K mg base aS 2 C "refuse_free" (gj C)) :
  aZ P w K mg base aS 3 f fd ["self","n"] (qx C):=by
 refine F.dg Ip (λab A outer s H vs Q E R h=>?_);obtain⟨p,ow,co,M,os,pg,n,rfl,S,mw,mc,U,N,J,k⟩:=h;obtain⟨⟨dx,h1⟩,G,cs,O,hp⟩:=id S;refine⟨_,ag (aL (pm (pv 0) T.cl L R az (aa (pv 1) aj)))
  (ao (wY (aM (pv 0) rfl) (pv 1) (tV) ak El set_list)),?_⟩
 refine⟨_,rfl,p,dx,_,rfl,h1,aX _ _ aq aq,_,rfl,p,ow,co,M,os,pg,n,rfl,S,N,J,?_⟩;obtain⟨h0,I,hn,Y⟩:=k8 J;generalize n.toNat=j at *;subst Y;refine⟨_,rfl,p,C,dx,_,_,rfl,h1,T.cl,T.nO,d9 _ _,_,rfl,ow,_,j,.int (os.getD j 0),rfl,rfl,bq.of G,jv (by rw[wh,IF I];simp[I]),_,_,rfl,rfl,ow,_,j,j,rfl,rfl,G,?_,?_⟩
 .unfold xw;rw[nq,Th af,Th af];simp
 .rw[wg I]at k;refine k _ ⟨⟨dx,by rw[ah (iG h1 G)];exact h1⟩,?_,⟨cs,by rw[ah (qw U)];exact O,f9 mw hp⟩⟩ λb o e hb=>?_
  .rw[ae,SG]
  .rw[ah (λz=>hb (.inl z))];exact e
theorem Jo:aD ["self"] ["self"] (aw zF):=L2.bD
theorem CO {f C:Addr}{fd:rn}(F:cD K "free" "Store.free" zF f fd) (T:Txt K mg C):aZ P w K mg base aS 1 f fd ["self"] (qf C):=by
 refine F.dg Jo (λI A outer s H vs Q E J h=>?_);obtain⟨p,ow,co,M,os,pg,rfl,S,k⟩:=h;obtain⟨⟨dx,h1⟩,G,_⟩:=id S;refine⟨_,ao (aG (ig Lq PySem.F.slot_list_count PySem.F.type_list_count zy (aM (pv 0) rfl) (aa ak aj))),?_⟩;exact⟨_,rfl,p,C,dx,_,_,rfl,h1,T.cl,T.nO,d9 _ _,.inl ⟨rfl,_,bq.of G⟩,ow,os,0,rfl,rfl,G,k⟩
end
end St
namespace Tb
open PySem L2
def top (i:Nat):KO:=PySem.Challenge.pw_ownroom_k17_all_free_at_the_end.main.body.getD i (.Pass ⟨0,0,0,0⟩)
abbrev xb:KO:=top 29
abbrev mQ:KO:=inClass (top 30) 0
abbrev Ek:KO:=inClass (top 30) 1
abbrev EV:KO:=inClass (top 30) 2
abbrev uv:KO:=inClass (top 30) 3
abbrev vq:KO:=inClass (top 30) 4
theorem ar {H:Hp}{l:Addr}{X:HO}(h:H l=none):bg H (upd H l X):=λb o e=>by rw[ah (au e h)];exact e
def Off (B:Addr->Prop) (H H':Hp):Prop:=∀b o,H b=some o->¬ B b->H' b=some o
section
variable {α:Type}
def look (l:List (Int×α)) (k:Int):Option α:=(l.find? λx=>decide (x.1=k)).map (·.2)
def dk (f:α->V) (l:List (Int×α)):List (Key×V):=l.map λx=>(vu x.1,f x.2)
def aY (l:List (Int×α)) (k:Int) (a:α):List (Int×α):=l.map λx=>if x.1=k then(k,a)else x
def a8 (l:List (Int×α)) (k:Int):List (Int×α):=l.filter λx=>decide (x.1≠k)
theorem gW (k:Int):look ([]:List (Int×α)) k=none:=rfl
theorem aO (x:Int×α) (l:List (Int×α)) (k:Int):look (x::l) k=if x.1=k then some x.2 else look l k:=by
 unfold look;rw[NU];by_cases h:x.1=k
 .rw[decide_eq_true h,Th h];rfl
 .rw[decide_eq_false h,Tg h]
theorem cI (f:α->V) (k:Int):∀l:List (Int×α),dJ (dk f l) (vu k)=(look l k).map f
 | []=>rfl
 |x::l=>by
  have G:=cI f k l;show dJ ((vu x.1,f x.2)::dk f l) (vu k)=_;rw[aO];by_cases h:x.1=k
  .rw[Th h,eB (by rw[h])];rfl
  .rw[Tg h,b9 (λe=>h (Rj e)),G]
theorem aC {l:List (Int×α)}{k:Int}{a:α}(h:look l k=some a):(k,a)∈l:=by
 unfold look at h;obtain⟨x,G,e⟩:=vr.mp h;have h1:=List.mem_of_find?_eq_some G;have h2:x.1=k:=(by simpa using List.find?_some G);rw[<-h2, <-e];exact h1
theorem bV {l:List (Int×α)}{k:Int}(h:look l k=none):¬ k∈l.map (·.1):=by
 unfold look at h;rw[NM,List.find?_eq_none]at h;rintro m;obtain⟨x,G,e⟩:=rk.mp m;exact h x G (decide_eq_true e)
theorem bL {l:List (Int×α)}{k:Int}{a:α}(G:(l.map (·.1)).Nodup) (h:(k,a)∈l):look l k=some a:=by
 induction l with
 |nil=>cases h
 |cons x l I =>
  rw[aO];obtain⟨L,J⟩:=Ky.mp (show(x.1::l.map (·.1)).Nodup from G);rcases E3.mp h with e|m
  .rw[<-e,Th rfl]
  .have:¬ x.1=k:=λe=>L (e▸rk.mpr ⟨_,m,rfl⟩);rw[Tg this];exact I J m
theorem Em (f:α->V) (l:List (Int×α)) (k:Int):((dk f l).any λG=>decide (G.1=vu k))=(look l k).isSome:=by
 rw[jx,cI];cases look l k<;>rfl
theorem cw {f:α->V}{l:List (Int×α)}{k:Int}{a:α}(h:look l k=none):putK (dk f l) (vu k) (f a)=dk f (l++[(k,a)]):=by
 rw[jP _ (by rw[cI,h];rfl)];unfold dk;rw[Kr];rfl
theorem gS {f:α->V}{l:List (Int×α)}{k:Int}{a b:α}(h:look l k=some b):putK (dk f l) (vu k) (f a)=dk f (aY l k a):=by
 unfold putK;rw[Th (by rw[Em,h];rfl)];unfold dk aY;rw[Lx,Lx];congr 1;funext x;show(if (vu x.1:Key)=vu k then((vu x.1:Key),f a)else(vu x.1,f x.2))=((vu (if x.1=k then(k,a)else x).1:Key),f (if x.1=k then(k,a)else x).2);by_cases e:x.1=k
 .rw[Th (by rw[e]),Th e,e]
 .rw[Tg (λz=>e (Rj z)),Tg e]
theorem eE (f:α->V) (l:List (Int×α)) (k:Int):lO (dk f l) (vu k)=dk f (a8 l k):=by
 unfold lO dk a8;rw[Ru];congr 1;congr 1;funext x;show decide (¬ (vu x.1:Key)=vu k)=decide (¬ x.1=k);by_cases e:x.1=k
 .rw[e];simp
 .simp[e]
theorem bF {l:List (Int×α)}{k:Int}{a:α}(j:Int) (h:look l k=none):look (l++[(k,a)]) j=if j=k then some a else look l j:=by
 induction l with
 |nil =>
  show look [(k,a)] j=_;rw[aO,gW];by_cases e:j=k
  .rw[Th e,Th e.symm]
  .rw[Tg e,Tg (qw e)]
 |cons x l I =>
  rw[aO]at h;by_cases e:x.1=k
  .rw[Th e]at h;cases h
  .rw[Tg e]at h;show look (x::(l++[(k,a)])) j=_;rw[aO,aO,I h];by_cases G:x.1=j
   .rw[Th G,Th G,Tg (λz=>e (G.trans z))]
   .rw[Tg G,Tg G]
theorem bO {l:List (Int×α)}{k:Int}{a b:α}(j:Int) (h:look l k=some b):look (aY l k a) j=if j=k then some a else look l j:=by
 induction l with
 |nil=>cases h
 |cons x l I =>
  rw[aO]at h;show look ((if x.1=k then(k,a)else x)::aY l k a) j=_;by_cases e:x.1=k
  .rw[Th e,aO,aO];by_cases G:j=k
   .rw[Th G.symm,Th G]
   .rw[Tg (qw G),Tg G,Tg (λz=>G (z.symm.trans e))];clear I h
    induction l with
    |nil=>rfl
    |cons y l I =>
     show look ((if y.1=k then(k,a)else y)::aY l k a) j=_;by_cases J:y.1=k
     .rw[Th J,aO,aO,Tg (qw G),Tg (λz=>G (z.symm.trans J)),I]
     .rw[Tg J,aO,aO,I]
  .rw[Tg e]at h;rw[Tg e,aO,aO,I h];by_cases G:x.1=j
   .rw[Th G,Th G,Tg (λz=>e (G.trans z))]
   .rw[Tg G,Tg G]
theorem cf (l:List (Int×α)) (k j:Int):look (a8 l k) j=if j=k then none else look l j:=by
 induction l with
 |nil =>
  show look [] j=if j=k then none else look [] j
  rw[gW];split<;>rfl
 |cons x l I =>
  unfold a8 at *;rw[LW];by_cases e:x.1=k
  .rw[Tg (by simp[e]),I,aO];by_cases G:j=k
   .rw[Th G,Th G]
   .rw[Tg G,Tg G,Tg (λz=>G (z.symm.trans e))]
  .rw[Th (by simp[e]),aO,aO,I];by_cases G:x.1=j
   .rw[Th G,Th G,Tg (λz=>e (G.trans z))]
   .rw[Tg G,Tg G]
theorem fh (l:List (Int×α)) (k:Int) (a:α):(aY l k a).map (·.1)=l.map (·.1):=by
 unfold aY;rw[Lx];congr 1;funext x;show(if x.1=k then(k,a)else x).1=x.1;by_cases e:x.1=k
 .rw[Th e,e]
 .rw[Tg e]
theorem jw (l:List (Int×α)) (k:Int):(a8 l k).map (·.1)=(l.map (·.1)).filter λx=>decide (x≠k):=by
 unfold a8;rw[Ru];rfl
theorem ed (l:List (Int×α)) (k:Int) (a:α):(aY l k a).length=l.length:=by unfold aY;rw[nq]
theorem mem_set {l:List (Int×α)}{k:Int}{a:α}{x:Int×α}(h:x∈aY l k a):x=(k,a)\/(x∈l/\x.1≠k):=by
 unfold aY at h;obtain⟨y,G,e⟩:=rk.mp h;by_cases c:y.1=k
 .rw[Th c]at e;exact .inl e.symm
 .rw[Tg c]at e;subst e;exact .inr ⟨G,c⟩
theorem bX {l:List (Int×α)}{k:Int}{x:Int×α}(h:x∈a8 l k):x∈l/\x.1≠k:=by
 unfold a8 at h;obtain⟨h1,h2⟩:=ME.mp h;exact⟨h1,of_decide_eq_true h2⟩
theorem cu (f:α->V) (l:List (Int×α)):(dk f l).length=l.length:=by unfold dk;rw[nq]
theorem lF {l:List (Int×α)}{k:Int}{a:α}(G:(l.map (·.1)).Nodup) (h:look l k=some a):(a8 l k).length+1=l.length:=by
 induction l with
 |nil=>cases h
 |cons x l I =>
  obtain⟨N,L⟩:=Ky.mp (show(x.1::l.map (·.1)).Nodup from G);rw[aO]at h;unfold a8 at *;rw[LW];by_cases e:x.1=k
  .rw[Tg (by simp[e])];have:l.filter (λx=>decide (x.1≠k))=l:=by
    rw[OE];intro y J;have:y.1≠k:=λz=>N (by rw[e, <-z];exact rk.mpr ⟨_,J,rfl⟩);simpa using this
   rw[this,Kp]
  .rw[Tg e]at h;rw[Th (by simpa using e),Kp,Kp,I L h]
end
abbrev t7:=List (Int×(Addr×List V))
abbrev jk:=List (Int×(Addr×t7))
def fS:Addr×List V->V:=λx=>.ref x.1
def fF:Addr×t7->V:=λx=>.ref x.1
def zQ:V->Bool
 |.int _=>true
 |.str _=>true
 |_=>false
def lY (xs:List V):Bool:=xs.all zQ&&decide (xs.length<1000)
theorem B0 {xs:List V}(h:lY xs=true):xs.all zQ=true:=(N9.mp h).1
theorem Cf {xs:List V}(h:lY xs=true):xs.length<1000:=of_decide_eq_true (N9.mp h).2
def jD (fs:Addr):List (Str×V):=bj "first_step" (.ref fs) []
theorem kJ (fs:Addr):(jD fs).lookup ("first_step" : Str)=some (.ref fs):=by
 unfold jD;rw[aF,Th rfl]
theorem aX (fs:Addr) {m:Str}(h:¬ m = "first_step"):(jD fs).lookup m=none:=by
 unfold jD;rw[aF,Tg h]
 all_goals rfl
structure gI (H:Hp) (k:Int) (sec:t7):Prop where
 ht:∀y∈sec,H y.2.1=some (.tup y.2.2)/\lY y.2.2=true/\y.1/8=k/\0<=y.1/\y.1<64
 ns:(sec.map (·.1)).Nodup
 ne:sec≠[]
structure TabAt (C:Addr) (H:Hp) (p fs:Addr) (tb:jk):Prop where
 ob:∃dx,H p=some (.ins C dx (jD fs))
 hf:H fs=some (.dK (dk fF tb))
 hd:∀x∈tb,H x.2.1=some (.dK (dk fS x.2.2))
 hs:∀x∈tb,gI H x.1 x.2.2
 nk:(tb.map (·.1)).Nodup
 na:∀x∈tb,∀y∈tb,x.2.1=y.2.1->x.1=y.1
 nf:∀x∈tb,x.2.1≠fs
def cU (tb:jk) (q:Int):Option (List V):=(look tb (q/8)).bind λx=>(look x.2 q).map (·.2)
def eF (fs:Addr) (tb:jk):Addr->Prop:=λb=>b=fs\/∃x∈tb,b=x.2.1
theorem gI.keep {H H':Hp}{k:Int}{I:t7}(S:gI H k I) (h:∀b xs,H b=some (.tup xs)->H' b=some (.tup xs)):gI H' k I :=
 ⟨λy G=>⟨h _ _ (S.ht y G).1,(S.ht y G).2⟩,S.ns,S.ne⟩
theorem TabAt.same {C:Addr}{H H':Hp}{p fs:Addr}{tb:jk}(T:TabAt C H p fs tb) (s:bg H H'):TabAt C H' p fs tb:=by
 obtain⟨⟨dx,h1⟩,h2,O,J,L,I,N⟩:=T;exact⟨⟨dx,s _ _ h1⟩,s _ _ h2,λx G=>s _ _ (O x G),λx G=>(J x G).keep λb xs e=>s _ _ e,L,I,N⟩
theorem TabAt.put {C:Addr}{H H':Hp}{p fs d:Addr}{tb:jk}{k:Int}{I sec':t7}(T:TabAt C H p fs tb) (L:look tb k=some (d,I)) (o:Off (· = d) H H') (hd:H' d=some (.dK (dk fS sec'))) (S:gI H' k sec'):TabAt C H' p fs (aY tb k (d,sec')):=by
 obtain⟨⟨dx,h1⟩,h2,Y,h4,h5,h6,R⟩:=T;have N:=aC L;have U:=Y _ N;have O:∀x∈tb,x.1≠k->x.2.1≠d:=λx G hk e=>hk (h6 x G _ N e);have same:dk fF (aY tb k (d,sec'))=dk fF tb:=by
  have e:=gS (f:=fF) (a:=(d,sec')) L;rw[<-e];have e2:=gS (f:=fF) (a:=(d,I)) L;have e3:fF (d,sec')=fF (d,I):=rfl;rw[e3,e2];unfold dk aY;rw[Lx];refine LX λx G=>?_;show((vu (if x.1=k then(k,(d,I))else x).1:Key),fF (if x.1=k then(k,(d,I))else x).2)=(vu x.1,fF x.2);by_cases c:x.1=k
  .rw[Th c,c];have:look tb k=some x.2:=bL h5 (by rw[<-c];exact G);rw[L]at this;rw[<-ro this]
  .rw[Tg c]
 refine⟨⟨dx,o _ _ h1 (cE h1 U (by intro z;cases z))⟩,by rw[same];exact o _ _ h2 (qw (R _ N)),λx G=>?_,λx G=>?_,by rw[fh];exact h5,λx G y J e=>?_,λx G=>?_⟩
 .rcases mem_set G with rfl|⟨G,c⟩
  .exact hd
  .exact o _ _ (Y x G) (O x G c)
 .rcases mem_set G with rfl|⟨G,c⟩
  .exact S
  .exact(h4 x G).keep λb xs e=>o _ _ e (cE e U (by intro z;cases z))
 .rcases mem_set G with rfl|⟨G,c⟩<;>rcases mem_set J with rfl|⟨J,c'⟩
  .rfl
  .exact absurd e.symm (O y J c')
  .exact absurd e (O x G c)
  .exact h6 x G y J e
 .rcases mem_set G with rfl|⟨G,c⟩
  .exact(R _ N:d≠fs)
  .exact R x G
theorem TabAt.add {C:Addr}{H H':Hp}{p fs d:Addr}{tb:jk}{k:Int}{sec':t7}(T:TabAt C H p fs tb) (hl:look tb k=none) (J:H d=none) (o:Off (· = fs) H H') (hf:H' fs=some (.dK (dk fF (tb++[(k,(d,sec'))])))) (hd:H' d=some (.dK (dk fS sec'))) (S:gI H' k sec') :
  TabAt C H' p fs (tb++[(k,(d,sec'))]):=by
 obtain⟨⟨dx,h1⟩,h2,O,Y,h5,R,L⟩:=T;have N:∀x∈tb,x.2.1≠d:=λx G=>au (O x G) J;have U:d≠fs:=λe=>(by rw[e,h2]at J;cases J);refine⟨⟨dx,o _ _ h1 (cE h1 h2 (by intro z;cases z))⟩,hf,λx G=>?_,λx G=>?_,?_,λx G y I e=>?_,λx G=>?_⟩
 .rcases pa.mp G with G|G
  .exact o _ _ (O x G) (L x G)
  .rw[kQ.mp G];exact hd
 .rcases pa.mp G with G|G
  .exact(Y x G).keep λb xs e=>o _ _ e (cE e h2 (by intro z;cases z))
  .rw[kQ.mp G];exact S
 .rw[Kr];exact gy h5 (bV hl)
 .rcases pa.mp G with G|G<;>rcases pa.mp I with I|I
  .exact R x G y I e
  .rw[kQ.mp I]at e;exact absurd e (N x G)
  .rw[kQ.mp G]at e;exact absurd e.symm (N y I)
  .rw[kQ.mp G,kQ.mp I]
 .rcases pa.mp G with G|G
  .exact L x G
  .rw[kQ.mp G];exact U
theorem TabAt.del {C:Addr}{H H':Hp}{p fs d:Addr}{tb:jk}{k:Int}{ab:t7}(T:TabAt C H p fs tb) (U:look tb k=some (d,ab)) (o:Off (λb=>b=d\/b=fs) H H') (hf:H' fs=some (.dK (dk fF (a8 tb k)))):TabAt C H' p fs (a8 tb k):=by
 obtain⟨⟨dx,h1⟩,h2,O,S,Y,L,N⟩:=T;have I:=aC U;have J:=O _ I;refine⟨⟨dx,o _ _ h1 λz=>z.elim (cE h1 J (by intro z;cases z)) (cE h1 h2 (by intro z;cases z))⟩,hf,λx G=>?_,λx G=>?_,?_,λx G y R e=>L x (bX G).1 y (bX R).1 e,λx G=>N x (bX G).1⟩
 .obtain⟨G,c⟩:=bX G;exact o _ _ (O x G) λz=>z.elim (λe=>c (L x G _ I e)) (N x G)
 .obtain⟨G,c⟩:=bX G;exact(S x G).keep λb xs e=>o _ _ e λz=>z.elim (cE e J (by intro z;cases z)) (cE e h2 (by intro z;cases z))
 .rw[jw];exact Y.filter _
theorem BE:∀(n:Nat) (a:Int) (l:List Int),l.Nodup->(∀x∈l,a<=x/\x<a+n)->l.length<=n
 |0,a,l,_,h=>by
  cases l with
  |nil=>exact sS _
  |cons x r=>have:=h x KW;omega
 |n+1,a,l,G,h=>by
  have I:=BE n a (l.filter λx=>decide (x≠a+n)) (G.filter _) λx O=>by
   obtain⟨h1,h2⟩:=ME.mp O;have U:=h x h1;have S:x≠a+n:=of_decide_eq_true h2;omega
  have e:(l.filter λx=>decide (x≠a+n)).length+1>=l.length:=by
   clear I h
   induction l with
   |nil=>simp
   |cons x r R =>
    obtain⟨L,N⟩:=Ky.mp G;rw[LW];by_cases c:x=a+n
    .rw[Tg (by simp[c])];have:r.filter (λx=>decide (x≠a+n))=r:=by
      rw[OE];intro y J;have:y≠a+n:=λe=>L (by rw[c, <-e];exact J);simpa using this
     rw[this];simp
    .rw[Th (by simpa using c)];have:=R N;rw[Kp,Kp];omega
  omega
theorem gI.len {H:Hp}{k:Int}{G:t7}(S:gI H k G):G.length<=64:=by
 have:=BE 64 0 (G.map (·.1)) S.ns λx J=>by
  obtain⟨y,I,rfl⟩:=rk.mp J;have:=S.ht y I;omega
 rwa [nq]at this
theorem TabAt.kb {C:Addr}{H:Hp}{p fs:Addr}{tb:jk}(T:TabAt C H p fs tb):∀x∈tb,0<=x.1/\x.1<8:=λx G=>by
 have S:=T.hs x G;cases e:x.2.2 with
 |nil=>exact absurd e S.ne
 |cons y r =>
  have:=S.ht y (by rw[e];exact KW);omega
theorem TabAt.len {C:Addr}{H:Hp}{p fs:Addr}{tb:jk}(T:TabAt C H p fs tb):tb.length<=8:=by
 have:=BE 8 0 (tb.map (·.1)) T.nk λx I=>by
  obtain⟨y,G,rfl⟩:=rk.mp I;have:=T.kb y G;omega
 rwa [nq]at this
theorem TabAt.wL {C:Addr}{H:Hp}{p fs:Addr}{tb:jk}(T:TabAt C H p fs tb) {q:Int}(h:cU tb q≠none):0<=q/\q<64:=by
 unfold cU at h;cases e:look tb (q/8)with
 |none=>rw[e]at h;exact absurd rfl h
 |some a =>
  rw[e,NC]at h;cases G:look a.2 q with
  |none=>rw[G]at h;exact absurd rfl h
  |some b =>
   have:=(T.hs _ (aC e)).ht _ (aC G);omega
end Tb
namespace L2
open PySem PySem.Spec PyProof.Rows
section
variable {X:Cx}
theorem oO {α G:Type}(f:α->G):∀(l:List α) (i:Nat),(l.map f).eraseIdx i=(l.eraseIdx i).map f
 | [],_=>rfl
 |_::_,0=>rfl
 |a::l,i+1=>by
  show f a::(l.map f).eraseIdx i=f a::(l.eraseIdx i).map f;rw[oO f l i]
inductive wM (x:V) (vs:List V) (H:Hp) (Q:VK):Prop
 |mk (l:Addr) (ns:List Int) (k:Int) (_:x=.ref l) (_:vs=[.int k]) (_:H l=some (.lst (ns.map V.int))) (_:k∈ns) (_:Q .non (upd H l (.lst ((ns.erase k).map V.int)))):wM x vs H Q
theorem oK:En X "list.remove" wM:=by
 intro pins s σ H x vs v us Q I rx rv h;obtain⟨l,ns,k,rfl,rfl,N,J,q⟩:=h;cases rx;obtain⟨u,rfl,O⟩:=rv.one;obtain⟨t,rfl⟩:=O;obtain⟨z,its,n,r,L,e⟩:=I.nK N;have hi:=intsAre_of r;have S:=hi.length;have ab:=L;rw[nq]at L z;have hs:=BY;have G:ns.idxOf k<ns.length:=LA.mpr J;refine Nx Pw ⟨_,e,rfl⟩ PySem.F.entry_list_remove (PySem.F.args_list_remove_2 _ _)
  (MeetsSeq.list_remove l its.toArray n (.int k t) (SV k) (λy U=>eq_isInt k t hi y (by simpa using U)) (ns.idxOf k) (by simpa[S]using G) ?_ ?_ (by rw[qj];omega)) ⟨e,?_⟩
 .show SV k its[ns.idxOf k]=true;rw[Sb k hi _ af G];simpa using OB G
 .intro j R Y;show SV k its[j]=false;rw[Sb k hi j (by simpa using R) af];exact ne_of_lt_idxOf Y _
 .refine⟨.non,_,I.BZ (its':=its.eraseIdx (ns.idxOf k)) N e ?_ ?_ ?_,?_,q⟩
  .show its.toArray.eraseIdxIfInBounds _=(its.eraseIdx _).toArray;rw[NQ]
  .rw[List.erase_eq_eraseIdx_of_idxOf rfl, <-oO];exact r.eraseIdx _
  .rw[nq];have:=List.length_erase_of_mem J;omega
  .trivial
end
def iL (K:Kq) (H:Hp) (a:Addr) (xs:List V):Prop:=H a=some (.tup xs)\/bZ K (λ_=>none) a xs
theorem iL.sq {K:Kq}{H:Hp}{a:Addr}{xs:List V}(h:iL K H a xs):bZ K H a xs:=by
 rcases h with h|h
 .exact bZ.of h
 .rcases h with h|h
  .rcases h with h|⟨o,h⟩
   .cases h
   .cases h
  .exact .inr h
theorem iL.keep {K:Kq}{H H':Hp}{a:Addr}{xs:List V}(h:iL K H a xs) (s:∀o,H a=some o->H' a=some o):iL K H' a xs:=by
 rcases h with h|h
 .exact .inl (s _ h)
 .exact .inr h
theorem iL.off {K:Kq}{H H':Hp}{a:Addr}{xs:List V}(h:iL K H a xs) (s:H a=some (.tup xs)->H' a=some (.tup xs)):iL K H' a xs:=by
 rcases h with h|h
 .exact .inl (s h)
 .exact .inr h
theorem yG {X:Cx}:dt X (.builtin "isinstance") (λxs H Q=>(∃x n t b,xs=[x,.ty n]/\jS X.K H x t/\Nw X.K t (.type n)=some b/\Q (.bl b) H)\/∃a ys,xs=[.ref a,.ty "tuple"]/\bZ X.K H a ys/\Q (.bl true) H):=by
 intro pins s σ H xs us Q I r h;rcases h with h|⟨a,ys,rfl,J,q⟩
 .exact dU pins s σ H xs us Q I r h
 .obtain⟨u,c,rfl,L,G⟩:=vals2 r;obtain rfl:c=Value.type "tuple" := G;cases(show u=Value.ref a from L);obtain⟨its,_,⟨o,h1,h2,_⟩,_⟩:=I.tuple J;exact ND kitx_tuple I.jW ⟨o,h1,h2⟩ (D5 _) (λz=>nomatch z) λtk=>⟨.bl true,H,I.tok _,rfl,q⟩
end L2
namespace Tb
open PySem L2
structure Bd (mg:Str->Option Value):Prop where
 BB:mg "isinstance" = none
 tuple:mg "tuple" = none
 list:mg "list" = none
 dict:mg "dict" = none
 len:mg "len" = none
 sorted:mg "sorted" = none
def Bm:V->Bool
 |.int _=>true
 |.str _=>true
 |.non=>true
 |_=>false
inductive pM (vs:List V) (H:Hp) (Q:VK) (e3:XK):Prop
 |mk (v:_) (_:vs=[v]) (_:Bm v=true) (_:Q v H):pM vs H Q e3
def vJ (K:Kq):Sp:=λvs H Q _=>(∃v,vs=[v]/\Bm v=true/\Q v H)\/∃(a:Addr) (xs:List V),vs=[.ref a]/\iL K H a xs/\lY xs=true/\∀H' l,bg H H'->H l=none->H' l=some (.tup xs)->Q (.ref l) H'
theorem BV:∀{v:V},zQ v=true->Bm v=true
 |.int _,_=>rfl
 |.str _,_=>rfl
section
variable {P:ti}{w:Kl}{K:Kq}{mg:Str->Option Value}{base:Heap}
theorem HX:aD ["value","copied","key"] ["value"] (aw xb):=L2.bD
theorem Ao {f:Addr}{fd:rn}(F:cD K "own_copy" "own_copy" xb f fd) (T:Bd mg):aZ P w K mg base aS 1 f fd ["value"] pM:=by
 refine F.dg HX (λI A outer s H vs Q E J h=>?_);obtain⟨v,rfl,G,k⟩:=h;refine⟨_,(ag (aU (gA (aP dU (by rfl) T.BB bW (aa (pv 0) (aa (eM (v:=.ty "tuple") (by rfl) T.tuple mN rfl) aj)))) (ao dP) aH)
  (ag (aU (gA (aP dU (by rfl) T.BB bW (aa (pv 0) (aa (eM (v:=.ty "list") (by rfl) T.list dv rfl) aj)))) (ao dP) aH)
  (ag (aU (gA (aP dU (by rfl) T.BB bW (aa (pv 0) (aa (eM (v:=.ty "dict") (by rfl) T.dict pO rfl) aj)))) (ag dP
  (ag dP
  (ao dP))) aH)
  (ao (aG (pv 0)))))),?_⟩
 cases v with
 |int i=>exact⟨_,rfl,.int i,"tuple",_,false,rfl,.int i,Bj _,false,rfl,bU ⟨_,rfl,.int i,"list",_,false,rfl,.int i,AG _,false,rfl,bU ⟨_,rfl,.int i,"dict",_,false,rfl,.int i,Ae _,false,rfl,bU ⟨_,rfl,k⟩⟩⟩⟩
 |str i=>exact⟨_,rfl,.str i,"tuple",_,false,rfl,.str i,AM _,false,rfl,bU ⟨_,rfl,.str i,"list",_,false,rfl,.str i,zM _,false,rfl,bU ⟨_,rfl,.str i,"dict",_,false,rfl,.str i,Au _,false,rfl,bU ⟨_,rfl,k⟩⟩⟩⟩
 |non=>exact⟨_,rfl,.non,"tuple",_,false,rfl,.non,zU _,false,rfl,bU ⟨_,rfl,.non,"list",_,false,rfl,.non,zB _,false,rfl,bU ⟨_,rfl,.non,"dict",_,false,rfl,.non,Bq _,false,rfl,bU ⟨_,rfl,k⟩⟩⟩⟩
 |_=>cases G
theorem Cn {f:Addr}{fd:rn}(F:cD K "own_copy" "own_copy" xb f fd) (T:Bd mg) (G0:Df P w K mg base aS 1 "own_copy" pM):aZ P w K mg base aS 2 f fd ["value"] (vJ K):=by
 refine F.ok HX (λvs H Q E h=>?_) (λac A outer s H vs Q E Y h=>?_)
 .rcases h with⟨v,rfl,_⟩|⟨a,xs,rfl,_⟩
  .rfl
  .rfl
 .refine⟨_,(ag (aU (gA (aP yG (by rfl) T.BB bW (aa (pv 0) (aa (eM (v:=.ty "tuple") (by rfl) T.tuple mN rfl) aj)))) (ao (aG (bG nZ (by rfl) T.tuple mN (aa (gD (cl:=[]) (caps:=[]) ⟨rfl,aq,aq,rfl,by kernel_rfl,by intro p L;simp at L,by kernel_rfl,by intro p L;simp at L,aq⟩ rfl (DQ (pv 0)) (λ_ _ _ _=>fj) (λ_ _ _ _=>(pc G0 Y az (aa (pv 0) aj)))) aj)))) aH)
   (ag (aU (gA (aP dU (by rfl) T.BB bW (aa (pv 0) (aa (eM (v:=.ty "list") (by rfl) T.list dv rfl) aj)))) (ao dP) aH)
   (ag (aU (gA (aP dU (by rfl) T.BB bW (aa (pv 0) (aa (eM (v:=.ty "dict") (by rfl) T.dict pO rfl) aj)))) (ag dP
   (ag dP
   (ao dP))) aH)
   (ao (aG (pv 0)))))),?_⟩
  rcases h with⟨v,rfl,hv,k⟩|⟨a,xs,rfl,J,N,k⟩
  .cases v with
   |int i=>exact⟨_,rfl,.inl ⟨.int i,"tuple",_,false,rfl,.int i,Bj _,false,rfl,bU ⟨_,rfl,.int i,"list",_,false,rfl,.int i,AG _,false,rfl,bU ⟨_,rfl,.int i,"dict",_,false,rfl,.int i,Ae _,false,rfl,bU ⟨_,rfl,k⟩⟩⟩⟩⟩
   |str i=>exact⟨_,rfl,.inl ⟨.str i,"tuple",_,false,rfl,.str i,AM _,false,rfl,bU ⟨_,rfl,.str i,"list",_,false,rfl,.str i,zM _,false,rfl,bU ⟨_,rfl,.str i,"dict",_,false,rfl,.str i,Au _,false,rfl,bU ⟨_,rfl,k⟩⟩⟩⟩⟩
   |non=>exact⟨_,rfl,.inl ⟨.non,"tuple",_,false,rfl,.non,zU _,false,rfl,bU ⟨_,rfl,.non,"list",_,false,rfl,.non,zB _,false,rfl,bU ⟨_,rfl,.non,"dict",_,false,rfl,.non,Bq _,false,rfl,bU ⟨_,rfl,k⟩⟩⟩⟩⟩
   |_=>cases hv
  .have hs:=BY;have hx:=B0 N;have hn:=Cf N;refine⟨_,rfl,.inr ⟨a,xs,rfl,J.sq,true,rfl,eI ?_⟩⟩;refine⟨_,rfl,a,rfl,⟨xs,J.sq⟩,?_⟩;refine ym (xs:=xs) (λi ys H'=>H'=H/\ys=xs.take i) ⟨rfl,rfl⟩ (λi ys H' _ p=>by rw[p.1];exact J.sq) (λi x ys H' hi p=>?_) (λys H' p l R=>?_)
   .obtain⟨rfl,rfl⟩:=p;obtain⟨O,S⟩:=j1.mp hi;refine⟨_,rfl,x,rfl,BV (KH.mp hx x (S▸LK O)),?_,rfl,?_⟩
    .rw[Kv];omega
    .rw[Sd,hi];rfl
   .obtain⟨rfl,rfl⟩:=p;rw[LC];refine⟨l,xs,rfl,.inl ⟨bq.of ae,λI G=>?_⟩⟩;have ab:I≠l:=λz=>(by rw[z,ae]at G;cases G);have U:H' I=none:=(by rw[ah ab]at G;exact G);exact k _ I ((ar R).trans (ar G)) U ae
end
structure Txt (K:Kq) (mg:Str->Option Value) (C:Addr):Prop where
 cl:rG K C
 nF:cQ K C "first_step"
 sp:∃u,mg "STEP_PAGES" = some u/\RelV (.int 8) u
def FT (H:Hp) (v:V):Option (List V)->Prop
 |none=>v=.non
 |some xs=>∃t,v=.ref t/\H t=some (.tup xs)
inductive gU (C:Addr) (vs:List V) (H:Hp) (Q:VK) (e3:XK):Prop
 |mk (p dx:Addr) (_:vs=[.ref p]) (_:H p=some (.ins C dx [])) (_:∀(fs:Addr) (H':Hp),H fs=none->TabAt C H' p fs []->Off (· = p) H H'->Q .non H'):gU C vs H Q e3
inductive lS (C:Addr) (vs:List V) (H:Hp) (Q:VK) (e3:XK):Prop
 |mk (p fs:Addr) (tb:jk) (q:Int) (_:vs=[.ref p,.int q]) (_:TabAt C H p fs tb) (_:∀H' v,bg H H'->FT H' v (cU tb q)->Q v H'):lS C vs H Q e3
inductive rY (K:Kq) (C:Addr) (vs:List V) (H:Hp) (Q:VK) (e3:XK):Prop
 |mk (p fs t:Addr) (tb:jk) (q:Int) (xs:List V) (_:vs=[.ref p,.int q,.ref t]) (_:TabAt C H p fs tb) (_:0<=q) (_:q<64) (_:iL K H t xs) (_:lY xs=true) (_:∀H' tb',TabAt C H' p fs tb'->(∀j,cU tb' j=if j=q then some xs else cU tb j)->Off (eF fs tb) H H'->(∀b,eF fs tb' b->eF fs tb b\/H b=none)->Q .non H'):rY K C vs H Q e3
inductive rl (C:Addr) (vs:List V) (H:Hp) (Q:VK) (e3:XK):Prop
 |mk (p fs:Addr) (tb:jk) (q:Int) (_:vs=[.ref p,.int q]) (_:TabAt C H p fs tb) (_:∀H' tb',TabAt C H' p fs tb'->(∀j,cU tb' j=if j=q then none else cU tb j)->(tb'.length=tb.length\/tb'.length+1=tb.length)->Off (eF fs tb) H H'->(∀b,eF fs tb' b->eF fs tb b\/H b=none)->Q .non H'):rl C vs H Q e3
def fG (tb:jk):List Int:=tb.flatMap λx=>x.2.2.map (·.1)
inductive eL (C:Addr) (vs:List V) (H:Hp) (Q:VK) (e3:XK):Prop
 |mk (p fs:Addr) (tb:jk) (_:vs=[.ref p]) (_:TabAt C H p fs tb) (_:∀H' l (ns:List Int),bg H H'->H l=none->H' l=some (.lst (ns.map V.int))->ns.Perm (fG tb)->ns.Pairwise (· <= ·)->Q (.ref l) H'):eL C vs H Q e3
theorem si {C:Addr}{H:Hp}{p fs:Addr}{tb:jk}(T:TabAt C H p fs tb) (q:Int):q∈fG tb↔cU tb q≠none:=by
 unfold fG;rw[NW];constructor
 .rintro⟨x,J,L⟩;obtain⟨y,G,rfl⟩:=rk.mp L;have S:=T.hs x J;unfold cU;rw[(S.ht y G).2.2.1,bL T.nk J,NC,bL S.ns G];simp
 .intro h;unfold cU at h;cases e:look tb (q/8)with
  |none=>rw[e]at h;exact absurd rfl h
  |some a =>
   rw[e,NC]at h;cases I:look a.2 q with
   |none=>rw[I]at h;exact absurd rfl h
   |some b=>exact⟨_,aC e,rk.mpr ⟨_,aC I,rfl⟩⟩
theorem jI {C:Addr}{H:Hp}{p fs:Addr}{tb:jk}(T:TabAt C H p fs tb):(fG tb).Nodup:=by
 have hs:=T.hs;have N:=T.nk;clear T
 induction tb with
 |nil=>exact Ms
 |cons x r O =>
  obtain⟨S,Y⟩:=Ky.mp (show(x.1::r.map (·.1)).Nodup from N);show(x.2.2.map (·.1)++fG r).Nodup;rw[NN];refine⟨(hs x KW).ns,O (λy G=>hs y (KD _ G)) Y,λa U b I e=>S ?_⟩;obtain⟨y,G,rfl⟩:=rk.mp U;obtain⟨z,L,I⟩:=NW.mp I;obtain⟨J,R,rfl⟩:=rk.mp I;have a1:=((hs x KW).ht y G).2.2.1;have a2:=((hs z (KD _ L)).ht J R).2.2.1;have e':y.1=J.1:=e;rw[<-a1,e',a2];exact rk.mpr ⟨z,L,rfl⟩
theorem tD {C:Addr}{H:Hp}{p fs:Addr}{tb:jk}(T:TabAt C H p fs tb) (i:Nat):(fG (tb.take i)).length<=64:=by
 have h1:(fG tb).length<=64:=BE 64 0 (fG tb) (jI T) λx G=>by
  have:=T.wL ((si T x).mp G);omega
 have h2:(fG (tb.take i)).length<=(fG tb).length:=by
  conv=>rhs;rw[<-LQ i tb]
  unfold fG;rw[Of,E2];omega
 omega
theorem sY {tb:jk}{q:Int}{d:Addr}{G:t7}(h:look tb (q/8)=some (d,G)):cU tb q=(look G q).map (·.2):=by
 unfold cU;rw[h,NC]
theorem tZ {tb:jk}{q:Int}(h:look tb (q/8)=none):cU tb q=none:=by
 unfold cU;rw[h];rfl
theorem pj {tb:jk}{k q:Int}{d:Addr}{I sec':t7}{o:Option (Addr×List V)}(G:look tb k=some (d,I)) (J:q/8=k) (h:∀j,look sec' j=if j=q then o else look I j) (j:Int) :
  cU (aY tb k (d,sec')) j=if j=q then o.map (·.2)else cU tb j:=by
 unfold cU;rw[bO (j/8) G];by_cases c:j/8=k
 .rw[Th c,NC,h j,c,G,NC];by_cases e:j=q
  .rw[Th e,Th e]
  .rw[Tg e,Tg e]
 .rw[Tg c,Tg (λe=>c (by rw[e];exact J))]
theorem yh {tb:jk}{k q:Int}{d:Addr}{sec':t7}{o:Option (Addr×List V)}(G:look tb k=none) (I:q/8=k) (h:∀j,look sec' j=if j=q then o else none) (j:Int) :
  cU (tb++[(k,(d,sec'))]) j=if j=q then o.map (·.2)else cU tb j:=by
 unfold cU;rw[bF (j/8) G];by_cases c:j/8=k
 .rw[Th c,NC,h j,c,G];by_cases e:j=q
  .rw[Th e,Th e]
  .rw[Tg e,Tg e];rfl
 .rw[Tg c,Tg (λe=>c (by rw[e];exact I))]
theorem xU {tb:jk}{k q:Int}{d:Addr}{G:t7}(J:look tb k=some (d,G)) (I:q/8=k) (h:∀j,j≠q->look G j=none) (j:Int) :
  cU (a8 tb k) j=if j=q then none else cU tb j:=by
 unfold cU;rw[cf];by_cases c:j/8=k
 .rw[Th c,c,J];by_cases e:j=q
  .rw[Th e];rfl
  .rw[Tg e,NC,h j e];rfl
 .rw[Tg c,Tg (λe=>c (by rw[e];exact I))]
theorem C0 {H:Hp}{k q:Int}{I:t7}{l:Addr}{xs:List V}(S:gI H k I) (N:H l=some (.tup xs)) (O:lY xs=true) (J:q/8=k) (L:0<=q) (h1:q<64) :
  ∃sec',putK (dk fS I) (vu q) (.ref l)=dk fS sec'/\(∀j,look sec' j=if j=q then some (l,xs)else look I j)/\gI H k sec':=by
 cases e:look I q with
 |none =>
  refine⟨I++[(q,(l,xs))],cw (f:=fS) (a:=(l,xs)) e,λj=>bF j e,λy G=>?_,?_,by simp⟩
  .rcases pa.mp G with G|G
   .exact S.ht y G
   .rw[kQ.mp G];exact⟨N,O,J,L,h1⟩
  .rw[Kr];exact gy S.ns (bV e)
 |some b =>
  refine⟨aY I q (l,xs),gS (f:=fS) (a:=(l,xs)) e,λj=>bO j e,λy G=>?_,?_,?_⟩
  .rcases mem_set G with rfl|⟨G,_⟩
   .exact⟨N,O,J,L,h1⟩
   .exact S.ht y G
  .rw[fh];exact S.ns
  .intro z;have:=ed I q (l,xs);rw[z]at this;exact S.ne (K8.mp this.symm)
theorem ir {B:Addr->Prop}{H H' G:Hp}(s:bg H H') (o:Off B H' G):Off B H G:=λb u e I=>o b u (s b u e) I
theorem qr {B:Addr->Prop}{H:Hp}{a:Addr}{X:HO}(h:B a):Off B H (upd H a X):=λb u e G=>by rw[ah (λz=>G (by rw[z];exact h))];exact e
theorem Off.mono {B G:Addr->Prop}{H H':Hp}(o:Off B H H') (h:∀b,B b->G b):Off G H H':=λb u e I=>o b u e λz=>I (h b z)
theorem DS {C:Addr}{H:Hp}{p fs:Addr}{tb:jk}(T:TabAt C H p fs tb):(dk fF tb).length<sizeLine:=by
 have h:=T.len;have hs:=BY;rw[cu];omega
theorem Ex {H:Hp}{k:Int}{G:t7}(S:gI H k G):(dk fS G).length<sizeLine:=by
 have h:=S.len;have hs:=BY;rw[cu];omega
theorem xB {fs d:Addr}{tb:jk}{k:Int}{J sec':t7}(I:(k,(d,J))∈tb) {b:Addr}(h:eF fs (aY tb k (d,sec')) b):eF fs tb b:=by
 rcases h with h|⟨x,G,h⟩
 .exact .inl h
 .rcases mem_set G with rfl|⟨G,_⟩
  .exact .inr ⟨_,I,h⟩
  .exact .inr ⟨x,G,h⟩
theorem BS {fs:Addr}{tb:jk}{k:Int}{b:Addr}(h:eF fs (a8 tb k) b):eF fs tb b:=by
 rcases h with h|⟨x,G,h⟩
 .exact .inl h
 .exact .inr ⟨x,(bX G).1,h⟩
theorem jY (tb:jk) (k:Int):dJ (dk fF tb) (vu k)=(look tb k).map fF:=cI fF k tb
theorem uB (G:t7) (k:Int):dJ (dk fS G) (vu k)=(look G k).map fS:=cI fS k G
section
variable {P:ti}{w:Kl}{K:Kq}{mg:Str->Option Value}{base:Heap}
theorem IS:aD ["self"] ["self"] (aw mQ):=L2.bD
theorem qB {f C:Addr}{fd:rn}(F:cD K "__init__" "Table.__init__" mQ f fd) (T:Txt K mg C):aZ P w K mg base aS 1 f fd ["self"] (gU C):=by
 refine F.dg IS (λN A outer s H vs Q E O h=>?_);obtain⟨p,dx,rfl,J,k⟩:=h;refine⟨_,(ao (fb (pv 0) cY rfl)),?_⟩;intro fs I;have np:p≠fs:=au J I;refine⟨_,rfl,p,C,dx,[],rfl,by rw[ah np];exact J,T.cl,T.nF,av,?_⟩;refine k fs _ I ⟨⟨dx,by rw[ae];rfl⟩,by rw[ah (qw np),ae];rfl,λx G=>(Km G).elim,λx G=>(Km G).elim,.nil,λx G=>(Km G).elim,λx G=>(Km G).elim⟩ λb u e L=>?_;rw[ah L,ah (au e I)];exact e
theorem JO:aD ["self","page","second"] ["self","page"] (aw Ek):=L2.bD
theorem DC {f C:Addr}{fd:rn}(F:cD K "get" "Table.get" Ek f fd) (T:Txt K mg C) (O:Df P w K mg base aS 2 "own_copy" (vJ K)):aZ P w K mg base aS 3 f fd ["self","page"] (lS C):=by
 obtain⟨u8,Y,r8⟩:=T.sp;refine F.dg JO (λab A outer s H vs Q E L h=>?_);obtain⟨p,fs,tb,q,rfl,TT,k⟩:=h;obtain⟨dx,h1⟩:=TT.ob;refine⟨_,(ag (dA 2 JO.nd (r6 (bf L) (aM (pv 0) rfl) (ay bB (pv 1) (cj (by rfl) Y r8)) cY ⟨rfl,rfl,rfl,rfl⟩))
  (ao (aG (pc O L az (aa (zX (bf L) (pv 2) (pv 1) ⟨rfl,rfl,rfl,rfl⟩) aj))))),?_⟩
 refine⟨_,rfl,p,C,dx,_,.ref fs,rfl,h1,T.cl,T.nF,kJ fs,fs,rfl,.inl ⟨_,.inl TT.hf⟩,_,rfl,_,_,rfl,rfl,⟨av,av⟩,λe S=>?_⟩;have G:=ar (X:=.dK []) S;have I:=TT.same G;refine⟨_,dC.k (k:=.inl (q/8)) I.hf,?_⟩;rw[jY];cases c:look tb (q/8)with
 |none =>
  refine⟨_,rfl,e,rfl,.inl ⟨_,.inl ae⟩,_,rfl,_,dC.k (k:=.inl q) ae,.inl ⟨.non,rfl,rfl,k _ _ G ?_⟩⟩;rw[tZ c];rfl
 |some a =>
  obtain⟨d,U⟩:=a;have N:=aC c;have hd:=I.hd _ N;refine⟨_,rfl,d,rfl,.inl ⟨_,.inl hd⟩,_,rfl,_,dC.k (k:=.inl q) hd,?_⟩;rw[uB];have le:=sY c;cases J:look U q with
  |none =>
   refine .inl ⟨.non,rfl,rfl,k _ _ G ?_⟩;rw[le,J];rfl
  |some b =>
   obtain⟨t,xs⟩:=b;have hs:=(I.hs _ N).ht _ (aC J);refine .inr ⟨t,xs,rfl,.inl hs.1,hs.2.1,λH' l s' ac R=>k _ _ (G.trans s') ?_⟩;rw[le,J];exact⟨l,rfl,R⟩
theorem HN:aD ["self","page","entry","second"] ["self","page","entry"] (aw EV):=L2.bD
theorem DH {f C:Addr}{fd:rn}(F:cD K "lay" "Table.lay" EV f fd) (T:Txt K mg C) (GC:Df P w K mg base aS 2 "own_copy" (vJ K)):aZ P w K mg base aS 3 f fd ["self","page","entry"] (rY K C):=by
 obtain⟨u8,m8,r8⟩:=T.sp;refine F.dg HN (λam A outer s H vs Q E hr h=>?_);obtain⟨p,fs,t,tb,q,xs,rfl,TT,q0,q1,ht,G,k⟩:=h;obtain⟨dx,h1⟩:=TT.ob;refine⟨_,(ag (dA 3 HN.nd (AZ (aM (pv 0) rfl) (ay bB (pv 1) (cj (by rfl) m8 r8)) cY ⟨rfl,rfl,rfl,rfl⟩))
  (ao (jn (bf hr) (pv 3) (pv 1) (pc GC hr az (aa (pv 2) aj)) rfl))),?_⟩
 refine⟨_,rfl,p,C,dx,_,.ref fs,rfl,h1,T.cl,T.nF,kJ fs,fs,rfl,.inl ⟨_,.inl TT.hf⟩,_,rfl,_,_,rfl,rfl,⟨av,av⟩,λe O=>?_⟩;have se:=ar (X:=.dK []) O;have T1:=TT.same se;refine⟨_,.inl (q/8),T1.hf,rfl,DS T1,λv I=>?_,λI=>?_⟩
 .rw[jY]at I;cases c:look tb (q/8)with
  |none=>rw[c]at I;cases I
  |some a =>
   obtain⟨d,ap⟩:=a;rw[c]at I;obtain rfl:V.ref d=v:=ro I;have R:=aC c;refine⟨_,rfl,.inr ⟨t,xs,rfl,ht.keep λo e=>se _ _ e,G,λH2 l N ac S=>?_⟩⟩;have U:=T1.same N;obtain⟨sec',e1,e2,S'⟩:=C0 (U.hs _ R) S G rfl q0 q1;have hd:=U.hd _ R;refine⟨_,rfl,_,rfl,d,_,rfl,fX.k (k:=.inl q) hd (Ex (U.hs _ R)),?_⟩;rw[e1];have L:Off (· = d) H2 (upd H2 d (.dK (dk fS sec'))):=qr rfl;refine k _ _ (U.put c L ae (S'.keep λb ys J=>L _ _ J (cE J hd (by intro z;cases z)))) (λj=>pj c rfl e2 j) (ir (se.trans N) (L.mono λb z=>.inr ⟨_,R,z⟩)) λb z=>.inl (xB R z)
 .rw[jY]at I;have c:look tb (q/8)=none:=by
   cases c:look tb (q/8)with
   |none=>rfl
   |some a=>rw[c]at I;cases I
  have ep:putK (dk fF tb) (vu (q/8)) (.ref e)=dk fF (tb++[(q/8,(e,[]))]):=cw (f:=fF) (a:=(e,[])) c;rw[ep];have ef:e≠fs:=λz=>au TT.hf O z.symm;have hE:upd (upd H e (.dK [])) fs (.dK (dk fF (tb++[(q/8,(e,[]))]))) e=some (.dK []):=(by rw[ah ef,ae]);have o1:Off (· = fs) H (upd (upd H e (.dK [])) fs (.dK (dk fF (tb++[(q/8,(e,[]))])))):=λb u J Y=>(by rw[ah Y,ah (au J O)];exact J);refine⟨_,rfl,.inr ⟨t,xs,rfl,ht.off λe=>o1 _ _ e (cE e TT.hf (by intro z;cases z)),G,λH2 l N ac S=>?_⟩⟩;have ab:=N _ _ hE;refine⟨_,rfl,_,rfl,e,_,rfl,fX.k (k:=.inl q) ab av,?_⟩;have e1:putK ([]:List (Key×V)) (vu q) (.ref l)=dk fS [(q,(l,xs))]:=rfl;rw[e1];have L:Off (· = e) H2 (upd H2 e (.dK (dk fS [(q,(l,xs))]))):=qr rfl;have oA:Off (· = fs) H (upd H2 e (.dK (dk fS [(q,(l,xs))]))):=λb u J Y=>L b u (N _ _ (o1 b u J Y)) (au J O);have ai:(upd H2 e (.dK (dk fS [(q,(l,xs))]))) l=some (.tup xs):=L _ _ S (cE S ab (by intro z;cases z));refine k _ _ (TT.add (sec':=[(q,(l,xs))]) c O oA ?_ ae ⟨λy hy=>?_,?_,by simp⟩) (λj=>yh (o:=some (l,xs)) c rfl (λj=>?_) j) (oA.mono λb z=>.inl z) λb z=>?_
  rotate_left 4
  .rcases z with z|⟨x,G,z⟩
   .exact .inl (.inl z)
   .rcases pa.mp G with G|G
    .exact .inl (.inr ⟨x,G,z⟩)
    .rw[kQ.mp G]at z;rw[z];exact .inr O
  .refine L _ _ (N _ _ ae) (qw ef) |>.trans ?_;unfold dk;rw[Kr,Kr];rfl
  .rw[kQ.mp hy];exact⟨ai,G,rfl,q0,q1⟩
  .simp
  .rw[aO,gW];by_cases z:j=q
   .rw[Th z,Th z.symm]
   .rw[Tg z,Tg (qw z)]
theorem JB:aD ["self","page","k","second"] ["self","page"] (aw uv):=L2.bD
theorem Bk {f C:Addr}{fd:rn}(F:cD K "clear" "Table.clear" uv f fd) (T:Txt K mg C) (TP:Bd mg):aZ P w K mg base aS 1 f fd ["self","page"] (rl C):=by
 obtain⟨u8,m8,r8⟩:=T.sp;have R:=T;refine F.dg JB (λam A outer s H vs Q E hr h=>?_);obtain⟨p,fs,tb,q,rfl,TT,k⟩:=h;obtain⟨dx,h1⟩:=TT.ob;replace T:=TP;refine⟨_,(ag (dA 2 JB.nd (ay bB (pv 1) (cj (by rfl) m8 r8)))
  (ag (dA 3 JB.nd (r6 (bf hr) (aM (pv 0) rfl) (pv 2) cY ⟨rfl,rfl,rfl,rfl⟩))
  (ag (aU (jd (fY (bf hr) (pv 1) (pv 3))) (ao pV) aH)
  (ag (aL (eu (pv 3) (pv 1) ⟨rfl,rfl,rfl,rfl⟩))
  (ao (aU (aE bR (aP kG (by rfl) T.len boot_len (aa (pv 3) aj)) ak (aI _)) (ao (aL (eu (aM (pv 0) rfl) (pv 2) ⟨rfl,rfl,rfl,rfl⟩))) aH)))))),?_⟩
 refine⟨_,rfl,_,_,rfl,rfl,⟨av,av⟩,?_⟩;refine⟨_,rfl,p,C,dx,_,.ref fs,rfl,h1,R.cl,R.nF,kJ fs,fs,rfl,.inl ⟨_,.inl TT.hf⟩,_,rfl,λe he=>?_⟩;have J:=ar (X:=.dK []) he;have I:=TT.same J;refine⟨_,dC.k (k:=.inl (q/8)) I.hf,?_⟩;rw[jY];cases c:look tb (q/8)with
 |none =>
  refine⟨_,rfl,_,rfl,e,_,rfl,dC.k (k:=.inl q) ae,true,rfl,eI ?_⟩;refine k _ _ I (λj=>?_) (.inl rfl) (ir J λb u N _=>N) λb z=>.inl z;by_cases z:j=q
  .rw[Th z,z];exact tZ c
  .rw[Tg z]
 |some a =>
  obtain⟨d,G⟩:=a;have L:=aC c;have hd:=I.hd _ L;have S:=I.hs _ L;refine⟨_,rfl,_,rfl,d,_,rfl,dC.k (k:=.inl q) hd,?_⟩;rw[uB];cases c2:look G q with
  |none =>
   refine⟨true,rfl,eI ?_⟩;refine k _ _ I (λj=>?_) (.inl rfl) (ir J λb u N _=>N) λb z=>.inl z;by_cases z:j=q
   .rw[Th z,z,sY c,c2];rfl
   .rw[Tg z]
  |some b =>
   refine⟨false,rfl,bU ?_⟩;refine⟨_,rfl,d,rfl,.inl ⟨_,.inl hd⟩,_,rfl,_,.inl q,fS b,hd,rfl,by rw[uB,c2];rfl,?_⟩;rw[eE];refine⟨_,rfl,d,_,rfl,ae,rfl,?_⟩;have O:Off (· = d) (upd H e (.dK [])) (upd (upd H e (.dK [])) d (.dK (dk fS (a8 G q)))):=qr rfl;by_cases z:a8 G q=[]
   .have Y:decide (V.int ((dk fS (a8 G q)).length:Nat)=V.int 0)=true:=(by rw[z];rfl);rw[Y];refine⟨true,rfl,eI ?_⟩;have ac:d≠fs:=TT.nf _ L;have ab:(upd (upd H e (.dK [])) d (.dK (dk fS (a8 G q)))) fs=some (.dK (dk fF tb)):=O _ _ I.hf (qw ac);have ai:(upd (upd H e (.dK [])) d (.dK (dk fS (a8 G q)))) p=some (.ins C dx (jD fs)):=O _ _ (J _ _ h1) (cE (J _ _ h1) hd (by intro z;cases z));refine⟨_,rfl,p,C,dx,_,.ref fs,rfl,ai,R.cl,R.nF,kJ fs,fs,rfl,.inl ⟨_,.inl ab⟩,_,rfl,_,.inl (q/8),fF (d,G),ab,rfl,by rw[jY,c];rfl,?_⟩;rw[eE];have o3:Off (λb=>b=d\/b=fs) (upd H e (.dK [])) (upd (upd (upd H e (.dK [])) d (.dK (dk fS (a8 G q)))) fs (.dK (dk fF (a8 tb (q/8))))):=λb u N hb=>by
     rw[ah λz=>hb (.inr z),ah λz=>hb (.inl z)];exact N
    refine k _ _ (I.del c o3 ae) (λj=>xU c rfl (λj hj=>?_) j) (.inr ?_) (ir J (o3.mono λb z=>z.elim (λz=>.inr ⟨_,L,z⟩) .inl)) λb z=>.inl (BS z)
    .have:=cf G q j;rw[z,gW,Tg hj]at this;exact this.symm
    .exact lF TT.nk c
   .have Y:decide (V.int ((dk fS (a8 G q)).length:Nat)=V.int 0)=false:=decide_eq_false λy=>by
     injection y with y;rw[cu]at y;exact z (K8.mp af)
    rw[Y];refine⟨false,rfl,bU ?_⟩;have S2:gI (upd (upd H e (.dK [])) d (.dK (dk fS (a8 G q)))) (q/8) (a8 G q):=⟨λy hy=>?_,?_,z⟩
    .refine k _ _ (I.put c O ae S2) (λj=>pj c rfl (λj=>cf G q j) j) (.inl (ed _ _ _)) (ir J (O.mono λb z=>.inr ⟨_,L,z⟩)) λb z=>.inl (xB L z)
    .have U:=S.ht y (bX hy).1;exact⟨O _ _ U.1 (cE U.1 hd (by intro z;cases z)),U.2⟩
    .rw[jw];exact S.ns.filter _
theorem FQ:aD ["self","found","k"] ["self"] (aw vq):=L2.bD
theorem Bu {f C:Addr}{fd:rn}(F:cD K "pages" "Table.pages" vq f fd) (N:Txt K mg C) (T:Bd mg):aZ P w K mg base aS 1 f fd ["self"] (eL C):=by
 refine F.dg FQ (λap A outer s H vs Q E hr h=>?_);obtain⟨p,fs,tb,rfl,TT,k⟩:=h;obtain⟨dx,h1⟩:=TT.ob;have I:=TT.hf;have hs:=BY;refine⟨_,(ag (dA 1 FQ.nd (bN aj))
  (ag (xD (cL Kt rfl (wW (aM (pv 0) rfl)) (gG 2 FQ.nd) (ao (aL (ig Lq Mr Px (uD rfl) (pv 1) (aa (bt (bf hr) (aM (pv 0) rfl) (pv 2) cq) aj))))))
  (ao (aG (aP qU (by rfl) T.sorted gc (aa (pv 1) aj)))))),?_⟩
 have U:∀o u',H fs≠some (.frz o u'):=λo u' z=>(by rw[I]at z;cases z);refine⟨av,λl G=>?_⟩;have sl:=ar (X:=.lst []) G;have O:l≠fs:=λz=>au I G z.symm;have ac:p≠l:=au h1 G;have am:p≠fs:=cE h1 I (by intro z;cases z);refine⟨_,rfl,p,C,dx,_,.ref fs,rfl,sl _ _ h1,N.cl,N.nF,kJ fs,fs,_,rfl,sl _ _ I,U,λo=>?_⟩;refine Bf (kvs:=dk fF tb) (λi σ H'=>H'=upd (upd H l (.lst ((fG (tb.take i)).map V.int))) fs (.frz o (.dK (dk fF tb)))/\∃v,σ=[some (.ref p),some (.ref l),v]) ⟨rfl,_,rfl⟩ (λi σ H' _ h=>by rw[h.1,ae]) (λi k v σ H' hi h=>?_) (λσ H' h=>?_)
 .obtain⟨rfl,v',rfl⟩:=h;unfold dk at hi;rw[wh]at hi;cases e:tb[i]? with
  |none=>rw[e]at hi;cases hi
  |some x =>
   rw[e]at hi;obtain⟨rfl,rfl⟩:=OX (ro hi);have L:x∈tb:=DD e;have hd:=TT.hd x L;have dl:x.2.1≠l:=au hd G;have df:x.2.1≠fs:=TT.nf x L;have as:i<tb.length:=(j1.mp e).1;have BE:=tD TT i;have bx:=(TT.hs x L).len;have S:(upd (upd H l (.lst ((fG (tb.take i)).map V.int))) fs (.frz o (.dK (dk fF tb)))) l=some (.lst ((fG (tb.take i)).map V.int)):=(by rw[ah O,ae]);refine⟨_,rfl,.inl ⟨rfl,_,bq.of S⟩,_,rfl,p,C,dx,_,.ref fs,rfl,by rw[ah am,ah ac];exact h1,N.cl,N.nF,kJ fs,_,rfl,fs,.ref x.2.1,rfl,.inl ⟨dk fF tb,.inl x.1,.inr ⟨o,ae⟩,rfl,?_⟩,l,x.2.1,_,dk fS x.2.2,rfl,rfl,S,by rw[ah df,ah dl];exact hd,?_,?_⟩
   .rw[jY,bL TT.nk L];rfl
   .rw[nq,cu];omega
   .refine⟨?_,_,rfl⟩;rw[Sd,e];funext b;by_cases z:b=l
    .rw[z,ae,ah O,ae];have ek:(dk fS x.2.2).map (λkv=>kV kv.1)=(x.2.2.map (·.1)).map V.int:=by
      unfold dk;rw[Lx,Lx];rfl
     rw[ek, <-Kr];unfold fG;rw[Of];simp
    .rw[ah z];by_cases R:b=fs
     .rw[R,ae,ae]
     .rw[ah R,ah R,ah z,ah z]
 .obtain⟨rfl,v',rfl⟩:=h;refine⟨fs,o,_,ae,U,?_⟩;rw[cu,LC];have e0:upd (upd (upd H l (.lst ((fG tb).map V.int))) fs (.frz o (.dK (dk fF tb)))) fs (.dK (dk fF tb))=upd H l (.lst ((fG tb).map V.int)):=by
   funext b;by_cases z:b=fs
   .rw[z,ae,ah (qw O)];exact I.symm
   .rw[ah z,ah z]
  rw[e0];have BE:=tD TT tb.length;rw[LC]at BE;have ab:=ar (X:=.lst ((fG tb).map V.int)) G;refine⟨_,rfl,l,fG tb,rfl,bq.of ae,jI TT,af,λY ns' J hp hs=>?_⟩;have ai:Y≠l:=λz=>(by rw[z,ae]at J;cases J);exact k _ Y ns' (ab.trans (ar J)) (by rw[ah ai]at J;exact J) ae hp hs
end
end Tb
namespace Rm
open PySem L2
def top (i:Nat):KO:=PySem.Challenge.pw_ownroom_k17_all_free_at_the_end.main.body.getD i (.Pass ⟨0,0,0,0⟩)
abbrev jf:KO:=top 20
abbrev km:KO:=top 21
abbrev uY:KO:=top 22
abbrev qv:KO:=top 23
abbrev lV:KO:=top 24
abbrev pU:KO:=top 25
abbrev zr:KO:=top 26
theorem ar {H:Hp}{l:Addr}{X:HO}(h:H l=none):bg H (upd H l X):=λb o e=>by rw[ah (au e h)];exact e
theorem CP {H H':Hp}{l:Addr}{X:HO}(s:bg H H') (h:H l=none):bg H (upd H' l X):=λb o e=>by rw[ah (au e h)];exact s b o e
structure zu (mg:Str->Option Value):Prop where
 wL:∃u,mg "ROOM_PAGES" = some u/\RelV (.int 64) u
 cells:∃u,mg "PAGE_CELLS" = some u/\RelV (.int 8) u
 list:mg "list" = none
 range:mg "range" = none
 len:mg "len" = none
def cg (p m:Int):Prop:=m<1\/p<0\/64<p+m
def aK (p m:Int):List Int:=(Kx m.toNat).map λk:Nat=>p+k
inductive eG (vs:List V) (H:Hp) (Q:VK) (e3:XK):Prop
 |mk (p m:Int) (_:vs=[.int p,.int m]) (_:¬ cg p m) (_:∀(H':Hp) (l:Addr),bg H H'->H l=none->H' l=some (.lst ((aK p m).map V.int))->Q (.ref l) H'):eG vs H Q e3
theorem mY (q:Int):∀G:List Int,EF (.int q) (G.map V.int)=decide (q∈G)
 | []=>rfl
 |m::G=>by
  have I:=mY q G;unfold EF at I ⊢;rw[LU,Qf,I];by_cases e:q=m
  .rw[e];simp[jV]
  .have J:m≠q:=qw e;simp[jV,e,J]
inductive gu (vs:List V) (H:Hp) (Q:VK) (e3:XK):Prop
 |mk (a b:Addr) (ms ps:List Int) (_:vs=[.ref a,.ref b]) (_:H a=some (.lst (ms.map V.int))) (_:H b=some (.lst (ps.map V.int))) (_:(∀q∈ps,q∈ms)) (_:Q .non H):gu vs H Q e3
section
variable {P:ti}{w:Kl}{K:Kq}{mg:Str->Option Value}{base:Heap}
theorem IP:aD ["page","many"] ["page","many"] (aw jf):=L2.bD
theorem qk {f:Addr}{fd:rn}(F:cD K "pages_from" "pages_from" jf f fd) (T:zu mg):aZ P w K mg base aS 1 f fd ["page","many"] eG:=by
 obtain⟨ai,ab,S⟩:=T.wL;refine F.dg IP (λam A outer s H vs Q E hr h=>?_);obtain⟨p,m,rfl,G,L⟩:=h;have hs:=BY;have U:¬ m<1:=λz=>G (.inl z);have R:¬ p<0:=λz=>G (.inr (.inl z));have d3:¬ 64<p+m:=λz=>G (.inr (.inr z));refine⟨_,(ag (aU (PW.pt (gL (aE gH (pv 1) ak (aI _)) (gL (aE gH (pv 0) ak (aI _)) (fK (aE ij (ay aV (pv 0) (pv 1)) (cj (by rfl) ab S) (aI _)))))) cN aH)
  (ao (aG (bG (mW rfl) (by rfl) T.list dv (aa (bG yS (by rfl) T.range zG (aa (pv 0) (aa (ay aV (pv 0) (pv 1)) aj))) aj))))),?_⟩
 refine iK λ_ N Y=>?_;clear N;refine⟨_,rfl,_,_,rfl,rfl,_,rfl,?_⟩;refine iV (λc=>absurd (of_decide_eq_true c) U) (λ_=>?_);refine⟨_,rfl,_,_,rfl,rfl,_,rfl,?_⟩;refine iV (λc=>absurd (of_decide_eq_true c) R) (λ_=>?_);refine⟨_,rfl,_,rfl,_,_,rfl,rfl,_,_,rfl,rfl,_,rfl,?_⟩;refine vD (λc=>absurd (of_decide_eq_true c) d3) (λ_=>Y _ ?_);refine⟨_,rfl,_,rfl,_,rfl,_,_,rfl,rfl,p,p+m,rfl,λO ac=>?_⟩;have I:=ar (X:=.rng p (p+m)) ac;refine⟨O,p,m.toNat,rfl,by rw[ae,Og af],af,af,af,λl J=>?_⟩;refine L _ l (I.trans (ar J)) (I.free J) ?_;rw[ae];unfold aK;rw[Lx];rfl
theorem GQ:aD ["mapped","pages","page"] ["mapped","pages"] (aw km):=L2.bD
theorem tX {f:Addr}{fd:rn}(F:cD K "refuse_unmapped" "refuse_unmapped" km f fd):aZ P w K mg base aS 1 f fd ["mapped","pages"] gu:=by
 refine F.dg GQ (λU A outer s H vs Q E Y h=>?_);obtain⟨a,b,S,ps,rfl,N,G,J,L⟩:=h;refine⟨_,(ao (cL Kt rfl (eK (pv 1)) (gG 2 GQ.nd) (ao (aU (aE jm (pv 2) (pv 0) (by with_unfolding_all rfl)) cN aH)))),?_⟩;refine⟨_,rfl,b,rfl,⟨_,bq.of G⟩,?_⟩;refine eh (K:=K) (a:=b) (xs:=ps.map V.int) (λi σ H2=>∃v2:Option V,σ=[some (.ref a),some (.ref b),v2]/\H2=H) ⟨_,rfl,rfl⟩ (λi σ H2 _ O=>by obtain⟨_,_,e⟩:=O;rw[e];exact bq.of G) ?_ ?_
 .rintro i x σ H2 I ⟨v2,rfl,rfl⟩;rw[wh]at I;obtain⟨q,R,rfl⟩:=vr.mp I;refine⟨_,rfl,_,rfl,a,_,rfl,.inl (bq.of N),rfl,dF _,_,rfl,?_⟩;rw[mY,decide_eq_true (J q (DD R))];exact bU ⟨_,rfl,rfl⟩
 .rintro σ H2 ⟨v2,rfl,rfl⟩;exact L
end
theorem yu {p m:Int}(h:¬ cg p m):∀q∈aK p m,0<=q/\q<64/\q.natAbs.log2<1920:=λq G=>by
 unfold aK at G;obtain⟨k,I,rfl⟩:=rk.mp G;rw[KZ]at I;have h1:¬ m<1:=λz=>h (.inl z);have h2:¬ p<0:=λz=>h (.inr (.inl z));have N:¬ 64<p+m:=λz=>h (.inr (.inr z));refine⟨af,af,?_⟩;by_cases z:(p+(k:Int)).natAbs=0
 .rw[z];decide
 .rw[Nat.log2_lt z];have J:(p+(k:Int)).natAbs<64:=af;have L:(64:Nat)<2^1920:=aq;omega
inductive qq (vs:List V) (H:Hp) (Q:VK) (e3:XK):Prop
 |mk (a:Addr) (ms:List Int) (p m:Int) (_:vs=[.ref a,.int p,.int m]) (_:H a=some (.lst (ms.map V.int))) (_:¬ cg p m) (_:(∀q∈aK p m,¬ q∈ms)) (_:∀(H':Hp) (l:Addr),bg H H'->H l=none->H' l=some (.lst ((aK p m).map V.int))->Q (.ref l) H'):qq vs H Q e3
inductive nr (vs:List V) (H:Hp) (Q:VK) (e3:XK):Prop
 |mk (a:Addr) (ms:List Int) (p m:Int) (_:vs=[.ref a,.int p,.int m]) (_:H a=some (.lst (ms.map V.int))) (_:¬ cg p m) (_:(∀q∈aK p m,q∈ms)) (_:∀(H':Hp) (l:Addr),bg H H'->H l=none->H' l=some (.lst ((aK p m).map V.int))->Q (.ref l) H'):nr vs H Q e3
def jK (ad:Int):Int:=ad/8
def hV (ad n:Int):Int:=(ad+n-1)/8-ad/8+1
def cA (ad n:Int) (G:List Int):Prop:=n<0\/(0<n/\(cg (jK ad) (hV ad n)\/¬ ∀q∈aK (jK ad) (hV ad n),q∈G))
def ax (ad n:Int):List Int:=if n=0 then[]else aK (jK ad) (hV ad n)
inductive iE (vs:List V) (H:Hp) (Q:VK) (e3:XK):Prop
 |mk (a:Addr) (ms:List Int) (ad n:Int) (_:vs=[.ref a,.int ad,.int n]) (_:H a=some (.lst (ms.map V.int))) (_:¬ cA ad n ms) (_:∀(H':Hp) (l:Addr),bg H H'->H l=none->H' l=some (.lst ((ax ad n).map V.int))->Q (.ref l) H'):iE vs H Q e3
section
variable {P:ti}{w:Kl}{K:Kq}{mg:Str->Option Value}{base:Heap}
theorem DZ:aD ["mapped","page","many","pages","wanted"] ["mapped","page","many"] (aw uY):=L2.bD
theorem Ay {f:Addr}{fd:rn}(F:cD K "pages_to_map" "pages_to_map" uY f fd) (Y:Df P w K mg base aS 1 "pages_from" eG):aZ P w K mg base aS 2 f fd ["mapped","page","many"] qq:=by
 refine F.dg DZ (λac A outer s H vs Q E O h=>?_);obtain⟨a,ms,p,m,rfl,U,R,hn,N⟩:=h;refine⟨_,(ag (dA 3 DZ.nd (pc Y O az (aa (pv 1) (aa (pv 2) aj))))
  (ag (cL Kt rfl (eK (pv 3)) (gG 4 DZ.nd) (ao (aU (aE xN (pv 4) (pv 0) (by with_unfolding_all rfl)) cN aH)))
  (ao (aG (pv 3))))),?_⟩
 refine⟨_,rfl,_,rfl,p,m,rfl,R,λH1 l J S I=>?_⟩;refine⟨_,rfl,l,rfl,⟨_,bq.of I⟩,?_⟩;refine eh (K:=K) (a:=l) (xs:=(aK p m).map V.int) (λi σ H2=>∃G:Option V,σ=[some (.ref a),some (.int p),some (.int m),some (.ref l),G]/\H2=H1) ⟨_,rfl,rfl⟩ (λi σ H2 _ z0=>by obtain⟨_,_,e⟩:=z0;rw[e];exact bq.of I) ?_ ?_
 .rintro i x σ H2 L ⟨G,rfl,rfl⟩;rw[wh]at L;obtain⟨q,ab,rfl⟩:=vr.mp L;refine⟨_,rfl,_,rfl,a,_,rfl,.inl (bq.of (J _ _ U)),rfl,dF _,_,rfl,?_⟩;rw[mY,decide_eq_false (hn q (DD ab))];exact bU ⟨_,rfl,rfl⟩
 .rintro σ H2 ⟨G,rfl,rfl⟩;exact⟨_,rfl,N _ l J S I⟩
theorem Gg:aD ["mapped","page","many","pages"] ["mapped","page","many"] (aw qv):=L2.bD
theorem yE {f:Addr}{fd:rn}(F:cD K "pages_to_drop" "pages_to_drop" qv f fd) (S:Df P w K mg base aS 1 "pages_from" eG) (O:Df P w K mg base aS 1 "refuse_unmapped" gu):aZ P w K mg base aS 2 f fd ["mapped","page","many"] nr:=by
 refine F.dg Gg (λab A outer s H vs Q E J h=>?_);obtain⟨a,Y,p,m,rfl,R,nb,U,L⟩:=h;refine⟨_,(ag (dA 3 Gg.nd (pc S J az (aa (pv 1) (aa (pv 2) aj))))
  (ag (aL (pc O J az (aa (pv 0) (aa (pv 3) aj))))
  (ao (aG (pv 3))))),?_⟩
 refine⟨_,rfl,_,rfl,p,m,rfl,nb,λH1 l G N I=>?_⟩;exact⟨_,rfl,_,rfl,a,l,Y,aK p m,rfl,G _ _ R,I,U,⟨_,rfl,L _ l G N I⟩⟩
theorem CV:aD ["mapped","address","many","first","last","pages"] ["mapped","address","many"] (aw lV):=L2.bD
theorem uJ {f:Addr}{fd:rn}(F:cD K "pages_of_cells" "pages_of_cells" lV f fd) (T:zu mg) (GP:Df P w K mg base aS 1 "pages_from" eG) (GU:Df P w K mg base aS 1 "refuse_unmapped" gu):aZ P w K mg base aS 2 f fd ["mapped","address","many"] iE:=by
 obtain⟨u8,O,Y⟩:=T.cells;refine F.dg CV (λab A outer s H vs Q E N h=>?_);obtain⟨a,S,ad,n,rfl,ha,G,I⟩:=h;refine⟨_,(ag (aU (aE bR (pv 2) ak (aI _)) (ao (aG (bN aj))) aH)
  (ag (aU (aE gH (pv 2) ak (aI _)) cN aH)
  (ag (dA 3 CV.nd (ay bB (pv 1) (cj (by rfl) O Y)))
  (ag (dA 4 CV.nd (ay bB (ay kl (ay aV (pv 1) (pv 2)) ak) (cj (by rfl) O Y)))
  (ag (dA 5 CV.nd (pc GP N az (aa (pv 3) (aa (ay aV (ay kl (pv 4) (pv 3)) ak) aj))))
  (ag (aL (pc GU N az (aa (pv 0) (aa (pv 5) aj))))
  (ao (aG (pv 5))))))))),?_⟩
 refine⟨_,rfl,rfl,_,rfl,?_⟩;refine iV (λc=>?_) (λc=>?_)
 .have e:n=0:=V.int.inj (of_decide_eq_true c);refine⟨av,λl L=>?_⟩;refine I _ l (ar L) L ?_;rw[ae];unfold ax;rw[Th e];rfl
 have ne:¬ n=0:=λz=>c (decide_eq_true (by rw[z]));have nn:¬ n<0:=λz=>G (.inl z);have R:0<n:=af;have np:¬ cg (jK ad) (hV ad n):=λz=>G (.inr ⟨R,.inl z⟩);have ni:∀q∈aK (jK ad) (hV ad n),q∈S:=Nh λz=>G (.inr ⟨R,.inr z⟩);refine⟨_,rfl,_,_,rfl,rfl,_,rfl,?_⟩;refine iV (λc'=>absurd (of_decide_eq_true c') nn) (λ_=>?_);refine⟨_,rfl,_,_,rfl,rfl,⟨av,av⟩,_,rfl,_,rfl,_,_,rfl,rfl,_,_,rfl,rfl,_,_,rfl,rfl,⟨av,av⟩,?_⟩;refine⟨_,rfl,_,rfl,_,rfl,_,_,rfl,rfl,_,_,rfl,rfl,jK ad,hV ad n,rfl,np,λH1 l J nl U=>?_⟩;refine⟨_,rfl,_,rfl,a,l,S,aK (jK ad) (hV ad n),rfl,J _ _ ha,U,ni,⟨_,rfl,I _ l J nl ?_⟩⟩;unfold ax;rw[Tg ne];exact U
end
theorem qD {ws:List Int}{s n:Nat}:fg (ws.map V.int) (some (s:Int)) (some ((s:Int)+(n:Int)))=((ws.drop s).take n).map V.int:=by
 unfold fg;rw[nq,HT.lC,show((s:Int)+(n:Int))=((s+n:Nat):Int)by push_cast;rfl,HT.lC, <-Sq, <-map_take];congr 1;by_cases h:s<=ws.length
 .rw[OW h];by_cases h2:s+n<=ws.length
  .rw[OW h2,show s+n-s=n by omega]
  .rw[Ol af,Ll (by rw[LV];omega),Ll (by rw[LV];omega)]
 .rw[Ol af,Ol af,MD (sS _),MD af];simp
theorem wy {ws:List Int}{s:Nat}:fg (ws.map V.int) none (some (s:Int))=(ws.take s).map V.int:=by
 unfold fg;rw[nq,HT.lC,show HT.cR ws.length 0 none=0 from rfl,RU,Nat.sub_zero, <-map_take];congr 1;by_cases h:s<=ws.length
 .rw[OW h]
 .rw[Ol af,Ll (sS _),Ll af]
theorem xQ {ws:List Int}{s:Nat}:fg (ws.map V.int) (some (s:Int)) none=(ws.drop s).map V.int:=by
 unfold fg;rw[nq,HT.lC,show HT.cR ws.length ws.length none=ws.length from rfl, <-Sq, <-map_take];congr 1;by_cases h:s<=ws.length
 .rw[OW h,Ll (by rw[LV];omega)]
 .rw[Ol af,MD (sS _),MD af];simp
theorem er {K:Kq}{H H':Hp}{a:Addr}{xs:List V}(h:bq K H a xs) (s:∀o,H a=some o->H' a=some o):bq K H' a xs:=by
 rcases h with(h|⟨o,h⟩)|h
 .exact .inl (.inl (s _ h))
 .exact .inl (.inr ⟨o,s _ h⟩)
 .exact .inr h
theorem vY {α I:Type}{F G:α->I->Prop}(h:∀x y,F x y->G x y):∀{xs:List α}{ys:List I},Paired F xs ys->Paired G xs ys
 |_,_,.nil=>.nil
 |_,_,.cons q t=>.cons (h _ _ q) (vY h t)
theorem uV {α G:Type}{F:α->G->Prop}{xs I:List α}{ys J:List G}(p:Paired F xs ys) (h:Paired F I J):Paired F (xs++I) (ys++J):=by
 induction p with
 |nil=>exact h
 |cons q _ L=>exact .cons q L
theorem wz {α G:Type}{F:α->G->Prop}{x:α}{xs:List α}{ys:List G}(p:Paired F xs ys) (h:x∈xs):∃y,F x y:=by
 induction p with
 |nil=>cases h
 |cons q _ I =>
  rcases E3.mp h with e|h
  .exact⟨_,e▸q⟩
  .exact I h
inductive mj (vs:List V) (H:Hp) (Q:VK) (e3:XK):Prop
 |mk (a:Addr) (ws:List Int) (ad:Int) (n:Nat) (_:vs=[.ref a,.int ad,.int n]) (_:H a=some (.lst (ws.map V.int))) (_:∀(H':Hp) (l:Addr),bg H H'->H l=none->H' l=some (.lst (((ws.drop (ad%8).toNat).take n).map V.int))->Q (.ref l) H'):mj vs H Q e3
def dX (ws:List Int) (s:Nat) (cs:List Int):List Int:=ws.take s++cs++ws.drop (s+cs.length)
def fC (k:Nat) (ws:List Int):List (List Int):=(Kx k).map λi=>(ws.drop (8*i)).take 8
inductive vV (K:Kq) (vs:List V) (H:Hp) (Q:VK) (e3:XK):Prop
 |mk (a c:Addr) (ws cs:List Int) (ad:Int) (k:Nat) (_:vs=[.ref a,.int ad,.ref c]) (_:H a=some (.lst (ws.map V.int))) (_:bq K H c (cs.map V.int)) (_:ws.length<=600) (_:cs.length<=600) (_:k<=64) (_:(dX ws (ad%8).toNat cs).length=8*k) (_:∀(H':Hp) (l:Addr) (rs:List Addr),bg H H'->H l=none->H' l=some (.lst (rs.map V.ref))->Paired (λr (row:List Int)=>H' r=some (.lst (row.map V.int))) rs (fC k (dX ws (ad%8).toNat cs))->(∀r∈rs,H r=none)->rs.Nodup->Q (.ref l) H'):vV K vs H Q e3
theorem Ja:∀k:Nat,k<65->Builtin.Range.small 0 (8*(k:Int)) 8=true/\Builtin.Range.rangeSize 0 (8*(k:Int)) 8=(k:Int)/\Builtin.divisionGoesByPylong (8*(k:Int)-0) 8=false:=aq
section
variable {P:ti}{w:Kl}{K:Kq}{mg:Str->Option Value}{base:Heap}
theorem Hk:aD ["whole","address","many","start"] ["whole","address","many"] (aw pU):=L2.bD
theorem yr {f:Addr}{fd:rn}(F:cD K "run_within" "run_within" pU f fd) (T:zu mg):aZ P w K mg base aS 1 f fd ["whole","address","many"] mj:=by
 obtain⟨U,I,O⟩:=T.cells;refine F.dg Hk (λR A outer s H vs Q E S h=>?_);obtain⟨a,ws,ad,n,rfl,N,k⟩:=h;refine⟨_,(ag (dA 3 Hk.nd (ay bu (pv 1) (cj (by rfl) I O)))
  (ao (aG (cZ gk (pv 0) (cW (pv 3)) (cW (ay aV (pv 3) (pv 2))))))),?_⟩
 refine⟨_,rfl,_,_,rfl,rfl,nV,?_⟩;have J:=Ld ad (show(8:Int)≠0 by decide);refine⟨_,rfl,_,rfl,ad%8,rfl,_,rfl,_,rfl,_,_,rfl,rfl,ad%8+n,rfl,a,_,rfl,bq.of N,λl G=>?_⟩;have e:ad%8=((ad%8).toNat:Int):=(Og J).symm;have L:fg (ws.map V.int) (some (ad%8)) (some (ad%8+n))=((ws.drop (ad%8).toNat).take n).map V.int:=by
  rw[e];exact qD
 exact k _ l (ar G) G (by rw[ae,L])
theorem DK:aD ["whole","address","cells","start","changed"] ["whole","address","cells"] (aw zr):=L2.bD
theorem CG {f:Addr}{fd:rn}(F:cD K "pages_with" "pages_with" zr f fd) (T:zu mg):aZ P w K mg base aS 1 f fd ["whole","address","cells"] (vV K):=by
 obtain⟨u8,m8,r8⟩:=T.cells;refine F.dg DK (λa3 A outer s H vs Q E hr h=>?_);obtain⟨a,c,ws,cs,ad,j,rfl,ha,hc,hw,a4,hj,aT,k⟩:=h;have hs:=BY;refine⟨_,(ag (dA 3 DK.nd (ay bu (pv 1) (cj (by rfl) m8 r8)))
  (ag (dA 4 DK.nd (ay pL (ay pL (cZ gk (pv 0) fB (cW (pv 3))) (bG cB (by rfl) T.list dv (aa (pv 2) aj))) (cZ gk (pv 0) (cW (ay aV (pv 3) (aP bJ (by rfl) T.len boot_len (aa (pv 2) aj)))) fB)))
  (ao (aG (gD (cl:=[("changed",s.heap.objs.size+1)]) (caps:=[("changed",4)]) ⟨rfl,aq,aq,rfl,by kernel_rfl,by intro p G;simp only[E3,Km,or_false]at G;rcases G with rfl<;>first|rfl|exact⟨rfl,.inl rfl,.inl rfl⟩|exact⟨rfl,.inl rfl,.inr rfl⟩,by kernel_rfl,by intro p G;simp only[E3,Km,or_false]at G;rcases G with rfl<;>first|rfl|exact⟨rfl,.inl rfl,.inl rfl⟩|exact⟨rfl,.inl rfl,.inr rfl⟩,aq⟩ rfl (yQ (by rfl) T.range (aa ak (aa (aP bJ (by rfl) T.len boot_len (aa (pv 4) aj)) (aa (cj (by rfl) m8 r8) aj)))) (λ_ _ _ _=>fj) (λ_ _ _ _=>(cZ (show FN _ (Fn K)from gk) (pv 1) (cW (pv 0)) (cW (ay aV (pv 0) (cj (by rfl) m8 r8)))))))))),?_⟩
 refine gn λ_ jt=>?_;refine⟨_,rfl,_,_,rfl,rfl,nV,?_⟩;have m0:=Ld ad (show(8:Int)≠0 by decide);have e:ad%8=((ad%8).toNat:Int):=(Og m0).symm;refine jt _ _ ?_;show iZ _ _ _ [some (V.ref a),some (.int ad),some (.ref c),some (.int (ad%8)),none] H;rw[e];generalize (ad%8).toNat=st at *;clear e m0;refine gn λ_ jt=>?_;refine⟨_,rfl,_,rfl,(st:Int),rfl,a,_,rfl,bq.of ha,λO aB=>?_⟩;rw[wy];have s1:=ar (X:=.lst ((ws.take st).map V.int)) aB;have e1:(upd H O (.lst ((ws.take st).map V.int))) O=some (.lst ((ws.take st).map V.int)):=ae;refine⟨_,rfl,c,_,rfl,.inl (er hc (s1 _)),λl2 a1=>?_⟩;have s2:=ar (X:=.lst (cs.map V.int)) a1;refine⟨O,l2,_,_,rfl,rfl,s2 _ _ e1,ae,by rw[nq,nq,Kv];omega,λS a2=>?_⟩;rw[<-Kr];have s3:=ar (X:=.lst ((ws.take st++cs).map V.int)) a2;have S3:=(s1.trans s2).trans s3;have e3:(upd (upd (upd H O (.lst ((ws.take st).map V.int))) l2 (.lst (cs.map V.int))) S (.lst ((ws.take st++cs).map V.int))) S=some (.lst ((ws.take st++cs).map V.int)):=ae;generalize upd (upd (upd H O (.lst ((ws.take st).map V.int))) l2 (.lst (cs.map V.int))) S (.lst ((ws.take st++cs).map V.int))=H3 at *;refine⟨_,rfl,_,rfl,_,rfl,c,_,rfl,.inl (er hc (S3 _)),_,_,rfl,rfl,_,rfl,a,_,rfl,bq.of (S3 _ _ ha),λU a0=>?_⟩;rw[show((st:Int)+((cs.map V.int).length:Nat))=((st+cs.length:Nat):Int)by rw[nq];push_cast;rfl,xQ];have s4:=ar (X:=.lst ((ws.drop (st+cs.length)).map V.int)) a0;refine⟨S,U,_,_,rfl,rfl,s4 _ _ e3,ae,by rw[nq,nq,E2,Kv,LV];omega,λL as=>?_⟩;rw[<-Kr,show ws.take st++cs++ws.drop (st+cs.length)=dX ws st cs from rfl];have Y:bg H (upd (upd H3 U (.lst ((ws.drop (st+cs.length)).map V.int))) L (.lst ((dX ws st cs).map V.int))):=(S3.trans s4).trans (ar as);have e5:(upd (upd H3 U (.lst ((ws.drop (st+cs.length)).map V.int))) L (.lst ((dX ws st cs).map V.int))) L=some (.lst ((dX ws st cs).map V.int)):=ae;generalize upd (upd H3 U (.lst ((ws.drop (st+cs.length)).map V.int))) L (.lst ((dX ws st cs).map V.int))=H5 at *;generalize dX ws st cs=sp at *;obtain⟨r1,r2,r3⟩:=Ja j af;refine jt _ _ (Jn λ_ jr=>?_);refine⟨_,rfl,L,_,rfl,.inl (bq.of e5),0,8*(j:Int),8,j,by rw[nq,aT];push_cast;rfl,r1,r2,av,r3,?_⟩;refine qK (lo:=0) (st:=8) (n:=j) (λi ys R=>∃I:List Addr,yk (ys=I.map V.ref) (I.length=i) (Paired (λr (am:List Int)=>R r=some (.lst (am.map V.int))) I (fC i sp)) (bg H5 R) ((∀r∈I,H5 r=none)) I.Nodup) ⟨[],rfl,rfl,.nil,bg.refl _,(λ_ h=>nomatch h),Ms⟩ ?_ ?_
 .rintro i ys R hi ⟨I,rfl,ai,G,N,hn,nd⟩;refine⟨_,rfl,_,rfl,_,rfl,_,rfl,_,_,rfl,rfl,_,rfl,L,_,rfl,bq.of (N _ _ e5),λr ab=>?_⟩;rw[show(0+(i:Int)*8)=((8*i:Nat):Int)by push_cast;omega,show(((8*i:Nat):Int)+8)=((8*i:Nat):Int)+((8:Nat):Int)from rfl,qD];have sr:=ar (X:=.lst (((sp.drop (8*i)).take 8).map V.int)) ab;refine⟨by rw[nq];omega,I++[r],by rw[Kr];rfl,by rw[E2,ai];rfl,?_,N.trans sr,λx J=>?_,?_⟩
  .unfold fC at G ⊢;rw[QJ,Kr];exact uV (vY (λx y h=>sr _ _ h) G) (.cons ae .nil)
  .rcases pa.mp J with J|J
   .exact hn x J
   .rw[kQ.mp J];exact N.free ab
  .refine NN.mpr ⟨nd,Ky.mpr ⟨by simp,Ms⟩,λx J y hy=>?_⟩;rw[kQ.mp hy];intro z;obtain⟨am,ac⟩:=wz G J;rw[z,ab]at ac;cases ac
 .rintro ys R ⟨I,rfl,ai,G,N,hn,nd⟩ l6 ap;have s7:=ar (X:=.lst (I.map V.ref)) ap;exact jr _ _ (k _ l6 I ((Y.trans N).trans s7) ((Y.trans N).free ap) ae (vY (λx y h=>s7 _ _ h) G) (λr h=>Y.free (hn r h)) nd)
end
end Rm
namespace Pg
def upd {α:Type}(f:Bool->α) (b:Bool) (v:α):Bool->α:=λc=>if c=b then v else f c
def dr {α:Type}(f:Int->α) (k:Int) (v:α):Int->α:=λj=>if j=k then v else f j
theorem ae {α:Type}{f:Bool->α}{b:Bool}{v:α}:upd f b v b=v:=Th rfl
theorem aW {α:Type}{f:Bool->α}{b c:Bool}{v:α}(h:c≠b):upd f b v c=f c:=Tg h
theorem bp {α:Type}{f:Int->α}{b:Int}{v:α}:dr f b v b=v:=Th rfl
theorem aJ {α:Type}{f:Int->α}{b c:Int}{v:α}(h:c≠b):dr f b v c=f c:=Tg h
structure PS where
 ow:Bool->List Int
 co:Bool->List (Option (List Int))
 pl:Int->Option (Bool×Nat)
 ls:Int
 inf:List Int
def Vw (s:PS) (k:Int) (cs:List Int) (c:Int):Prop:=∃b n,s.pl k=some (b,n)/\(s.co b)[n]?=some (some cs)/\(s.ow b)[n]?=some c
structure Good (s:PS):Prop where
 rg:∀k p,s.pl k=some p->1<=k/\k<=s.ls
 va:∀k b n,s.pl k=some (b,n)->∃cs c,(s.co b)[n]?=some (some cs)/\(s.ow b)[n]?=some c/\1<=c/\cs.length=8
 inj:∀k j p,s.pl k=some p->s.pl j=some p->k=j
 on:∀b n c,(s.ow b)[n]?=some c->c=0\/∃k,s.pl k=some (b,n)
 ln:∀b,(s.co b).length=(s.ow b).length
 nd:s.inf.Nodup
 fi:∀k,k∈s.inf↔∃n,s.pl k=some (true,n)
def xE (s:PS) (b:Bool) (k:Int) (cs:List Int) (c:Int):PS :=
 { ow:=upd s.ow b ((s.ow b).set ((s.ow b).idxOf 0) c),co:=upd s.co b ((s.co b).set ((s.ow b).idxOf 0) (some cs)),pl:=dr s.pl k (some (b,(s.ow b).idxOf 0)),ls:=s.ls,inf:=if b=true then s.inf++[k]else s.inf }
def oj (s:PS) (k:Int) (b:Bool) (n:Nat):PS :=
 { ow:=upd s.ow b ((s.ow b).set n 0),co:=s.co,pl:=dr s.pl k none,ls:=s.ls,inf:=s.inf.erase k }
def cn (s:PS) (b:Bool) (n:Nat) (c:Int):PS:={ s with ow:=upd s.ow b ((s.ow b).set n c) }
def write (s:PS) (b:Bool) (n:Nat) (cs:List Int):PS:={ s with co:=upd s.co b ((s.co b).set n (some cs)) }
theorem uS {l:List Int}(h:(0:Int)∈l):l[l.idxOf 0]?=some 0:=by
 have G:l.idxOf 0<l.length:=LA.mpr h;rw[IF G,OB G]
theorem vp {l:List Int}(h:(0:Int)∈l):l.idxOf 0<l.length:=LA.mpr h
section
variable {s:PS}{b:Bool}{k:Int}{cs:List Int}{c:Int}{n:Nat}
theorem wN (G:Good s) (h:(0:Int)∈s.ow b):∀j,s.pl j≠some (b,(s.ow b).idxOf 0):=by
 intro j e;obtain⟨cs,c,_,h2,I,_⟩:=G.va _ _ _ e;rw[uS h]at h2;cases h2;omega
theorem mH (G:Good s) (h0:(0:Int)∈s.ow b) (Y:s.pl k=none) (h1:1<=k) (h2:k<=s.ls) (h3:1<=c) (h4:cs.length=8):Good (xE s b k cs c):=by
 have hl:=vp h0;have hf:=wN G h0;have ab:(s.ow b).idxOf 0<(s.co b).length:=(by rw[G.ln b];exact hl);refine⟨?_,?_,?_,?_,?_,?_,?_⟩
 .intro j p e;by_cases L:j=k
  .subst L;exact⟨h1,h2⟩
  .exact G.rg j p (by rw[<-e];exact(aJ L).symm)
 .intro j J S e;by_cases L:j=k
  .subst L;have e:some (b,(s.ow b).idxOf 0)=some (J,S):=(by rw[<-e];exact bp.symm);cases e;refine⟨cs,c,?_,?_,h3,h4⟩
   .show(upd s.co b _ b)[_]?=_;rw[ae,La ab]
   .show(upd s.ow b _ b)[_]?=_;rw[ae,La hl]
  .have O:s.pl j=some (J,S):=(by rw[<-e];exact(aJ L).symm);obtain⟨ac,c',e1,e2,e3,e4⟩:=G.va _ _ _ O;refine⟨ac,c',?_,?_,e3,e4⟩
   .show(upd s.co b _ J)[_]?=_;by_cases I:J=b
    .subst I;rw[ae,KY (λq=>hf j (by rw[O,q]))];exact e1
    .rw[aW I];exact e1
   .show(upd s.ow b _ J)[_]?=_;by_cases I:J=b
    .subst I;rw[ae,KY (λq=>hf j (by rw[O,q]))];exact e2
    .rw[aW I];exact e2
 .intro j R p e N;by_cases L:j=k
  .by_cases U:R=k
   .rw[L,U]
   .subst L;have e:some (b,(s.ow b).idxOf 0)=some p:=(by rw[<-e];exact bp.symm);have N:s.pl R=some p:=(by rw[<-N];exact(aJ U).symm);exact absurd (N.trans e.symm) (hf R)
  .have O:s.pl j=some p:=(by rw[<-e];exact(aJ L).symm);by_cases U:R=k
   .subst U;have N:some (b,(s.ow b).idxOf 0)=some p:=(by rw[<-N];exact bp.symm);exact absurd (O.trans N.symm) (hf j)
   .have N:s.pl R=some p:=(by rw[<-N];exact(aJ U).symm);exact G.inj _ _ _ O N
 .intro J S c' e;have e:(upd s.ow b ((s.ow b).set ((s.ow b).idxOf 0) c) J)[S]?=some c':=e;by_cases I:J=b
  .subst I;by_cases en:(s.ow J).idxOf 0=S
   .exact .inr ⟨k,by show dr s.pl k _ k=_;rw[bp,en]⟩
   .rw[ae,KY en]at e;rcases G.on _ _ _ e with h|⟨j,h⟩
    .exact .inl h
    .refine .inr ⟨j,?_⟩;show dr s.pl k _ j=_;rw[aJ (λq=>by rw[q,Y]at h;cases h)];exact h
  .rw[aW I]at e;rcases G.on _ _ _ e with h|⟨j,h⟩
   .exact .inl h
   .refine .inr ⟨j,?_⟩;show dr s.pl k _ j=_;rw[aJ (λq=>by rw[q,Y]at h;cases h)];exact h
 .intro J;show(upd s.co b _ J).length=(upd s.ow b _ J).length;by_cases I:J=b
  .subst I;rw[ae,ae,K9,K9];exact G.ln _
  .rw[aW I,aW I];exact G.ln _
 .show(if b=true then s.inf++[k]else s.inf).Nodup;by_cases I:b=true
  .rw[Th I];refine NN.mpr ⟨G.nd,by simp,?_⟩;intro x hx y hy e;rw[kQ]at hy;subst hy;subst e;obtain⟨m,hm⟩:=(G.fi x).mp hx;rw[Y]at hm;cases hm
  .rw[Tg I];exact G.nd
 .intro j;show j∈(if b=true then s.inf++[k]else s.inf)↔∃m,dr s.pl k (some (b,(s.ow b).idxOf 0)) j=some (true,m);by_cases L:j=k
  .subst L;rw[bp];by_cases I:b=true
   .subst I;rw[Th rfl];exact⟨λ_=>⟨_,rfl⟩,λ_=>by simp⟩
   .rw[Tg I,G.fi];exact⟨λ⟨m,h⟩=>(by rw[Y]at h;cases h),λ⟨m,h⟩=>(by cases h;exact absurd rfl I)⟩
  .rw[aJ L, <-G.fi];by_cases I:b=true
   .rw[Th I];simp[L]
   .rw[Tg I]
theorem my (I:(0:Int)∈s.ow b) (G:Good s):Vw (xE s b k cs c) k cs c:=by
 refine⟨b,(s.ow b).idxOf 0,bp,?_,?_⟩
 .show(upd s.co b _ b)[_]?=_;rw[ae,La (by rw[G.ln b];exact vp I)]
 .show(upd s.ow b _ b)[_]?=_;rw[ae,La (vp I)]
theorem kF (G:Good s) (h0:(0:Int)∈s.ow b) {j:Int}(Y:j≠k) {S:List Int}{U:Int}:Vw (xE s b k cs c) j S U↔Vw s j S U:=by
 have hf:=wN G h0;have A:∀I J,s.pl j=some (I,J)->((xE s b k cs c).co I)[J]?=(s.co I)[J]?/\((xE s b k cs c).ow I)[J]?=(s.ow I)[J]?:=by
  intro I J e;show(upd s.co b _ I)[J]?=_/\(upd s.ow b _ I)[J]?=_;by_cases R:I=b
  .subst R;have:(s.ow I).idxOf 0≠J:=λq=>hf j (by rw[e,q]);rw[ae,ae,KY this,KY this];exact⟨rfl,rfl⟩
  .rw[aW R,aW R];exact⟨rfl,rfl⟩
 constructor
 .rintro⟨I,J,L,N,O⟩;have L:s.pl j=some (I,J):=(by rw[<-L];exact(aJ Y).symm);exact⟨I,J,L,by rw[<-(A _ _ L).1];exact N,by rw[<-(A _ _ L).2];exact O⟩
 .rintro⟨I,J,L,N,O⟩;exact⟨I,J,(aJ Y).trans L,by rw[(A _ _ L).1];exact N,by rw[(A _ _ L).2];exact O⟩
theorem jC (G:Good s) (N:s.pl k=some (b,n)):Good (oj s k b n):=by
 obtain⟨ac,c0,g1,g2,_,_⟩:=G.va _ _ _ N;have hn:n<(s.ow b).length:=(j1.mp g2).1;have up:∀{j p},(oj s k b n).pl j=some p->j≠k/\s.pl j=some p:=by
  intro j p e;by_cases L:j=k
  .subst L;have O:(none:Option (Bool×Nat))=some p:=(by rw[<-e];exact bp.symm);cases O
  .exact⟨L,by rw[<-e];exact(aJ L).symm⟩
 refine⟨?_,?_,?_,?_,?_,?_,?_⟩
 .intro j p e;exact G.rg j p (up e).2
 .intro j I S e;obtain⟨L,O⟩:=up e;obtain⟨ab,R,e1,Y,e3,e4⟩:=G.va _ _ _ O;refine⟨ab,R,e1,?_,e3,e4⟩;show(upd s.ow b _ I)[_]?=_;by_cases J:I=b
  .subst J;rw[ae,KY (λq=>L (G.inj _ _ _ O (by rw[N,q])))];exact Y
  .rw[aW J];exact Y
 .intro j j' p e e';exact G.inj _ _ _ (up e).2 (up e').2
 .intro I S R e;have e:(upd s.ow b ((s.ow b).set n 0) I)[S]?=some R:=e;by_cases J:I=b
  .subst J;by_cases U:n=S
   .subst U;rw[ae,La hn]at e;cases e;exact .inl rfl
   .rw[ae,KY U]at e;rcases G.on _ _ _ e with h|⟨j,h⟩
    .exact .inl h
    .refine .inr ⟨j,?_⟩;show dr s.pl k _ j=_;rw[aJ (λq=>by rw[q,N]at h;cases h;exact U rfl)];exact h
  .rw[aW J]at e;rcases G.on _ _ _ e with h|⟨j,h⟩
   .exact .inl h
   .refine .inr ⟨j,?_⟩;show dr s.pl k _ j=_;rw[aJ (λq=>by rw[q,N]at h;cases h;exact J rfl)];exact h
 .intro I;show(s.co I).length=(upd s.ow b _ I).length;by_cases J:I=b
  .subst J;rw[ae,K9];exact G.ln _
  .rw[aW J];exact G.ln _
 .exact G.nd.erase k
 .intro j;show j∈s.inf.erase k↔∃m,dr s.pl k none j=some (true,m);rw[Nr G.nd,G.fi];by_cases L:j=k
  .subst L;rw[bp];exact⟨λh=>absurd rfl h.1,λ⟨m,h⟩=>by cases h⟩
  .rw[aJ L];exact⟨λh=>h.2,λh=>⟨L,h⟩⟩
theorem iu (G:Good s) (hk:s.pl k=some (b,n)) {j:Int}(R:j≠k) {S:List Int}{U:Int}:Vw (oj s k b n) j S U↔Vw s j S U:=by
 have A:∀I J,s.pl j=some (I,J)->((oj s k b n).ow I)[J]?=(s.ow I)[J]?:=by
  intro I J e;show(upd s.ow b _ I)[J]?=_;by_cases Y:I=b
  .subst Y;rw[ae,KY (λq=>R (G.inj _ _ _ e (by rw[hk,q])))]
  .rw[aW Y]
 constructor
 .rintro⟨I,J,L,N,O⟩;have L:s.pl j=some (I,J):=(by rw[<-L];exact(aJ R).symm);exact⟨I,J,L,N,by rw[<-A _ _ L];exact O⟩
 .rintro⟨I,J,L,N,O⟩;exact⟨I,J,(aJ R).trans L,N,by rw[A _ _ L];exact O⟩
theorem rX (G:Good s) (I:s.pl k=some (b,n)):(0:Int)∈(oj s k b n).ow b:=by
 obtain⟨O,N,R,J,_,_⟩:=G.va _ _ _ I;have L:n<(s.ow b).length:=(j1.mp J).1;show(0:Int)∈upd s.ow b _ b;rw[ae];exact DD (La L)
theorem jG (G:Good s) (S:s.pl k=some (b,n)) (hc:1<=c):Good (cn s b n c):=by
 obtain⟨ac,c0,g1,g2,_,g4⟩:=G.va _ _ _ S;have hn:n<(s.ow b).length:=(j1.mp g2).1;refine⟨G.rg,?_,G.inj,?_,?_,G.nd,G.fi⟩
 .intro j I L e;obtain⟨ab,R,e1,U,Y,e4⟩:=G.va j I L e;have A:∃O,(upd s.ow b ((s.ow b).set n c) I)[L]?=some O/\1<=O:=by
   by_cases J:I=b
   .subst J;rw[ae];by_cases N:n=L
    .subst N;exact⟨c,La hn,hc⟩
    .rw[KY N];exact⟨R,U,Y⟩
   .rw[aW J];exact⟨R,U,Y⟩
  obtain⟨O,a1,a2⟩:=A;exact⟨ab,O,e1,a1,a2,e4⟩
 .intro I L R e;have e:(upd s.ow b ((s.ow b).set n c) I)[L]?=some R:=e;by_cases J:I=b
  .subst J;rw[ae]at e;by_cases N:n=L
   .subst N;exact .inr ⟨k,S⟩
   .rw[KY N]at e;exact G.on _ _ _ e
  .rw[aW J]at e;exact G.on _ _ _ e
 .intro I;show(s.co I).length=(upd s.ow b _ I).length;by_cases J:I=b
  .subst J;rw[ae,K9];exact G.ln _
  .rw[aW J];exact G.ln _
theorem jg (G:Good s) (I:s.pl k=some (b,n)) {L:Int}(h:Vw s k cs L):Vw (cn s b n c) k cs c:=by
 obtain⟨S,R,J,N,O⟩:=h;rw[I]at J;cases J;refine⟨b,n,I,N,?_⟩;show(upd s.ow b _ b)[_]?=_;rw[ae,La (j1.mp O).1]
theorem dq (G:Good s) (Y:s.pl k=some (b,n)) {j:Int}(hj:j≠k) {R:List Int}{S:Int}:Vw (cn s b n c) j R S↔Vw s j R S:=by
 have A:∀I J,s.pl j=some (I,J)->((cn s b n c).ow I)[J]?=(s.ow I)[J]?:=by
  intro I J e;show(upd s.ow b _ I)[J]?=_;by_cases U:I=b
  .subst U;rw[ae,KY (λq=>hj (G.inj _ _ _ e (by rw[Y,q])))]
  .rw[aW U]
 constructor
 .rintro⟨I,J,L,N,O⟩;exact⟨I,J,L,N,by rw[<-A _ _ L];exact O⟩
 .rintro⟨I,J,L,N,O⟩;exact⟨I,J,L,N,by rw[A _ _ L];exact O⟩
theorem vc (G:Good s) (Y:s.pl k=some (b,n)) (hc:cs.length=8):Good (write s b n cs):=by
 obtain⟨ab,c0,g1,g2,_,g4⟩:=G.va _ _ _ Y;have hn:n<(s.co b).length:=(j1.mp g1).1;refine⟨G.rg,?_,G.inj,G.on,?_,G.nd,G.fi⟩
 .intro j I N e;obtain⟨R,c',S,e2,e3,O⟩:=G.va j I N e;have A:∃L,(upd s.co b ((s.co b).set n (some cs)) I)[N]?=some (some L)/\L.length=8:=by
   by_cases J:I=b
   .subst J;rw[ae];by_cases U:n=N
    .subst U;exact⟨cs,La hn,hc⟩
    .rw[KY U];exact⟨R,S,O⟩
   .rw[aW J];exact⟨R,S,O⟩
  obtain⟨L,a1,a2⟩:=A;exact⟨L,c',a1,e2,e3,a2⟩
 .intro I;show(upd s.co b _ I).length=(s.ow I).length;by_cases J:I=b
  .subst J;rw[ae,K9];exact G.ln _
  .rw[aW J];exact G.ln _
theorem Ag (G:Good s) (I:s.pl k=some (b,n)) {O:List Int}(h:Vw s k O c):Vw (write s b n cs) k cs c:=by
 obtain⟨S,R,J,L,N⟩:=h;rw[I]at J;cases J;refine⟨b,n,I,?_,N⟩;show(upd s.co b _ b)[_]?=_;rw[ae,La (j1.mp L).1]
theorem iq (G:Good s) (Y:s.pl k=some (b,n)) {j:Int}(hj:j≠k) {R:List Int}{S:Int}:Vw (write s b n cs) j R S↔Vw s j R S:=by
 have A:∀I J,s.pl j=some (I,J)->((write s b n cs).co I)[J]?=(s.co I)[J]?:=by
  intro I J e;show(upd s.co b _ I)[J]?=_;by_cases U:I=b
  .subst U;rw[ae,KY (λq=>hj (G.inj _ _ _ e (by rw[Y,q])))]
  .rw[aW U]
 constructor
 .rintro⟨I,J,L,N,O⟩;exact⟨I,J,L,by rw[<-A _ _ L];exact N,O⟩
 .rintro⟨I,J,L,N,O⟩;exact⟨I,J,L,by rw[A _ _ L];exact N,O⟩
end
end Pg
namespace Pg
theorem sum_set {l:List Int}{n:Nat}{x y:Int}(h:l[n]?=some x):(l.set n y).sum=l.sum-x+y:=by
 induction l generalizing n with
 |nil=>cases h
 |cons a l G =>
  cases n with
  |zero =>
   cases h;show(y::l).sum=_;simp only[MJ];omega
  |succ n =>
   have h:l[n]?=some x:=h;show(a::l.set n y).sum=_;simp only[MJ,G h];omega
def all (s:PS):Int:=(s.ow true).sum+(s.ow false).sum
theorem qY {ow:Bool->List Int}{b:Bool}{n:Nat}{x y:Int}(h:(ow b)[n]?=some x) :
  (upd ow b ((ow b).set n y) true).sum+(upd ow b ((ow b).set n y) false).sum=(ow true).sum+(ow false).sum-x+y:=by
 cases b
 .rw[aW av,ae,sum_set h];omega
 .rw[ae,aW av,sum_set h];omega
section
variable {s s':PS}{b:Bool}{k:Int}{cs:List Int}{c:Int}{n:Nat}
theorem rj (G:(0:Int)∈s.ow b):all (xE s b k cs c)=all s+c:=by
 have:=qY (ow:=s.ow) (y:=c) (uS G);unfold all xE;dsimp only;omega
theorem qL {G:Int}(h:(s.ow b)[n]?=some G):all (oj s k b n)=all s-G:=by
 have:=qY (ow:=s.ow) (y:=0) h;unfold all oj;dsimp only;omega
theorem kS {G:Int}(h:(s.ow b)[n]?=some G):all (cn s b n c)=all s-G+c:=by
 have:=qY (ow:=s.ow) (y:=c) h;unfold all cn;dsimp only;omega
theorem du {f:Bool->List Int}{n:Nat}{x:Int}(G:Bool):(upd f b ((f b).set n x) G).length=(f G).length:=by
 by_cases e:G=b
 .subst e;rw[ae,K9]
 .rw[aW e]
structure Kept (s s':PS) (k:Int):Prop where
 ot:∀j cs' c',j≠k->(Vw s' j cs' c'↔Vw s j cs' c')
 ln:∀b,(s'.ow b).length=(s.ow b).length
 fr:(0:Int)∈s'.ow true->(0:Int)∈s.ow true/\∀j m,j≠k->s.pl j=some (true,m)->s'.pl j=some (true,m)
theorem Bo {l:List Int}{n:Nat}{x:Int}(G:x≠0) (h:(0:Int)∈l.set n x):(0:Int)∈l:=by
 rcases OI h with h|h
 .exact h
 .exact absurd h.symm G
theorem yt (G:Good s) (J:(0:Int)∈s.ow true) (O:1<=c):Kept s (xE s true k cs c) k :=
 ⟨λj L N I=>kF G J I,λb=>du b,λh=>⟨J,λj m I e=>(aJ I).trans e⟩⟩
def out (s:PS) (G:Int) (J:Nat) (L:List Int) (I:Int):PS:=xE (oj s G true J) false G L I
theorem sh (G:Good s) {I:Int}{J:Nat}{N:List Int}{L:Int}(O:s.pl I=some (true,J)) (hv:Vw s I N L) (hf:(0:Int)∈s.ow false) :
  Good (out s I J N L)/\Vw (out s I J N L) I N L/\(∀j ab Y,j≠I->(Vw (out s I J N L) j ab Y↔Vw s j ab Y))/\(0:Int)∈(out s I J N L).ow true/\all (out s I J N L)=all s /\
  (∀b,((out s I J N L).ow b).length=(s.ow b).length)/\(∀j,j≠I->(out s I J N L).pl j=s.pl j):=by
 obtain⟨b',n',e1,e2,e3⟩:=hv;rw[O]at e1;cases e1;obtain⟨ac,c9,a1,a2,a3,a4⟩:=G.va _ _ _ O;rw[e2]at a1;cases a1;rw[e3]at a2;cases a2;have U:=jC G O;have S:(0:Int)∈(oj s I true J).ow false:=by
  exact(aW (f:=s.ow) (v:=(s.ow true).set J 0) (show false≠true by decide)).symm▸hf
 have hn:(oj s I true J).pl I=none:=bp;have hr:=G.rg _ _ O;refine⟨mH U S hn hr.1 hr.2 a3 a4,my S U,?_,?_,?_,?_,?_⟩
 .intro j ab Y R;exact(kF U S R).trans (iu G O R)
 .exact(aW (f:=(oj s I true J).ow) (b:=false) (v:=((oj s I true J).ow false).set (((oj s I true J).ow false).idxOf 0) L) (show true≠false by decide)).symm▸rX G O
 .show all (xE _ _ _ _ _)=_;rw[rj S,qL e3];omega
 .intro b;exact(du (f:=(oj s I true J).ow) b).trans (du b)
 .intro j R;exact(aJ R).trans (aJ R)
inductive BI (s:PS) (k:Int) (cs:List Int) (c:Int):PS->Prop
 |free:(0:Int)∈s.ow true->BI s k cs c (xE s true k cs c)
 |full {k0:Int}{r:List Int}{n0:Nat}{cs0:List Int}{c0:Int}:¬ (0:Int)∈s.ow true->(0:Int)∈s.ow false->s.inf=k0::r->s.pl k0=some (true,n0)->Vw s k0 cs0 c0->BI s k cs c (xE (out s k0 n0 cs0 c0) true k cs c)
structure JK (s:PS) (k:Int) (cs:List Int) (c:Int) (s':PS):Prop where
 good:Good s'
 vw:Vw s' k cs c
 fr:∃m,s'.pl k=some (true,m)
 kept:Kept s s' k
 ls:s'.ls=s.ls
 al:all s'=all s+c
theorem Dy (G:Good s) (Y:s.pl k=none) (h1:1<=k) (h2:k<=s.ls) (h3:1<=c) (h4:cs.length=8) (h:BI s k cs c s'):JK s k cs c s':=by
 cases h with
 |free h0=>exact⟨mH G h0 Y h1 h2 h3 h4,my h0 G,⟨_,bp⟩,yt G h0 h3,rfl,rj h0⟩
 | @full J r I N L nf hf hi hp hv =>
  obtain⟨g1,g2,g3,U,g5,g6,g7⟩:=sh G hp hv hf;have ai:k≠J:=λe=>(by rw[e,hp]at Y;cases Y);have ab:(out s J I N L).pl k=none:=(by rw[g7 k ai];exact Y);refine⟨mH g1 U ab h1 h2 h3 h4,my U g1,⟨_,bp⟩,⟨?_,?_,?_⟩,rfl,?_⟩
  .intro j ac c' hj;rw[kF g1 U hj];by_cases e:j=J
   .subst e;constructor
    .intro hw;obtain⟨x1,x2,y1,y2,y3⟩:=hw;obtain⟨z1,z2,S,O,R⟩:=g2;rw[y1]at S;cases S;rw[y2]at O;cases O;rw[y3]at R;cases R;exact hv
    .intro hw;obtain⟨x1,x2,y1,y2,y3⟩:=hw;obtain⟨z1,z2,S,O,R⟩:=hv;rw[y1]at S;cases S;rw[y2]at O;cases O;rw[y3]at R;cases R;exact g2
   .exact g3 j ac c' e
  .intro b;exact(du (f:=(out s J I N L).ow) b).trans (g6 b)
  .intro h;exfalso;apply nf;have h:(0:Int)∈upd (out s J I N L).ow true (((out s J I N L).ow true).set (((out s J I N L).ow true).idxOf 0) c) true:=h;rw[ae]at h;have e1:(out s J I N L).ow true=(s.ow true).set I 0:=by
    exact(aW (f:=(oj s J true I).ow) (b:=false) (v:=((oj s J true I).ow false).set (((oj s J true I).ow false).idxOf 0) L) (show true≠false by decide)).trans (show upd s.ow true ((s.ow true).set I 0) true=_ from ae)
   rw[e1]at h;obtain⟨i,am,e⟩:=Mc h;have hl:i<(s.ow true).length:=(by simpa using am);have hz:(0:Int)∈(s.ow true).set I 0:=e1▸U;have e0:((s.ow true).set I 0).idxOf 0=I:=by
    have q:=uS hz;by_cases en:I=((s.ow true).set I 0).idxOf 0
    .exact en.symm
    .rw[KY en]at q;exact absurd (DD q) nf
   rw[Ri]at e;split at e
   .omega
   .rename_i ne;rw[Ri]at e;split at e
    .rename_i e2;exact absurd (e0.trans e2) ne
    .exact e▸LK hl
  .rw[rj U,g5]
theorem F6 (G:Good s) (U:(0:Int)∈s.ow true\/(0:Int)∈s.ow false) (hn:s.ow true≠[]):((0:Int)∈s.ow true)\/(¬ (0:Int)∈s.ow true/\(0:Int)∈s.ow false/\∃I r J O N,s.inf=I::r/\s.pl I=some (true,J)/\Vw s I O N):=by
 by_cases h:(0:Int)∈s.ow true
 .exact .inl h
 .refine .inr ⟨h,U.resolve_left h,?_⟩;have S:0<(s.ow true).length:=Ni.mpr hn;have Y:(s.ow true)[0]?=some (s.ow true)[0]:=IF S;rcases G.on _ _ _ Y with e|⟨j,e⟩
  .exact absurd (e▸LK S) h
  .have R:j∈s.inf:=(G.fi j).mpr ⟨_,e⟩;cases hi:s.inf with
   |nil=>rw[hi]at R;cases R
   |cons I r =>
    obtain⟨J,L⟩:=(G.fi I).mp (by rw[hi];exact KW);obtain⟨O,N,a1,a2,_,_⟩:=G.va _ _ _ L;exact⟨I,r,J,O,N,rfl,L,true,J,L,a1,a2⟩
end
end Pg
namespace Pg
section
variable {s s':PS}{b:Bool}{k:Int}{cs:List Int}{c:Int}{n:Nat}
theorem Vw.one {G:List Int}{L:Int}(h:Vw s k cs c) (h':Vw s k G L):G=cs/\L=c:=by
 obtain⟨x1,x2,O,R,S⟩:=h;obtain⟨U,Y,N,J,I⟩:=h';rw[O]at N;cases N;rw[R]at J;cases J;rw[S]at I;cases I;exact⟨rfl,rfl⟩
theorem Good.vw (G:Good s) (h:Vw s k cs c):1<=c/\cs.length=8:=by
 obtain⟨x1,x2,L,R,S⟩:=h;obtain⟨U,Y,J,I,O,N⟩:=G.va _ _ _ L;rw[R]at J;cases J;rw[S]at I;cases I;exact⟨O,N⟩
def used (s:PS) (k:Int):PS:={ s with inf:=s.inf.erase k++[k] }
theorem yV (G:Good s) (J:s.pl k=some (true,n)):Good (used s k):=by
 refine⟨G.rg,G.va,G.inj,G.on,G.ln,?_,?_⟩
 .refine NN.mpr ⟨G.nd.erase k,by simp,?_⟩;intro x L y I e;rw[kQ]at I;subst I;subst e;exact((Nr G.nd).mp L).1 rfl
 .intro j;show j∈s.inf.erase k++[k]↔_;rw[pa,kQ,Nr G.nd,G.fi];constructor
  .rintro(h|h)
   .exact h.2
   .subst h;exact⟨n,J⟩
  .intro h;by_cases e:j=k
   .exact .inr e
   .exact .inl ⟨e,h⟩
inductive FE (s:PS) (k:Int):PS->Prop
 |here {n:Nat}:s.pl k=some (true,n)->FE s k (used s k)
 |away {n:Nat}{cs:List Int}{c:Int}{s':PS}:s.pl k=some (false,n)->Vw s k cs c->BI (oj s k false n) k cs c s'->FE s k s'
structure J2 (s:PS) (k:Int) (s':PS):Prop where
 good:Good s'
 vw:∀j cs c,Vw s' j cs c↔Vw s j cs c
 fr:∃m,s'.pl k=some (true,m)
 kept:Kept s s' k
 ls:s'.ls=s.ls
 al:all s'=all s
theorem oE (G:Good s) (h:FE s k s'):J2 s k s':=by
 cases h with
 |here I=>exact⟨yV G I,λ_ _ _=>Iff.rfl,⟨_,I⟩,⟨λ_ _ _ _=>Iff.rfl,λ_=>rfl,λh=>⟨h,λ_ _ _ e=>e⟩⟩,rfl,rfl⟩
 | @away n cs c _ I J hb =>
  have GR:=jC G I;have U:=G.rg _ _ I;have Y:=G.vw J;have B:=Dy GR (show dr s.pl k none k=none from bp) U.1 U.2 Y.1 Y.2 hb;have e3:(s.ow false)[n]?=some c:=by
   obtain⟨x1,x2,S,y2,y3⟩:=J;rw[I]at S;cases S;exact y3
  refine⟨B.good,?_,B.fr,⟨?_,?_,?_⟩,B.ls,?_⟩
  .intro j O N;by_cases e:j=k
   .subst e;constructor
    .intro h;obtain⟨L,R⟩:=B.vw.one h;subst L;subst R;exact J
    .intro h;obtain⟨L,R⟩:=J.one h;subst L;subst R;exact B.vw
   .exact(B.kept.ot j O N e).trans (iu G I e)
  .intro j O N e;exact(B.kept.ot j O N e).trans (iu G I e)
  .intro b;exact(B.kept.ln b).trans (du b)
  .intro h;obtain⟨a1,a2⟩:=B.kept.fr h;have e0:(oj s k false n).ow true=s.ow true:=aW (f:=s.ow) (v:=(s.ow false).set n 0) (show true≠false by decide);exact⟨e0▸a1,λj m e hj=>a2 j m e ((aJ e).trans hj)⟩
  .rw[B.al,qL e3];omega
def next (s:PS):PS:={ s with ls:=s.ls+1 }
theorem oH (G:Good s):Good (next s):=⟨λk p h=>by have:=G.rg k p h;exact⟨this.1,by show k<=s.ls+1;omega⟩,G.va,G.inj,G.on,G.ln,G.nd,G.fi⟩
theorem eU (G:Good s):s.pl (s.ls+1)=none:=by
 cases h:s.pl (s.ls+1)with
 |none=>rfl
 |some p=>have:=G.rg _ _ h;omega
theorem kB (G:Good s) (J:0<=s.ls) (I:cs.length=8) (h:BI (next s) (s.ls+1) cs 1 s'):JK (next s) (s.ls+1) cs 1 s' :=
 Dy (oH G) (eU G) af (Lo _) (Lo _) I h
inductive Dq (s:PS) (k:Int):PS->Prop
 |more {b:Bool}{n:Nat}{cs:List Int}{c:Int}:s.pl k=some (b,n)->Vw s k cs c->1<c->Dq s k (cn s b n (c-1))
 |last {b:Bool}{n:Nat}{cs:List Int}:s.pl k=some (b,n)->Vw s k cs 1->Dq s k (oj s k b n)
theorem sQ (I:s.pl k=some (b,n)) (L:Vw s k cs c):(s.ow b)[n]?=some c:=by
 obtain⟨R,O,G,N,J⟩:=L;rw[I]at G;cases G;exact J
structure Ki (s:PS) (k:Int) (c:Int) (s':PS):Prop where
 good:Good s'
 ot:∀j cs' c',j≠k->(Vw s' j cs' c'↔Vw s j cs' c')
 me:∀cs' c',Vw s' k cs' c'↔(1<c/\c'=c-1/\Vw s k cs' c)
 pl:∀j,j≠k->s'.pl j=s.pl j
 ln:∀b,(s'.ow b).length=(s.ow b).length
 ls:s'.ls=s.ls
 al:all s'=all s-1
 kept:1<c->Kept s s' k
theorem wF (G:Good s) (N:Vw s k cs c) (h:Dq s k s'):Ki s k c s':=by
 cases h with
 | @more b n ab c1 I U hc =>
  obtain⟨J,O⟩:=N.one U;subst J;subst O;have Y:=sQ I N;refine⟨jG G I af,λj S R L=>dq G I L,?_,λ_ _=>rfl,λb=>du b,rfl,?_,?_⟩
  .intro S R;have W:=jg (c:=c1-1) G I N;constructor
   .intro h;obtain⟨J,O⟩:=W.one h;subst J;subst O;exact⟨hc,rfl,N⟩
   .rintro⟨_,q,h⟩;obtain⟨J,O⟩:=N.one h;subst J;subst q;exact W
  .rw[kS Y];omega
  .intro _;refine⟨λj S R L=>dq G I L,λb=>du b,λh=>⟨?_,λ_ _ _ e=>e⟩⟩;have h:(0:Int)∈upd s.ow b ((s.ow b).set n (c1-1)) true:=h;by_cases e:true=b
   .subst e;rw[ae]at h;exact Bo af h
   .rw[aW e]at h;exact h
 | @last b n ab I U =>
  obtain⟨J,O⟩:=N.one U;subst J;subst O;have Y:=sQ I N;refine⟨jC G I,λj S R L=>iu G I L,?_,λ_ L=>aJ L,λb=>du b,rfl,?_,λh=>absurd h av⟩
  .intro S R;constructor
   .rintro⟨x1,x2,y1,_,_⟩;have y9:(none:Option (Bool×Nat))=some (x1,x2):=(by rw[<-y1];exact bp.symm);cases y9
   .rintro⟨q,_,_⟩;exact absurd q av
  .rw[qL Y]
theorem AS (G:Good s) (I:s.pl k=some (b,n)) (J:Vw s k cs c):Good (cn s b n (c+1))/\Vw (cn s b n (c+1)) k cs (c+1)/\all (cn s b n (c+1))=all s+1:=by
 have:=G.vw J;refine⟨jG G I af,jg G I J,?_⟩;rw[kS (sQ I J)];omega
end
end Pg
namespace Pg
abbrev Ent:=Option Int
def full (es:List Ent):Int:=(es.countP (·.isSome):Nat)
structure RI (s:PS) (es:List Ent):Prop where
 good:Good s
 l0:0<=s.ls
 ne:s.ow true≠[]
 is:∀k,some k∈es->∃cs c,Vw s k cs c
 ct:∀k cs c,Vw s k cs c->c=(es.count (some k):Nat)
 al:all s=full es
 rm:es.length<=(s.ow true).length+(s.ow false).length
section
variable {s s':PS}{es r:List Ent}{k:Int}{cs:List Int}{c:Int}
theorem RI.perm {G:List Ent}(R:RI s es) (p:es.Perm G):RI s G :=
 ⟨R.good,R.l0,R.ne,λk h=>R.is k (p.mem_iff.mpr h),λk cs c h=>by rw[<-p.count_eq];exact R.ct k cs c h,by rw[R.al];unfold full;rw[p.countP_eq],by rw[<-p.length_eq];exact R.rm⟩
theorem iC:full (none::es)=full es:=by unfold full;rw[List.countP_cons_of_neg (by simp)]
theorem gi:full (some k::es)=full es+1:=by unfold full;rw[List.countP_cons_of_pos (by simp)];simp
theorem xt:full es<=es.length:=by unfold full;exact_mod_cast List.countP_le_length
theorem iT {j:Int}:(none::es).count (some j)=es.count (some j):=Qa (by simp)
theorem dw:(some k::es).count (some k)=es.count (some k)+1:=List.count_cons_self
theorem eD {j:Int}(h:j≠k):(some k::es).count (some j)=es.count (some j):=Qa (by simpa using qw h)
theorem RI.lay (R:RI s es) (h:es.length<(s.ow true).length+(s.ow false).length):RI s (none::es):=
 ⟨R.good,R.l0,R.ne,λk h=>R.is k (by simpa using h),λk cs c h=>by rw[iT];exact R.ct k cs c h,by rw[iC];exact R.al,h⟩
theorem RI.bare (R:RI s (none::es)):RI s es :=
 ⟨R.good,R.l0,R.ne,λk h=>R.is k (by simpa using h),λk cs c h=>by rw[<-iT];exact R.ct k cs c h,by rw[<-iC];exact R.al,OV R.rm⟩
theorem RI.leave (R:RI s (some k::es)) (N:Vw s k cs c) (h:Dq s k s'):RI s' es:=by
 have L:=wF R.good N h;have S:=R.ct _ _ _ N;rw[dw]at S;refine⟨L.good,by rw[L.ls];exact R.l0,?_,?_,?_,?_,?_⟩
 .intro e;have:=L.ln true;rw[e]at this;exact R.ne (K8.mp this.symm)
 .intro j J;by_cases e:j=k
  .subst e;have:0<es.count (some j):=LR.mpr J;exact⟨cs,c-1,(L.me cs (c-1)).mpr ⟨af,rfl,N⟩⟩
  .obtain⟨G,I,q⟩:=R.is j (KD _ J);exact⟨G,I,(L.ot j G I e).mpr q⟩
 .intro j G I J;by_cases e:j=k
  .subst e;obtain⟨U,q2,Y⟩:=(L.me G I).mp J;omega
  .rw[<-eD e];exact R.ct j G I ((L.ot j G I e).mp J)
 .have O:=R.al;rw[gi]at O;rw[L.al,O];omega
 .rw[L.ln,L.ln];exact OV R.rm
theorem RI.share {b:Bool}{n:Nat}(R:RI s es) (I:s.pl k=some (b,n)) (N:Vw s k cs c) (h:es.length<(s.ow true).length+(s.ow false).length):RI (cn s b n (c+1)) (some k::es):=by
 obtain⟨g,v,a⟩:=AS R.good I N;have O:=R.ct _ _ _ N;refine⟨g,R.l0,?_,?_,?_,?_,?_⟩
 .intro e;have:=du (f:=s.ow) (b:=b) (n:=n) (x:=c+1) true;have e:upd s.ow b ((s.ow b).set n (c+1)) true=[]:=e;rw[e]at this;exact R.ne (K8.mp this.symm)
 .intro j G;by_cases e:j=k
  .subst e;exact⟨cs,c+1,v⟩
  .obtain⟨L,J,q⟩:=R.is j (by simpa[e]using G);exact⟨L,J,(dq R.good I e).mpr q⟩
 .intro j L J G;by_cases e:j=k
  .subst e;obtain⟨_,q⟩:=v.one G;rw[dw];omega
  .rw[eD e];exact R.ct j L J ((dq R.good I e).mp G)
 .rw[a,gi,R.al]
 .show es.length+1<=(upd s.ow b _ true).length+(upd s.ow b _ false).length;rw[du,du];exact h
theorem RI.Dz (R:RI s es) (h:FE s k s'):RI s' es:=by
 have F:=oE R.good h;refine⟨F.good,by rw[F.ls];exact R.l0,?_,?_,?_,by rw[F.al];exact R.al,by rw[F.kept.ln,F.kept.ln];exact R.rm⟩
 .intro e;have:=F.kept.ln true;rw[e]at this;exact R.ne (K8.mp this.symm)
 .intro j G;obtain⟨cs,c,q⟩:=R.is j G;exact⟨cs,c,(F.vw j cs c).mpr q⟩
 .intro j cs c G;exact R.ct j cs c ((F.vw j cs c).mp G)
theorem RI.fill (R:RI s (none::r)) (S:cs.length=8) (h:BI (next s) (s.ls+1) cs 1 s'):RI s' (some (s.ls+1)::r):=by
 have B:=kB R.good R.l0 S h;have O:r.count (some (s.ls+1))=0:=by
  apply PZ;intro q;obtain⟨G,I,Y,U,L,_⟩:=R.is _ (KD _ (LR.mp q));rw[eU R.good]at L;cases L
 refine⟨B.good,by rw[B.ls];show 0<=s.ls+1;have:=R.l0;omega,?_,?_,?_,?_,?_⟩
 .intro e;have:=B.kept.ln true;rw[e]at this;exact R.ne (K8.mp this.symm)
 .intro j J;by_cases e:j=s.ls+1
  .subst e;exact⟨cs,1,B.vw⟩
  .obtain⟨G,I,q⟩:=R.is j (by simpa[e]using J);exact⟨G,I,(B.kept.ot j G I e).mpr q⟩
 .intro j G I J;by_cases e:j=s.ls+1
  .subst e;obtain⟨_,q⟩:=B.vw.one J;rw[dw,O,q];rfl
  .rw[eD e, <-iT];exact R.ct j G I ((B.kept.ot j G I e).mp J)
 .have N:=R.al;rw[iC]at N;rw[B.al,gi, <-N];rfl
 .rw[B.kept.ln,B.kept.ln];exact R.rm
theorem ju {l:List Int}(h:∀x∈l,1<=x):(l.length:Int)<=l.sum:=by
 induction l with
 |nil=>exact Lo _
 |cons a l G =>
  have h1:=h a KW;have h2:=G λx I=>h x (KD _ I);rw[MJ,Kp];omega
theorem Good.pos (G:Good s) {b:Bool}(h:¬ (0:Int)∈s.ow b):∀x∈s.ow b,1<=x:=by
 intro x J;obtain⟨n,L⟩:=Oa J;rcases G.on _ _ _ L with e|⟨j,e⟩
 .exact absurd (e▸J) h
 .obtain⟨cs,c,_,I,N,_⟩:=G.va _ _ _ e;rw[L]at I;cases I;exact N
theorem RI.room (R:RI s (none::r)):(0:Int)∈s.ow true\/(0:Int)∈s.ow false:=by
 by_cases h1:(0:Int)∈s.ow true
 .exact .inl h1
 .by_cases h2:(0:Int)∈s.ow false
  .exact .inr h2
  .exfalso;have N:=ju (R.good.pos h1);have J:=ju (R.good.pos h2);have G:=R.al;rw[iC]at G;have L:=xt (es:=r);have I:=R.rm;rw[Kp]at I;unfold all at G;omega
theorem tT {l:List Int}(h:∀x∈l,1<=x) {n:Nat}{c:Int}(G:l[n]?=some c):(l.length:Int)+c-1<=l.sum:=by
 induction l generalizing n with
 |nil=>cases G
 |cons a l I =>
  have h2:∀x∈l,1<=x:=λx J=>h x (KD _ J);have h1:=h a KW;cases n with
  |zero =>
   cases G;have:=ju h2;rw[MJ,Kp];omega
  |succ n =>
   have:=I h2 (show l[n]?=some c from G);rw[MJ,Kp];omega
theorem RI.GZ (R:RI s es) (I:Vw s k cs c) (U:1<c):(0:Int)∈s.ow true\/(0:Int)∈s.ow false:=by
 by_cases h1:(0:Int)∈s.ow true
 .exact .inl h1
 .by_cases h2:(0:Int)∈s.ow false
  .exact .inr h2
  .exfalso;have S:=ju (R.good.pos h1);have O:=ju (R.good.pos h2);have J:=R.al;have L:=xt (es:=es);have N:=R.rm;unfold all at J;obtain⟨b,n,_,_,G⟩:=I;cases b
   .have:=tT (R.good.pos h2) G;omega
   .have:=tT (R.good.pos h1) G;omega
end
end Pg
namespace Pg
def yi (s:PS) (e:Ent) (cs:List Int):Prop:=match e with
 |none=>cs=replicate 8 0
 |some k=>∃c,Vw s k cs c
def bg (es:List Ent) (s s':PS):Prop:=∀e∈es,∀cs,yi s e cs->yi s' e cs
theorem bg.refl {es:List Ent}{s:PS}:bg es s s:=λ_ _ _ h=>h
section
variable {s s':PS}{es r:List Ent}{k:Int}{cs:List Int}{c:Int}
theorem RI.vN (R:RI s (some k::es)) (G:Vw s k cs c) (h:Dq s k s'):bg es s s':=by
 have L:=wF R.good G h;have U:=R.ct _ _ _ G;rw[dw]at U;intro e O Y q;cases e with
 |none=>exact q
 |some j =>
  obtain⟨I,q⟩:=q;by_cases J:j=k
  .subst J;obtain⟨N,S⟩:=G.one q;subst N;subst S;have:0<es.count (some j):=LR.mpr O;exact⟨I-1,(L.me _ _).mpr ⟨af,rfl,G⟩⟩
  .exact⟨I,(L.ot j _ _ J).mpr q⟩
theorem vW {b:Bool}{n:Nat}(G:Good s) (I:s.pl k=some (b,n)) (J:Vw s k cs c):bg es s (cn s b n (c+1)):=by
 intro e S R q;cases e with
 |none=>exact q
 |some j =>
  obtain⟨O,q⟩:=q;by_cases L:j=k
  .subst L;obtain⟨N,U⟩:=J.one q;subst N;exact⟨c+1,jg G I J⟩
  .exact⟨O,(dq G I L).mpr q⟩
theorem wc (G:Good s) (h:FE s k s'):bg es s s':=by
 intro e L J q;cases e with
 |none=>exact q
 |some j =>
  obtain⟨I,q⟩:=q;exact⟨I,((oE G h).vw _ _ _).mpr q⟩
theorem RI.yH (R:RI s (none::r)) (L:cs.length=8) (h:BI (next s) (s.ls+1) cs 1 s'):bg r s s':=by
 have B:=kB R.good R.l0 L h;intro e O N q;cases e with
 |none=>exact q
 |some j =>
  obtain⟨J,q⟩:=q;have I:j≠s.ls+1:=by
   intro e;obtain⟨U,S,G,_⟩:=q;rw[e,eU R.good]at G;cases G
  exact⟨J,(B.kept.ot _ _ _ I).mpr q⟩
theorem RI.part {s1 I:PS}{ac:List Int}{U:Int}(R:RI s (some k::r)) (hv:Vw s k ac U) (hc:1<U) (h4:cs.length=8) (hB:BI (next s) (s.ls+1) cs 1 s1) (hL:Dq s1 k I) :
  RI I (some (s.ls+1)::r)/\bg r s I/\yi I (some (s.ls+1)) cs/\(∃m,I.pl (s.ls+1)=some (true,m))/\I.ls=s.ls+1 /\
  ((0:Int)∈I.ow true->(0:Int)∈s.ow true/\∀j m,s.pl j=some (true,m)->I.pl j=some (true,m))/\(∀b,(I.ow b).length=(s.ow b).length):=by
 have B:=kB R.good R.l0 h4 hB;have nn:=eU R.good;have kn:k≠s.ls+1:=by
  intro e;obtain⟨x1,x2,J,_⟩:=hv;rw[e,nn]at J;cases J
 have ab:Vw s1 k ac U:=(B.kept.ot _ _ _ kn).mpr hv;have L:=wF B.good ab hL;have K:=L.kept hc;have am:=R.ct _ _ _ hv;rw[dw]at am;have no:r.count (some (s.ls+1))=0:=by
  apply PZ;intro q;obtain⟨S,O,x1,x2,J,_⟩:=R.is _ (KD _ (LR.mp q));rw[nn]at J;cases J
 have vn:Vw I (s.ls+1) cs 1:=(L.ot _ _ _ (qw kn)).mpr B.vw;have Y:∀b,(I.ow b).length=(s.ow b).length:=λb=>(L.ln b).trans (B.kept.ln b);refine⟨⟨L.good,?_,?_,?_,?_,?_,?_⟩,?_,⟨1,vn⟩,?_,?_,?_,Y⟩
 .rw[L.ls,B.ls];show 0<=s.ls+1;have:=R.l0;omega
 .intro e;have:=Y true;rw[e]at this;exact R.ne (K8.mp this.symm)
 .intro j N;by_cases e:j=s.ls+1
  .subst e;exact⟨cs,1,vn⟩
  .have N:some j∈r:=(by simpa[e]using N);by_cases G:j=k
   .subst G;exact⟨ac,U-1,(L.me _ _).mpr ⟨hc,rfl,ab⟩⟩
   .obtain⟨S,O,q⟩:=R.is j (KD _ N);exact⟨S,O,(L.ot _ _ _ G).mpr ((B.kept.ot _ _ _ e).mpr q)⟩
 .intro j S O N;by_cases e:j=s.ls+1
  .subst e;obtain⟨_,q⟩:=vn.one N;rw[dw,no,q];rfl
  .rw[eD e];by_cases G:j=k
   .subst G;obtain⟨q1,q2,q3⟩:=(L.me _ _).mp N;omega
   .rw[<-eD G];exact R.ct j S O ((B.kept.ot _ _ _ e).mp ((L.ot _ _ _ G).mp N))
 .have h9:=R.al;rw[gi]at h9;rw[L.al,B.al,gi, <-h9];show all s+1-1=all s;omega
 .rw[Y,Y];exact R.rm
 .intro e he S q;cases e with
  |none=>exact q
  |some j =>
   obtain⟨O,q⟩:=q;have ej:j≠s.ls+1:=by
    intro e;obtain⟨x1,x2,J,_⟩:=q;rw[e,nn]at J;cases J
   by_cases G:j=k
   .subst G;obtain⟨q1,q2⟩:=hv.one q;subst q1;exact⟨U-1,(L.me _ _).mpr ⟨hc,rfl,ab⟩⟩
   .exact⟨O,(L.ot _ _ _ G).mpr ((B.kept.ot _ _ _ ej).mpr q)⟩
 .obtain⟨m,hm⟩:=B.fr;exact⟨m,(L.pl _ (qw kn)).trans hm⟩
 .rw[L.ls,B.ls];rfl
 .intro h;obtain⟨a1,a2⟩:=K.fr h;obtain⟨b1,b2⟩:=B.kept.fr a1;refine⟨b1,?_⟩;intro j m e;have ej:j≠s.ls+1:=(by intro q;rw[q,nn]at e;cases e);have e1:=b2 j m ej e;by_cases G:j=k
  .subst G;cases hL with
   |more hk ai ap=>exact e1
   |last hk ai =>
    have:=(ab.one ai).2;omega
  .exact a2 j m G e1
theorem RI.write {I:PS}{m:Nat}(R:RI s (some k::r)) {U:List Int}(hv:Vw s k U 1) (h4:cs.length=8) (Y:FE s k I) (J:I.pl k=some (true,m)) :
  RI (write I true m cs) (some k::r)/\bg r s (write I true m cs)/\yi (write I true m cs) (some k) cs:=by
 have F:=oE R.good Y;have G:=R.Dz Y;have ab:Vw I k U 1:=(F.vw _ _ _).mpr hv;have ac:=R.ct _ _ _ hv;rw[dw]at ac;have no:¬ some k∈r:=λh=>(by have:0<r.count (some k):=LR.mpr h;omega);have S:=Ag (cs:=cs) G.good J ab;refine⟨⟨vc G.good J h4,G.l0,G.ne,?_,?_,G.al,G.rm⟩,?_,⟨1,S⟩⟩
 .intro j N;by_cases e:j=k
  .subst e;exact⟨cs,1,S⟩
  .obtain⟨O,L,q⟩:=G.is j N;exact⟨O,L,(iq G.good J e).mpr q⟩
 .intro j O L N;by_cases e:j=k
  .subst e;obtain⟨_,q⟩:=S.one N;rw[q];exact G.ct _ _ _ ab
  .exact G.ct j O L ((iq G.good J e).mp N)
 .intro e he O q;cases e with
  |none=>exact q
  |some j =>
   obtain⟨L,q⟩:=q;have ek:j≠k:=λe=>no (e▸he);exact⟨L,(iq G.good J ek).mpr ((F.vw _ _ _).mpr q)⟩
end
end Pg
namespace St
open PySem L2
abbrev Bh:KO:=top 12
abbrev rC:KO:=top 13
section
variable {P:ti}{w:Kl}{K:Kq}{mg:Str->Option Value}{base:Heap}
theorem aQ.keep {C p ow co:Addr}{M:Addr->Prop}{os:List Int}{pg:List (Option (List Int))}{H H':Hp}(S:aQ C H M p ow co os pg) (h:Off (λ_=>False) H H'):aQ C H' M p ow co os pg:=by
 obtain⟨⟨dx,h1⟩,G,cs,I,J⟩:=S;exact⟨⟨dx,h _ _ h1 id⟩,h _ _ G id,cs,h _ _ I id,iw h (λ_ z=>z.elim) J⟩
theorem cJ {H:Hp}{l:Addr}{o:HO}(h:H l=none):Off (λ_=>False) H (upd H l o):=by
 intro b o' e _;rw[ah (λz=>by rw[z,h]at e;cases e)];exact e
theorem fm {os:List Int}{n:Nat}{x:Int}(h:n<os.length):dW (os.set n x) n=x:=by
 unfold dW;rw[Tg (by rw[K9];omega)];simp[h]
theorem eO {os:List Int}{n:Nat}{x:Int}(h:os[n]?=some x):dW os n=x:=by
 obtain⟨h1,h2⟩:=j1.mp h;unfold dW;rw[Tg af];simp[h1,h2]
theorem Cy {os:List Int}{n:Nat}{x:Int}(h:os[n]?=some x):os.set n x=os:=by
 obtain⟨h1,h2⟩:=j1.mp h;rw[<-h2];exact List.set_getElem_self h1
inductive qH (C:Addr) (vs:List V) (H:Hp) (Q:VK) (e3:XK):Prop
 |mk (p ow co:Addr) (M:Addr->Prop) (os:List Int) (pg:List (Option (List Int))) (n:Nat) (ns:List Int) (c:Nat) (_:vs=[.ref p,.int n]) (_:aQ C H M p ow co os pg) (_:M ow) (_:M co) (_:(∀b,M b->H b≠none)) (_:ow≠co) (_:os.length<=60) (_:os[n]?=some (c:Int)) (_:1<=c) (_:c<=1000) (_:pg[n]?=some (some ns)) (_:∀(H':Hp) (t l:Addr),H t=none->H' t=some (.tup [.ref l,.int c])->¬ M l->H' l=some (.lst (ns.map V.int))->aQ C H' M p ow co (os.set n 0) pg->Off (λb=>b=ow\/b=co) H H'->Q (.ref t) H'):qH C vs H Q e3
theorem Hs:aD ["store","n","moved"] ["store","n"] (aw Bh):=L2.bD
theorem Cp {f C:Addr}{fd:rn}(F:cD K "lift" "lift" Bh f fd) (T:Txt K mg C) (GE:Md P w K mg base aS 3 C "cells" (lE C)) (GC:Md P w K mg base aS 1 C "count" (gx C)) (GL:Md P w K mg base aS 3 C "less" (rh C)) :
  aZ P w K mg base aS 4 f fd ["store","n"] (qH C):=by
 refine F.dg Hs (λa0 A outer s H vs Q E R h=>?_);obtain⟨p,ow,co,M,os,pg,n,ns,c,rfl,S,mw,mc,mt,ap,O,U,c1,c2,hg,k⟩:=h;obtain⟨⟨dx,h1⟩,hw,cs,aT,hp⟩:=id S;obtain⟨nl,_⟩:=j1.mp U;have hc:dW os n≠0:=(by rw[eO U];omega);refine⟨_,(ag (dA 2 Hs.nd (cO (aa (pm (pv 0) T.cl GE R az (aa (pv 1) aj)) (aa (pm (pv 0) T.cl GC R az (aa (pv 1) aj)) aj))))
  (ag (r9 Kt (aE ij (pm (pv 0) T.cl GC R az (aa (pv 1) aj)) ak (aI _)) (ao (aL (pm (pv 0) T.cl GL R az (aa (pv 1) aj)))))
  (ao (aG (pv 2))))),?_⟩
 refine⟨_,rfl,p,dx,_,rfl,h1,aX _ _ aq aq,_,rfl,p,ow,co,M,os,pg,n,ns,rfl,S,O,hc,hg,?_⟩;intro l Y;have N:=S.keep (cJ (o:=.lst (ns.map V.int)) Y);have as:upd H l (.lst (ns.map V.int)) l=some (.lst (ns.map V.int)):=ae;have O1:Off (λb=>b=ow\/b=co) H (upd H l (.lst (ns.map V.int))):=λb o e _=>cJ Y b o e id;generalize upd H l (.lst (ns.map V.int))=H1 at *;obtain⟨am,ai⟩:=N.ob;refine⟨_,rfl,p,am,_,rfl,ai,aX _ _ aq aq,_,rfl,p,ow,co,M,os,pg,n,rfl,N,O,?_⟩;rw[eO U];refine⟨fE,λt G=>?_⟩;have S2:=N.keep (cJ (o:=.tup [.ref l,.int c]) G);have ht:upd H1 t (.tup [.ref l,.int c]) t=some (.tup [.ref l,.int c]):=ae;have aB:upd H1 t (.tup [.ref l,.int c]) l=some (.lst (ns.map V.int)):=cJ G l _ as id;have O2:Off (λb=>b=ow\/b=co) H (upd H1 t (.tup [.ref l,.int c])):=λb o e z=>cJ G b o (O1 b o e z) id;have nM:¬ M l:=λz=>mt l z Y;have fH:H t=none:=by
  cases e:H t with
  |none=>rfl
  |some o =>
   exfalso;by_cases z:t=ow\/t=co
   .rcases z with z|z
    .subst z;rw[N.hw]at G;cases G
    .subst z;obtain⟨_,q,_⟩:=N.hc;rw[q]at G;cases G
   .rw[O1 t o e z]at G;cases G
 generalize upd H1 t (.tup [.ref l,.int c])=H2 at *;refine⟨λm σ L=>∃c':Nat,m=c'/\σ=[some (.ref p),some (.int n),some (.ref t)]/\aQ C L M p ow co (os.set n c') pg/\L t=some (.tup [.ref l,.int c])/\L l=some (.lst (ns.map V.int))/\Off (λb=>b=ow\/b=co) H L,
  ⟨c,c,rfl,rfl,by rw[Cy U];exact S2,ht,aB,O2⟩,?_⟩
 rintro m σ L ⟨c',rfl,rfl,I,J,l3,O3⟩;obtain⟨ac,h3⟩:=I.ob;refine⟨_,rfl,p,ac,_,rfl,h3,aX _ _ aq aq,_,rfl,p,ow,co,M,_,pg,n,rfl,I,by rw[K9];exact O,?_⟩;rw[fm nl];refine⟨_,_,rfl,rfl,_,rfl,?_⟩;by_cases z:(0:Int)<m
 .rw[decide_eq_true z];refine⟨λab H'=>ab=[some (.ref p),some (.int n),some (.ref t)]/\aQ C H' M p ow co (os.set n (m-1:Nat)) pg/\H' t=some (.tup [.ref l,.int c])/\H' l=some (.lst (ns.map V.int))/\Off (λb=>b=ow\/b=co) H H',?_,?_⟩
  .rintro ab H' ⟨a1,a2,a3,a4,a5⟩;exact⟨m-1,af,m-1,rfl,a1,a2,a3,a4,a5⟩
  .refine⟨_,rfl,p,ac,_,rfl,h3,aX _ _ aq aq,_,rfl,p,ow,co,M,_,pg,n,rfl,I,mw,mc,ap,by rw[K9];exact O,by rw[fm nl];omega,?_⟩;intro H4 S4 O4;rw[fm nl,show(n:Int).toNat=n from L1 n,Ra]at S4;refine⟨rfl,?_,?_,?_,?_⟩
   .have e:((m-1:Nat):Int)=(m:Int)-1:=af;rw[e];exact S4
   .refine O4 _ _ J λq=>?_;rcases q with q|q
    .subst q;rw[I.hw]at J;cases J
    .subst q;obtain⟨_,y,_⟩:=I.hc;rw[y]at J;cases J
   .refine O4 _ _ l3 λq=>?_;rcases q with q|q
    .exact nM (q▸mw)
    .exact nM (q▸mc)
   .intro b o e q;exact O4 b o (O3 b o e q) q
 .rw[decide_eq_false z];have e:m=0:=af;subst e;exact⟨_,rfl,k L t l fH J nM l3 I O3⟩
theorem pC {C p ow co:Addr}{M:Addr->Prop}{os:List Int}{pg:List (Option (List Int))}{H H':Hp}(S:aQ C H' M p ow co os pg) (h:Off (λb=>b=ow\/b=co) H H') (mt:∀b,M b->H b≠none):∀b,M b->H' b≠none:=by
 intro b I e;by_cases z:b=ow\/b=co
 .rcases z with z|z
  .subst z;rw[S.hw]at e;cases e
  .subst z;obtain⟨_,q,_⟩:=S.hc;rw[q]at e;cases e
 .cases G:H b with
  |none=>exact mt b I G
  |some o=>rw[h b o G z]at e;cases e
inductive jq (C:Addr) (vs:List V) (H:Hp) (Q:VK) (e3:XK):Prop
 |mk (p ow co t l:Addr) (M:Addr->Prop) (os:List Int) (pg:List (Option (List Int))) (ns:List Int) (c:Nat) (_:vs=[.ref p,.ref t]) (_:aQ C H M p ow co os pg) (_:M ow) (_:M co) (_:(∀b,M b->H b≠none)) (_:ow≠co) (_:os.length=pg.length) (_:os.length<=60) (_:(0:Int)∈os) (_:H t=some (.tup [.ref l,.int c])) (_:H l=some (.lst (ns.map V.int))) (_:¬ M l) (_:1<=c) (_:c<=1000) (_:∀H':Hp,aQ C H' M p ow co (os.set (os.idxOf 0) c) (pg.set (os.idxOf 0) (some ns))->Off (λb=>b=ow\/b=co) H H'->Q (.int (os.idxOf 0:Nat)) H'):jq C vs H Q e3
theorem CZ:aD ["store","moved","n"] ["store","moved"] (aw rC):=L2.bD
theorem yX {f C:Addr}{fd:rn}(F:cD K "settle" "settle" rC f fd) (T:Txt K mg C) (GT:Md P w K mg base aS 1 C "take" (wa C)) (GP:Md P w K mg base aS 3 C "put" (xu K C)) (GC:Md P w K mg base aS 1 C "count" (gx C)) (GM:Md P w K mg base aS 3 C "more" (qx C)) :
  aZ P w K mg base aS 4 f fd ["store","moved"] (jq C):=by
 refine F.dg CZ (λa0 A outer s H vs Q E N h=>?_);obtain⟨p,ow,co,t,l,M,os,pg,ns,c,rfl,S,Y,mc,mt,ab,am,L,h0,I,aT,nM,c1,c2,k⟩:=h;obtain⟨dx,h1⟩:=S.ob;have U:os.idxOf 0<os.length:=LA.mpr h0;refine⟨_,(ag (dA 2 CZ.nd (qz (pv 0) T.cl GT N az))
  (ag (aL (pm (pv 0) T.cl GP N az (aa (pv 2) (aa (a9 bh (pv 1) ak cq) aj))))
  (ag (r9 Kt (aE gH (pm (pv 0) T.cl GC N az (aa (pv 2) aj)) (a9 bh (pv 1) ak cq) (aI _)) (ao (aL (pm (pv 0) T.cl GM N az (aa (pv 2) aj)))))
  (ao (aG (pv 2)))))),?_⟩
 refine⟨_,rfl,p,dx,_,rfl,h1,aX _ _ aq aq,p,ow,co,M,os,pg,rfl,S,Y,mc,mt,ab,am,L,λz=>absurd h0 z,λ_ H1 S1 O=>?_⟩;generalize os.idxOf 0=j at *;obtain⟨aB,as⟩:=S1.ob;have nt:¬ (t=ow\/t=co):=λq=>by
  rcases q with q|q
  .subst q;rw[S.hw]at I;cases I
  .subst q;obtain⟨_,y,_⟩:=S.hc;rw[y]at I;cases I
 have ap:¬ (l=ow\/l=co):=λq=>by
  rcases q with q|q
  .exact nM (q▸Y)
  .exact nM (q▸mc)
 have t1:=O _ _ I nt;have l1:=O _ _ aT ap;refine⟨_,rfl,p,aB,_,rfl,as,aX _ _ aq aq,_,rfl,_,rfl,t,_,0,_,rfl,rfl,bZ.of t1,rfl,p,ow,co,l,M,_,_,_,ns,rfl,S1,Y,mc,pC S1 O mt,ab,by rw[K9,K9];exact am,by rw[K9];exact L,by rw[fm U];decide,bq.of l1,?_⟩;intro H2 S2 O2;rw[show(j:Int).toNat=j from L1 j,Ra]at S2;refine⟨λm σ J=>∃G:Nat,m+G=c/\1<=G/\σ=[some (.ref p),some (.ref t),some (.int j)]/\aQ C J M p ow co (os.set j G) (pg.set j (some ns))/\J t=some (.tup [.ref l,.int c])/\Off (λb=>b=ow\/b=co) H J,
  ⟨c-1,1,af,sS _,rfl,S2,O2 _ _ t1 nt,λb o e q=>O2 b o (O b o e q) q⟩,?_⟩
 rintro m σ J ⟨G,em,p1,rfl,R,t3,O3⟩;obtain⟨ai,h3⟩:=R.ob;refine⟨_,rfl,p,ai,_,rfl,h3,aX _ _ aq aq,_,rfl,p,ow,co,M,_,_,j,rfl,R,by rw[K9];exact L,?_⟩;rw[fm U];refine⟨_,rfl,t,_,1,_,rfl,rfl,bZ.of t3,rfl,_,_,rfl,rfl,_,rfl,?_⟩;by_cases z:(G:Int)<c
 .rw[decide_eq_true z];refine⟨λac H'=>ac=[some (.ref p),some (.ref t),some (.int j)]/\aQ C H' M p ow co (os.set j (G+1:Nat)) (pg.set j (some ns))/\H' t=some (.tup [.ref l,.int c])/\Off (λb=>b=ow\/b=co) H H',?_,?_⟩
  .rintro ac H' ⟨a1,a2,a3,a4⟩;exact⟨m-1,af,G+1,af,af,a1,a2,a3,a4⟩
  .refine⟨_,rfl,p,ai,_,rfl,h3,aX _ _ aq aq,_,rfl,p,ow,co,M,_,_,j,rfl,R,Y,mc,ab,by rw[K9];exact L,by rw[fm U];omega,?_⟩;intro H4 S4 O4;rw[fm U,show(j:Int).toNat=j from L1 j,Ra]at S4;exact⟨rfl,S4,O4 _ _ t3 nt,λb o e q=>O4 b o (O3 b o e q) q⟩
 .rw[decide_eq_false z];have e:G=c:=af;subst e;exact⟨_,rfl,k J R O3⟩
end
structure PA where
 pg:Addr
 fp:Addr
 fo:Addr
 fc:Addr
 sp:Addr
 so:Addr
 sc:Addr
 pd:Addr
 il:Addr
def cH (A:PA) (n:Int):List (Str×V):=bj "in_frames" (.ref A.il) (bj "last_sheet" (.int n) (bj "places" (.ref A.pd) (bj "slots" (.ref A.sp) (bj "frames" (.ref A.fp) []))))
abbrev DW:=List (Int×Addr×Bool×Nat)
def rH (x:Addr×Bool×Nat):V:=.ref x.1
def jU (b:Bool) (n:Nat):List V:=[.str (if b=true then "frame" else "slot"),.int n]
structure bH (C CS:Addr) (H:Hp) (M:Addr->Prop) (A:PA) (s:Pg.PS):Prop where
 ob:∃dx,H A.pg=some (.ins C dx (cH A s.ls))
 fr:aQ CS H M A.fp A.fo A.fc (s.ow true) (s.co true)
 sl:aQ CS H M A.sp A.so A.sc (s.ow false) (s.co false)
 il:H A.il=some (.lst (s.inf.map V.int))
 le:∀b,(s.ow b).length<=60
 pd:∃l:DW,H A.pd=some (.dK (Tb.dk rH l))/\(l.map (·.1)).Nodup/\(∀x∈l,H x.2.1=some (.tup (jU x.2.2.1 x.2.2.2)))/\(∀k,(Tb.look l k).map (·.2)=s.pl k)/\l.length<=1000
structure nN (K:Kq) (mg:Str->Option Value) (C:Addr):Prop where
 cl:rG K C
 nF:cQ K C "frames"
 nS:cQ K C "slots"
 nP:cQ K C "places"
 nL:cQ K C "last_sheet"
 nI:cQ K C "in_frames"
 list:mg "list" = none
abbrev uT:KO:=inClass (top 14) 9
section
variable {P:ti}{w:Kl}{K:Kq}{mg:Str->Option Value}{base:Heap}
inductive iz (C CS:Addr) (vs:List V) (H:Hp) (Q:VK) (e3:XK):Prop
 |mk (M:Addr->Prop) (A:PA) (s:Pg.PS) (k:Int) (b:Bool) (n:Nat) (_:vs=[.ref A.pg,.int k]) (_:bH C CS H M A s) (_:s.pl k=some (b,n)) (_:∀t,H t=some (.tup (jU b n))->Q (.ref t) H):iz C CS vs H Q e3
theorem oS (A:PA) (n:Int):(cH A n).lookup ("places" : Str)=some (.ref A.pd):=by
 unfold cH;rw[aF,Tg aq,aF,Tg aq,aF,Th rfl]
theorem I0:aD ["self","sheet"] ["self","sheet"] (aw uT):=L2.bD
theorem Ar {f C CS:Addr}{fd:rn}(F:cD K "place" "Paging.place" uT f fd) (T:nN K mg C):aZ P w K mg base aS 1 f fd ["self","sheet"] (iz C CS):=by
 refine F.dg I0 (λab A outer s H vs Q E L h=>?_);obtain⟨M,I,s',k,b,n,rfl,G,S,q⟩:=h;obtain⟨dx,h1⟩:=G.ob;obtain⟨l,hd,nd,Y,U,_⟩:=G.pd;refine⟨_,(ag (aU (jd (fY (bf L) (pv 1) (aM (pv 0) rfl))) cN aH)
  (ao (aG (bt (bf L) (aM (pv 0) rfl) (pv 1) cq)))),?_⟩
 obtain⟨x,N,ex⟩:∃x,Tb.look l k=some x/\x.2=(b,n):=by
  have:=U k;rw[S]at this;exact vr.mp this
 have J:dC H I.pd (.int k) (some (rH x)):=by
  have R:=dC.k (k:=vu k) hd;rw[Tb.cI,N]at R;exact R
 have O:=Y _ (Tb.aC N);refine⟨_,rfl,_,rfl,I.pg,C,dx,_,_,rfl,h1,T.cl,T.nP,oS _ _,I.pd,_,rfl,J,_,rfl,?_⟩;refine bU ⟨_,rfl,I.pg,C,dx,_,_,rfl,h1,T.cl,T.nP,oS _ _,_,rfl,I.pd,rH x,rfl,J,q x.1 ?_⟩;rw[show x.2.1=b by rw[ex],show x.2.2=n by rw[ex]]at O;exact O
abbrev j0:KO:=inClass (top 14) 10
abbrev mE:KO:=inClass (top 14) 11
inductive de (C CS:Addr) (vs:List V) (H:Hp) (Q:VK) (e3:XK):Prop
 |mk (M:Addr->Prop) (A:PA) (s:Pg.PS) (k:Int) (b:Bool) (n:Nat) (_:vs=[.ref A.pg,.int k]) (_:bH C CS H M A s) (_:s.pl k=some (b,n)) (_:Q (.int n) H):de C CS vs H Q e3
def PA.st (A:PA) (b:Bool):Addr:=if b=true then A.fp else A.sp
inductive eS (C CS:Addr) (vs:List V) (H:Hp) (Q:VK) (e3:XK):Prop
 |mk (M:Addr->Prop) (A:PA) (s:Pg.PS) (k:Int) (b:Bool) (n:Nat) (_:vs=[.ref A.pg,.int k]) (_:bH C CS H M A s) (_:s.pl k=some (b,n)) (_:Q (.ref (A.st b)) H):eS C CS vs H Q e3
theorem cF (A:PA) (n:Int) {m:Str}(h1:¬ m = "in_frames") (h2:¬ m = "last_sheet") (J:¬ m = "places") (G:¬ m = "slots") (I:¬ m = "frames"):(cH A n).lookup m=none:=by
 unfold cH;rw[aF,Tg h1,aF,Tg h2,aF,Tg J,aF,Tg G,aF,Tg I]
 all_goals rfl
theorem mq (A:PA) (n:Int):(cH A n).lookup ("frames" : Str)=some (.ref A.fp):=by
 unfold cH;rw[aF,Tg aq,aF,Tg aq,aF,Tg aq,aF,Tg aq,aF,Th rfl]
theorem tu (A:PA) (n:Int):(cH A n).lookup ("slots" : Str)=some (.ref A.sp):=by
 unfold cH;rw[aF,Tg aq,aF,Tg aq,aF,Tg aq,aF,Th rfl]
theorem Ik:aD ["self","sheet"] ["self","sheet"] (aw j0):=L2.bD
theorem rQ {f C CS:Addr}{fd:rn}(F:cD K "number_of" "Paging.number_of" j0 f fd) (T:nN K mg C) (N:Md P w K mg base aS 1 C "place" (iz C CS)):aZ P w K mg base aS 2 f fd ["self","sheet"] (de C CS):=by
 refine F.dg Ik (λR A outer s H vs Q E O h=>?_);obtain⟨M,I,s',k,b,n,rfl,G,J,q⟩:=h;obtain⟨dx,h1⟩:=G.ob;refine⟨_,(ao (aG (a9 bh (pm (pv 0) T.cl N O az (aa (pv 1) aj)) ak cq))),?_⟩;refine⟨_,rfl,I.pg,dx,_,rfl,h1,cF _ _ aq aq aq aq aq,_,rfl,M,I,s',k,b,n,rfl,G,J,λt L=>?_⟩;exact⟨t,_,1,_,rfl,rfl,bZ.of L,rfl,q⟩
theorem Jm:aD ["self","sheet"] ["self","sheet"] (aw mE):=L2.bD
theorem vG {f C CS:Addr}{fd:rn}(F:cD K "store_of" "Paging.store_of" mE f fd) (T:nN K mg C) (N:Md P w K mg base aS 1 C "place" (iz C CS)):aZ P w K mg base aS 2 f fd ["self","sheet"] (eS C CS):=by
 refine F.dg Jm (λR A outer s H vs Q E O h=>?_);obtain⟨M,I,s',k,b,n,rfl,G,J,q⟩:=h;obtain⟨dx,h1⟩:=G.ob;refine⟨_,(ag (aU (aE bR (a9 bh (pm (pv 0) T.cl N O az (aa (pv 1) aj)) ak cq) aN (aI _)) (ao (aG (aM (pv 0) rfl))) aH)
  (ao (aG (aM (pv 0) rfl)))),?_⟩
 refine⟨_,rfl,I.pg,dx,_,rfl,h1,cF _ _ aq aq aq aq aq,_,rfl,M,I,s',k,b,n,rfl,G,J,λt L=>?_⟩;refine⟨t,_,0,_,rfl,rfl,bZ.of L,rfl,rfl,_,rfl,?_⟩;cases b with
 |true=>exact eI ⟨_,rfl,I.pg,C,dx,_,_,rfl,h1,T.cl,T.nF,mq _ _,q⟩
 |false=>exact bU ⟨_,rfl,I.pg,C,dx,_,_,rfl,h1,T.cl,T.nS,tu _ _,q⟩
abbrev pQ:KO:=inClass (top 14) 12
abbrev qQ:KO:=inClass (top 14) 4
def PA.ow (A:PA) (b:Bool):Addr:=if b=true then A.fo else A.so
def PA.co (A:PA) (b:Bool):Addr:=if b=true then A.fc else A.sc
theorem bH.st {C CS:Addr}{H:Hp}{M:Addr->Prop}{A:PA}{s:Pg.PS}(G:bH C CS H M A s) (b:Bool):aQ CS H M (A.st b) (A.ow b) (A.co b) (s.ow b) (s.co b):=by
 cases b
 .exact G.sl
 .exact G.fr
inductive lN (C CS:Addr) (vs:List V) (H:Hp) (Q:VK) (e3:XK):Prop
 |mk (M:Addr->Prop) (A:PA) (s:Pg.PS) (k:Int) (cs:List Int) (c:Int) (_:vs=[.ref A.pg,.int k]) (_:bH C CS H M A s) (_:Pg.Vw s k cs c) (_:Q (.int c) H):lN C CS vs H Q e3
inductive mS (C CS:Addr) (vs:List V) (H:Hp) (Q:VK) (e3:XK):Prop
 |mk (M:Addr->Prop) (A:PA) (s:Pg.PS) (k:Int) (cs:List Int) (c:Int) (_:vs=[.ref A.pg,.int k]) (_:bH C CS H M A s) (_:Pg.Vw s k cs c) (_:c≠0) (_:∀l,H l=none->Q (.ref l) (upd H l (.lst (cs.map V.int)))):mS C CS vs H Q e3
theorem Iv:aD ["self","sheet"] ["self","sheet"] (aw pQ):=L2.bD
theorem x8 {f C CS:Addr}{fd:rn}(F:cD K "count" "Paging.count" pQ f fd) (T:nN K mg C) (TS:Txt K mg CS) (U:Md P w K mg base aS 2 C "store_of" (eS C CS)) (Y:Md P w K mg base aS 2 C "number_of" (de C CS)) (O:Md P w K mg base aS 1 CS "count" (gx CS)):aZ P w K mg base aS 3 f fd ["self","sheet"] (lN C CS):=by
 refine F.dg Iv (λac A outer s H vs Q E J h=>?_);obtain⟨M,I,s',k,cs,c,rfl,G,⟨b,n,L,ab,R⟩,q⟩:=h;obtain⟨dx,h1⟩:=G.ob;have S:=G.st b;obtain⟨N,h2⟩:=S.ob;refine⟨_,(ao (aG (pm (pm (pv 0) T.cl U J az (aa (pv 1) aj)) TS.cl O J az (aa (pm (pv 0) T.cl Y J az (aa (pv 1) aj)) aj)))),?_⟩;refine⟨_,rfl,I.pg,dx,_,rfl,h1,cF _ _ aq aq aq aq aq,_,rfl,M,I,s',k,b,n,rfl,G,L,?_⟩;refine⟨_,N,_,rfl,h2,aX _ _ aq aq,?_⟩;refine⟨_,rfl,I.pg,dx,_,rfl,h1,cF _ _ aq aq aq aq aq,_,rfl,M,I,s',k,b,n,rfl,G,L,?_⟩;refine⟨_,_,_,M,_,_,n,rfl,S,G.le b,?_⟩;rw[eO R];exact q
theorem JF:aD ["self","sheet"] ["self","sheet"] (aw qQ):=L2.bD
theorem yP {f C CS:Addr}{fd:rn}(F:cD K "cells" "Paging.cells" qQ f fd) (T:nN K mg C) (TS:Txt K mg CS) (Y:Md P w K mg base aS 2 C "store_of" (eS C CS)) (ab:Md P w K mg base aS 2 C "number_of" (de C CS)) (GE:Md P w K mg base aS 3 CS "cells" (lE CS)):aZ P w K mg base aS 4 f fd ["self","sheet"] (mS C CS):=by
 refine F.dg JF (λac A outer s H vs Q E J h=>?_);obtain⟨M,I,s',k,cs,c,rfl,G,⟨b,n,L,O,R⟩,U,q⟩:=h;obtain⟨dx,h1⟩:=G.ob;have S:=G.st b;obtain⟨N,h2⟩:=S.ob;refine⟨_,(ao (aG (pm (pm (pv 0) T.cl Y J az (aa (pv 1) aj)) TS.cl GE J az (aa (pm (pv 0) T.cl ab J az (aa (pv 1) aj)) aj)))),?_⟩;refine⟨_,rfl,I.pg,dx,_,rfl,h1,cF _ _ aq aq aq aq aq,_,rfl,M,I,s',k,b,n,rfl,G,L,?_⟩;refine⟨_,N,_,rfl,h2,aX _ _ aq aq,?_⟩;refine⟨_,rfl,I.pg,dx,_,rfl,h1,cF _ _ aq aq aq aq aq,_,rfl,M,I,s',k,b,n,rfl,G,L,?_⟩;exact⟨_,_,_,M,_,_,n,cs,rfl,S,G.le b,by rw[eO R];exact U,by rw[show(n:Int).toNat=n from L1 n];exact O,q⟩
end
theorem aQ.off {C p ow co:Addr}{B M:Addr->Prop}{os:List Int}{pg:List (Option (List Int))}{H H':Hp}(S:aQ C H M p ow co os pg) (h:Off B H H') (N:∀b,B b->M b) (G:¬ B p) (L:¬ B ow) (O:¬ B co):aQ C H' M p ow co os pg:=by
 obtain⟨⟨dx,h1⟩,I,cs,J,R⟩:=S;exact⟨⟨dx,h _ _ h1 G⟩,h _ _ I L,cs,h _ _ J O,iw h N R⟩
structure PA.Ok (A:PA) (M:Addr->Prop):Prop where
 ds:[A.pg,A.fp,A.fo,A.fc,A.sp,A.so,A.sc,A.pd,A.il].Nodup
 mm:∀x∈[A.pg,A.fp,A.fo,A.fc,A.sp,A.so,A.sc,A.pd,A.il],M x
def PA.own (A:PA):Addr->Prop:=λb=>b∈[A.pg,A.fo,A.fc,A.so,A.sc,A.pd,A.il]
abbrev qc:KO:=inClass (top 14) 8
theorem pF {α:Type}{l:List α}(h:l.Nodup) (i j:Nat) {a b:α}(hi:l[i]?=some a) (L:l[j]?=some b) (J:i≠j):a≠b:=by
 obtain⟨h1,I⟩:=j1.mp hi;obtain⟨h2,G⟩:=j1.mp L;have q:=LL.mp h;rcases Nat.lt_or_gt_of_ne J with z|z
 .rw[<-I, <-G];exact q i j h1 h2 z
 .rw[<-I, <-G];exact qw (q j i h2 h1 z)
theorem gh {a b c:Addr}(h1:a≠b) (h2:a≠c):¬ (a=b\/a=c):=λz=>z.elim h1 h2
theorem FD {M:Addr->Prop}{a b:Addr}(h1:M a) (h2:M b):∀c,c=a\/c=b->M c:=λc z=>z.elim (λe=>by rw[e];exact h1) λe=>by rw[e];exact h2
theorem in1 {M:Addr->Prop}{a:Addr}(h1:M a):∀c,c=a->M c:=λc e=>by rw[e];exact h1
section
variable {A:PA}{M:Addr->Prop}
theorem PA.Ok.n (ok:A.Ok M) (i j:Nat) {a b:Addr}(hi:[A.pg,A.fp,A.fo,A.fc,A.sp,A.so,A.sc,A.pd,A.il][i]?=some a) (I:[A.pg,A.fp,A.fo,A.fc,A.sp,A.so,A.sc,A.pd,A.il][j]?=some b) (G:i≠j):a≠b:=pF ok.ds i j hi I G
theorem PA.Ok.m (ok:A.Ok M) (i:Nat) {a:Addr}(hi:[A.pg,A.fp,A.fo,A.fc,A.sp,A.so,A.sc,A.pd,A.il][i]?=some a):M a:=ok.mm a (DD hi)
theorem PA.fP (i:Nat) {a:Addr}(hi:[A.pg,A.fo,A.fc,A.so,A.sc,A.pd,A.il][i]?=some a):A.own a:=DD hi
theorem PA.Ok.own (ok:A.Ok M):∀b,A.own b->M b:=by
 intro b h;unfold PA.own at h;simp only[E3,Km,or_false]at h;rcases h with h|h|h|h|h|h|h<;>rw[h]
 .exact ok.m 0 rfl
 .exact ok.m 2 rfl
 .exact ok.m 3 rfl
 .exact ok.m 5 rfl
 .exact ok.m 6 rfl
 .exact ok.m 7 rfl
 .exact ok.m 8 rfl
theorem bH.alive {C CS:Addr}{H H':Hp}{s:Pg.PS}(G:bH C CS H' M A s) (o:Off A.own H H') (mt:∀b,M b->H b≠none):∀b,M b->H' b≠none:=by
 intro b O e;by_cases z:A.own b
 .unfold PA.own at z;simp only[E3,Km,or_false]at z;obtain⟨dx,h1⟩:=G.ob;obtain⟨_,J,_⟩:=G.fr.hc;obtain⟨_,N,_⟩:=G.sl.hc;obtain⟨l,L,_⟩:=G.pd;rcases z with z|z|z|z|z|z|z<;>rw[z]at e
  .rw[h1]at e;cases e
  .rw[G.fr.hw]at e;cases e
  .rw[J]at e;cases e
  .rw[G.sl.hw]at e;cases e
  .rw[N]at e;cases e
  .rw[L]at e;cases e
  .rw[G.il]at e;cases e
 .cases I:H b with
  |none=>exact mt b O I
  |some o'=>rw[o b o' I z]at e;cases e
theorem bH.keep {C CS:Addr}{H H':Hp}{s:Pg.PS}(G:bH C CS H M A s) (h:Off (λ_=>False) H H'):bH C CS H' M A s:=by
 obtain⟨dx,h1⟩:=G.ob;obtain⟨l,hd,J,L,I,N⟩:=G.pd;exact⟨⟨dx,h _ _ h1 id⟩,G.fr.keep h,G.sl.keep h,h _ _ G.il id,G.le,⟨l,h _ _ hd id,J,λx O=>h _ _ (L x O) id,I,N⟩⟩
theorem bH.mR {C CS:Addr}{H:Hp}{s:Pg.PS}(G:bH C CS H M A s) (ok:A.Ok M) (r:List Int):bH C CS (upd H A.il (.lst (r.map V.int))) M A { s with inf:=r }:=by
 have o:Off (· = A.il) H (upd H A.il (.lst (r.map V.int))):=λb o e z=>(by rw[ah z];exact e);obtain⟨dx,h1⟩:=G.ob;obtain⟨l,hd,O,I,N,L⟩:=G.pd;exact⟨⟨dx,o _ _ h1 (ok.n 0 8 rfl rfl av)⟩,G.fr.off o (in1 (ok.m 8 rfl)) (ok.n 1 8 rfl rfl av) (ok.n 2 8 rfl rfl av) (ok.n 3 8 rfl rfl av),G.sl.off o (in1 (ok.m 8 rfl)) (ok.n 4 8 rfl rfl av) (ok.n 5 8 rfl rfl av) (ok.n 6 8 rfl rfl av),ae,G.le,
  ⟨l,o _ _ hd (ok.n 7 8 rfl rfl av),O,λx J=>o _ _ (I x J) (cE (I x J) G.il (by intro z;cases z)),N,L⟩⟩
theorem bH.ER {C CS:Addr}{H:Hp}{s s':Pg.PS}(G:bH C CS H M A s) (I:s'.ow=s.ow) (J:s'.co=s.co) (R:s'.ls=s.ls) (O:s'.inf=s.inf) (N:∀j,s'.pl j=s.pl j):bH C CS H M A s':=by
 obtain⟨l,hd,S,U,L,Y⟩:=G.pd;exact⟨by rw[R];exact G.ob,by rw[I,J];exact G.fr,by rw[I,J];exact G.sl,by rw[O];exact G.il,by rw[I];exact G.le,⟨l,hd,S,U,λj=>by rw[N];exact L j,Y⟩⟩
theorem BK {H:Hp}{l:DW}{f:Int->Option (Bool×Nat)}{k:Int}{t:Addr}{b:Bool}{n:Nat}(O:(l.map (·.1)).Nodup) (L:∀x∈l,H x.2.1=some (.tup (jU x.2.2.1 x.2.2.2))) (N:∀j,(Tb.look l j).map (·.2)=f j) (U:l.length<=999\/(f k≠none/\l.length<=1000)) (R:H t=some (.tup (jU b n))) :
  ∃G:DW,putK (Tb.dk rH l) (vu k) (.ref t)=Tb.dk rH G/\(G.map (·.1)).Nodup/\(∀x∈G,H x.2.1=some (.tup (jU x.2.2.1 x.2.2.2)))/\(∀j,(Tb.look G j).map (·.2)=Pg.dr f k (some (b,n)) j)/\G.length<=1000:=by
 have J:∀G:DW,(∀j,Tb.look G j=if j=k then some (t,b,n)else Tb.look l j)->∀j,(Tb.look G j).map (·.2)=Pg.dr f k (some (b,n)) j:=by
  intro G h j;rw[h j];by_cases e:j=k
  .rw[Th e,e,Pg.bp];rfl
  .rw[Tg e,Pg.aJ e];exact N j
 cases e:Tb.look l k with
 |none =>
  have S:f k=none:=(by rw[<-N k,e];rfl);refine⟨l++[(k,(t,b,n))],Tb.cw (f:=rH) (a:=(t,b,n)) e,?_,λx I=>?_,J _ λj=>Tb.bF j e,?_⟩
  .rw[Kr];exact gy O (Tb.bV e)
  .rcases pa.mp I with I|I
   .exact L x I
   .rw[kQ.mp I];exact R
  .rw[E2,Lr];rcases U with h|h
   .omega
   .exact absurd S h.1
 |some y =>
  refine⟨Tb.aY l k (t,b,n),Tb.gS (f:=rH) (a:=(t,b,n)) e,by rw[Tb.fh];exact O,λx I=>?_,J _ λj=>Tb.bO j e,?_⟩
  .rcases Tb.mem_set I with rfl|⟨I,_⟩
   .exact R
   .exact L x I
  .rw[Tb.ed];omega
theorem bH.zj {C CS t:Addr}{H:Hp}{s:Pg.PS}{l:DW}{f:Int->Option (Bool×Nat)}{k:Int}{b:Bool}{n:Nat}(ok:A.Ok M)
  (ob:∃dx,H A.pg=some (.ins C dx (cH A s.ls))) (fr:aQ CS H M A.fp A.fo A.fc (s.ow true) (s.co true)) (sl:aQ CS H M A.sp A.so A.sc (s.ow false) (s.co false)) (N:H A.il=some (.lst (s.inf.map V.int))) (le:∀b,(s.ow b).length<=60)
  (hd:H A.pd=some (.dK (Tb.dk rH l))) (R:(l.map (·.1)).Nodup) (ht:∀x∈l,H x.2.1=some (.tup (jU x.2.2.1 x.2.2.2))) (O:∀j,(Tb.look l j).map (·.2)=f j) (ab:l.length<=999\/(f k≠none/\l.length<=1000)) (S:H t=some (.tup (jU b n))) (hp:∀j,s.pl j=Pg.dr f k (some (b,n)) j) :
  bH C CS (upd H A.pd (.dK (putK (Tb.dk rH l) (vu k) (.ref t)))) M A s:=by
 have o:Off (· = A.pd) H (upd H A.pd (.dK (putK (Tb.dk rH l) (vu k) (.ref t)))):=λb o e z=>(by rw[ah z];exact e);obtain⟨Y,e1,L,G,J,U⟩:=BK (k:=k) R ht O ab S;obtain⟨dx,h1⟩:=ob;refine⟨⟨dx,o _ _ h1 (ok.n 0 7 rfl rfl av)⟩,fr.off o (in1 (ok.m 7 rfl)) (ok.n 1 7 rfl rfl av) (ok.n 2 7 rfl rfl av) (ok.n 3 7 rfl rfl av),sl.off o (in1 (ok.m 7 rfl)) (ok.n 4 7 rfl rfl av) (ok.n 5 7 rfl rfl av) (ok.n 6 7 rfl rfl av),o _ _ N (ok.n 8 7 rfl rfl av),le,
  ⟨Y,by rw[ae,e1],L,λx I=>o _ _ (G x I) (cE (G x I) hd (by intro z;cases z)),λj=>by rw[hp j];exact J j,U⟩⟩
theorem lF {α:Type}{k:Int}:∀{l:List (Int×α)},(l.map (·.1)).Nodup->l.length<=(Tb.a8 l k).length+1
 | [],_=>KI _
 |x::r,h=>by
  obtain⟨L,J⟩:=Ky.mp (show(x.1::r.map (·.1)).Nodup from h);have G:=lF (k:=k) J;unfold Tb.a8 at G ⊢;rw[LW];by_cases c:x.1=k
  .rw[Tg (by simp[c])];have:r.filter (λx=>decide (x.1≠k))=r:=by
    rw[OE];intro y I;have:y.1≠k:=λe=>L (by rw[c, <-e];exact rk.mpr ⟨y,I,rfl⟩);simpa using this
   rw[this,Kp];exact sS _
  .rw[Th (by simpa using c),Kp,Kp];omega
theorem Cd {s:Pg.PS}(G:Pg.Good s) (le:∀b,(s.ow b).length<=60) {l:DW}(U:(l.map (·.1)).Nodup) (I:∀x∈l,s.pl x.1=some x.2.2):l.length<=120:=by
 have lt:∀x∈l,x.2.2.2<60:=λx J=>by
  obtain⟨cs,c,_,h2,_,_⟩:=G.va x.1 x.2.2.1 x.2.2.2 (I x J);have h3:=(j1.mp h2).1;have h4:=le x.2.2.1;omega
 have:=Tb.BE 120 0 (l.map λx=>if x.2.2.1=true then(x.2.2.2:Int)else 60+(x.2.2.2:Int)) ?_ ?_
 .rwa [nq]at this
 .refine MW.mpr ((MW.mp U).imp_of_mem ?_);intro a b L O Y e;have h1:=lt a L;have h2:=lt b O;refine Y (G.inj a.1 b.1 b.2.2 ?_ (I b O));rw[I a L];congr 1;have e:(if a.2.2.1=true then(a.2.2.2:Int)else 60+(a.2.2.2:Int))=if b.2.2.1=true then(b.2.2.2:Int)else 60+(b.2.2.2:Int):=e
  refine QZ ?_ ?_
  .cases R:a.2.2.1<;>cases N:b.2.2.1
   .rfl
   .rw[R,N,Tg av,Th rfl]at e;omega
   .rw[R,N,Th rfl,Tg av]at e;omega
   .rfl
  .split at e<;>split at e<;>omega
 .intro x J;obtain⟨y,S,rfl⟩:=rk.mp J;have h1:=lt y S;split<;>omega
theorem wR {s:Pg.PS}(G:Pg.Good s) (le:(s.ow true).length<=60):s.inf.length<=60:=by
 have:=Tb.BE 60 0 (s.inf.map λk=>match s.pl k with|some p=>(p.2:Int)|none=>0) ?_ ?_
 .rwa [nq]at this
 .refine MW.mpr (G.nd.imp_of_mem ?_);intro a b N O R e;obtain⟨n,I⟩:=(G.fi a).mp N;obtain⟨m,J⟩:=(G.fi b).mp O;rw[I,J]at e;have e:(n:Int)=m:=e;have e:n=m:=af;subst e;exact R (G.inj _ _ _ I J)
 .intro x S;obtain⟨y,L,rfl⟩:=rk.mp S;obtain⟨n,I⟩:=(G.fi y).mp L;obtain⟨cs,c,_,h2,_,_⟩:=G.va _ _ _ I;have U:=(j1.mp h2).1;rw[I];show 0<=(n:Int)/\(n:Int)<0+(60:Nat);omega
end
section
variable {P:ti}{w:Kl}{K:Kq}{mg:Str->Option Value}{base:Heap}
inductive mr (C CS:Addr) (vs:List V) (H:Hp) (Q:VK) (e3:XK):Prop
 |mk (M:Addr->Prop) (A:PA) (s:Pg.PS) (k:Int) (n:Nat) (cs:List Int) (c:Nat) (_:vs=[.ref A.pg,.int k]) (_:bH C CS H M A s) (_:A.Ok M) (_:(∀b,M b->H b≠none)) (_:s.pl k=some (true,n)) (_:Pg.Vw s k cs c) (_:¬ k∈s.inf) (_:(0:Int)∈s.ow false) (_:(∀b,(s.co b).length=(s.ow b).length)) (_:1<=c) (_:c<=1000) (_:∀H':Hp,bH C CS H' M A (Pg.out s k n cs c)->Off A.own H H'->Q .non H'):mr C CS vs H Q e3
theorem HH:aD ["self","sheet","moved"] ["self","sheet"] (aw qc):=L2.bD
theorem uN {f C CS:Addr}{fd:rn}(F:cD K "put_out" "Paging.put_out" qc f fd) (T:nN K mg C) (as:Df P w K mg base aS 4 "lift" (qH CS)) (a1:Df P w K mg base aS 4 "settle" (jq CS)) (aB:Md P w K mg base aS 2 C "number_of" (de C CS)):aZ P w K mg base aS 5 f fd ["self","sheet"] (mr C CS):=by
 refine F.dg HH (λa7 A outer s H vs Q E O h=>?_);obtain⟨M,I,s',k,n,cs,c,rfl,G,ok,mt,S,hv,ni,h0,ap,c1,c2,q⟩:=h;obtain⟨dx,h1⟩:=G.ob;obtain⟨b',n',e1,e2,e3⟩:=hv;rw[S]at e1;cases e1;obtain⟨l,hd,nd,L,hl,aT⟩:=G.pd;have hs:=BY;refine⟨_,(ag (dA 2 HH.nd (pc as O az (aa (aM (pv 0) rfl) (aa (pm (pv 0) T.cl aB O az (aa (pv 1) aj)) aj))))
  (ao (jn (bf O) (aM (pv 0) rfl) (pv 1) (cO (aa aN (aa (pc a1 O az (aa (aM (pv 0) rfl) (aa (pv 2) aj))) aj))) rfl))),?_⟩
 refine⟨_,rfl,I.pg,C,dx,_,_,rfl,h1,T.cl,T.nF,mq _ _,?_⟩;refine⟨_,rfl,I.pg,dx,_,rfl,h1,cF _ _ aq aq aq aq aq,_,rfl,M,I,s',k,true,n,rfl,G,S,?_⟩;refine⟨I.fp,I.fo,I.fc,M,_,_,n,cs,c,rfl,G.fr,ok.m 2 rfl,ok.m 3 rfl,mt,ok.n 2 3 rfl rfl av,G.le true,e3,c1,c2,e2,?_⟩;intro H1 t l0 ft a4 nl ai S1 R;have a2:=R _ _ h1 (gh (ok.n 0 2 rfl rfl av) (ok.n 0 3 rfl rfl av));have a5:=G.sl.off R (FD (ok.m 2 rfl) (ok.m 3 rfl)) (gh (ok.n 4 2 rfl rfl av) (ok.n 4 3 rfl rfl av)) (gh (ok.n 5 2 rfl rfl av) (ok.n 5 3 rfl rfl av)) (gh (ok.n 6 2 rfl rfl av) (ok.n 6 3 rfl rfl av));refine⟨_,rfl,I.pg,C,dx,_,_,rfl,a2,T.cl,T.nS,tu _ _,_,rfl,I.sp,I.so,I.sc,t,l0,M,_,_,cs,c,rfl,a5,ok.m 5 rfl,ok.m 6 rfl,pC S1 R mt,ok.n 5 6 rfl rfl av,(ap false).symm,G.le false,h0,a4,ai,nl,c1,c2,?_⟩;intro H2 S2 Y;refine⟨fE,λu U=>?_⟩;have ac:=(S1.off Y (FD (ok.m 5 rfl) (ok.m 6 rfl)) (gh (ok.n 1 5 rfl rfl av) (ok.n 1 6 rfl rfl av)) (gh (ok.n 2 5 rfl rfl av) (ok.n 2 6 rfl rfl av)) (gh (ok.n 3 5 rfl rfl av) (ok.n 3 6 rfl rfl av))).keep (cJ (o:=.tup (jU false ((s'.ow false).idxOf 0))) U);have a0:=S2.keep (cJ (o:=.tup (jU false ((s'.ow false).idxOf 0))) U);have N:∀b o,H b=some o->¬ (b=I.fo\/b=I.fc)->¬ (b=I.so\/b=I.sc)->upd H2 u (.tup (jU false ((s'.ow false).idxOf 0))) b=some o:=λb o e z1 z2=>cJ U b o (Y b o (R b o e z1) z2) id;have hu:upd H2 u (.tup (jU false ((s'.ow false).idxOf 0))) u=some (.tup (jU false ((s'.ow false).idxOf 0))):=ae;have kd:=N _ _ hd (gh (ok.n 7 2 rfl rfl av) (ok.n 7 3 rfl rfl av)) (gh (ok.n 7 5 rfl rfl av) (ok.n 7 6 rfl rfl av));have ko:=N _ _ h1 (gh (ok.n 0 2 rfl rfl av) (ok.n 0 3 rfl rfl av)) (gh (ok.n 0 5 rfl rfl av) (ok.n 0 6 rfl rfl av));have ki:=N _ _ G.il (gh (ok.n 8 2 rfl rfl av) (ok.n 8 3 rfl rfl av)) (gh (ok.n 8 5 rfl rfl av) (ok.n 8 6 rfl rfl av));have a6:=G.fr.hw;have ab:=G.sl.hw;obtain⟨_,a3,_⟩:=G.fr.hc;obtain⟨_,am,_⟩:=G.sl.hc;have kt:∀x∈l,upd H2 u (.tup (jU false ((s'.ow false).idxOf 0))) x.2.1=some (.tup (jU x.2.2.1 x.2.2.2)):=λx J=>N _ _ (L x J) (gh (cE (L x J) a6 (by intro z;cases z)) (cE (L x J) a3 (by intro z;cases z))) (gh (cE (L x J) ab (by intro z;cases z)) (cE (L x J) am (by intro z;cases z)));show Cq K _ _ _ (upd H2 u (.tup (jU false ((s'.ow false).idxOf 0)))) _;generalize upd H2 u (.tup (jU false ((s'.ow false).idxOf 0)))=H3 at *;refine⟨_,rfl,I.pg,C,dx,_,_,rfl,ko,T.cl,T.nP,oS _ _,_,rfl,I.pd,_,rfl,fX.k (k:=vu k) kd (by rw[Tb.cu];omega),?_⟩;refine q _ (bH.zj (s:=Pg.out s' k n cs c) (f:=s'.pl) (b:=false) (n:=(s'.ow false).idxOf 0) ok ⟨dx,ko⟩ ac a0 ?_ ?_ kd nd kt hl (.inr ⟨by rw[S];simp,aT⟩) hu ?_) ?_
 .show H3 I.il=some (.lst ((s'.inf.erase k).map V.int));rw[MQ ni];exact ki
 .intro b;cases b
  .show(SW _ _ _).length<=60;rw[K9];exact G.le false
  .show(SW _ _ _).length<=60;rw[K9];exact G.le true
 .intro j;by_cases e:j=k
  .subst e;exact Pg.bp.trans Pg.bp.symm
  .exact(Pg.aJ e).trans ((Pg.aJ e).trans (Pg.aJ e).symm)
 .intro b o e z;rw[ah (λy=>z (by rw[y];exact PA.fP 5 rfl))];exact N b o e (λy=>z (y.elim (λy=>by rw[y];exact PA.fP 1 rfl) λy=>by rw[y];exact PA.fP 2 rfl)) (λy=>z (y.elim (λy=>by rw[y];exact PA.fP 3 rfl) λy=>by rw[y];exact PA.fP 4 rfl))
abbrev m6:KO:=inClass (top 14) 7
inductive iA (C CS:Addr) (vs:List V) (H:Hp) (Q:VK) (e3:XK):Prop
 |mk (M:Addr->Prop) (A:PA) (s:Pg.PS) (k:Int) (t l:Addr) (cs:List Int) (c:Nat) (_:vs=[.ref A.pg,.int k,.ref t]) (_:bH C CS H M A s) (_:A.Ok M) (_:(∀b,M b->H b≠none)) (_:Pg.Good { s with pl:=Pg.dr s.pl k none }) (_:((0:Int)∈s.ow true\/(0:Int)∈s.ow false)) (_:s.ow true≠[]) (_:(∀b,∀x∈s.ow b,x<=1000)) (_:H t=some (.tup [.ref l,.int c])) (_:H l=some (.lst (cs.map V.int))) (_:¬ M l) (_:1<=c) (_:c<=1000) (_:∀(H':Hp) (s':Pg.PS),Pg.BI { s with pl:=Pg.dr s.pl k none } k cs c s'->bH C CS H' M A s'->Off A.own H H'->Q .non H'):iA C CS vs H Q e3
theorem tW (A:PA) (n:Int):(cH A n).lookup ("in_frames" : Str)=some (.ref A.il):=by
 unfold cH;rw[aF,Th rfl]
theorem Jh:aD ["self","sheet","moved"] ["self","sheet","moved"] (aw m6):=L2.bD
theorem sf {f C CS:Addr}{fd:rn}(F:cD K "bring_in" "Paging.bring_in" m6 f fd) (T:nN K mg C) (TS:Txt K mg CS) (GF:Md P w K mg base aS 1 CS "free" (qf CS)) (a6:Md P w K mg base aS 5 C "put_out" (mr C CS)) (be:Df P w K mg base aS 4 "settle" (jq CS)):aZ P w K mg base aS 6 f fd ["self","sheet","moved"] (iA C CS):=by
 refine F.dg Jh (λbA A outer s H vs Q E hr h=>?_);obtain⟨M,J,s',k,t,l0,cs,c,rfl,G,ok,mt,gd,hf,hn,hb,L,bm,nl,c1,c2,q⟩:=h;obtain⟨dx,h1⟩:=G.ob;obtain⟨a7,h2⟩:=G.fr.ob;have hs:=BY;have a3:¬ J.own l0:=λz=>nl (ok.own _ z);refine⟨_,(ag (aU (aE bR (qz (aM (pv 0) rfl) TS.cl GF hr az) ak (aI _)) (ao (aL (pm (pv 0) T.cl a6 hr az (aa (ig Lq PySem.F.slot_list_pop PySem.F.type_list_pop zK (aM (pv 0) rfl) (aa ak aj)) aj)))) aH)
  (ag (jn (bf hr) (aM (pv 0) rfl) (pv 1) (cO (aa aN (aa (pc be hr az (aa (aM (pv 0) rfl) (aa (pv 2) aj))) aj))) rfl)
  (ao (aL (ig Lq Nt Nu j9 (aM (pv 0) rfl) (aa (pv 1) aj)))))),?_⟩
 refine share (λσ H9=>y7 λ(I O:Pg.PS)=>Gd (σ=[some (.ref J.pg),some (.int k),some (.ref t)]) (bH C CS H9 M J I) (O.ow=I.ow) (O.co=I.co) (O.ls=I.ls) (O.inf=I.inf) ((∀j,j≠k->O.pl j=I.pl j)) (Pg.Good O) ((0:Int)∈O.ow true) (Pg.BI { s' with pl:=Pg.dr s'.pl k none } k cs c (Pg.xE O true k cs c)) (Off J.own H H9)) (λu' aB=>?A) ?B
 case A =>
  refine⟨_,rfl,J.pg,C,dx,_,_,rfl,h1,T.cl,T.nF,mq _ _,J.fp,a7,_,rfl,h2,aX _ _ aq aq,J.fp,J.fo,J.fc,M,_,_,rfl,G.fr,rfl,_,rfl,?_⟩;refine iV (λz'=>?_) (λz'=>?_)
  rotate_left
  .have z:(0:Int)∈s'.ow true:=Nh λn=>z' (by rw[QK.mpr n];simp);exact aB _ _ ⟨s', { s' with pl:=Pg.dr s'.pl k none },rfl,G,rfl,rfl,rfl,rfl,λj hj=>Pg.aJ hj,gd,z,.free z,λb o e _=>e⟩
  .have z:¬ (0:Int)∈s'.ow true:=QK.mp (by
    have:(((s'.ow true).count 0:Nat):Int)=0:=(by simpa using z');omega)
   rcases Pg.F6 gd hf hn with h|⟨_,ac,R,r,n0,as,c0,hi,U,ab⟩
   .exact absurd h z
   .have bv:R≠k:=λe=>by
     have U:Pg.dr s'.pl k none R=some (true,n0):=U;rw[e,Pg.bp]at U;cases U
    have hi:s'.inf=R::r:=hi;have b2:=(gd.vw ab).1;obtain⟨og,_,_,a0,_,_,bY⟩:=Pg.sh gd U ab ac;obtain⟨b1,n1,e1,e2,e3⟩:=id ab;rw[U]at e1;cases e1;have aT:s'.pl R=some (true,n0):=(by rw[<-U];exact(Pg.aJ bv).symm);have bE:=hb true c0 (DD e3);obtain⟨ap,rfl⟩:∃c':Nat,c0=c':=⟨c0.toNat,af⟩;have S:=gd.nd;have S:s'.inf.Nodup:=S;rw[hi]at S;obtain⟨n1,n2⟩:=Ky.mp S;have N:=G.mR ok r;have O1:Off J.own H (upd H J.il (.lst (r.map V.int))):=λb o e z=>(by rw[ah (λy=>z (by rw[y];exact PA.fP 6 rfl))];exact e);have am:=G.il;rw[hi]at am;refine⟨_,rfl,J.pg,dx,_,rfl,h1,cF _ _ aq aq aq aq aq,_,rfl,J.pg,C,dx,_,_,rfl,h1,T.cl,T.nI,tW _ _,.inl ⟨rfl,_,bq.of am⟩,J.il,_,0,0,.int R,rfl,rfl,am,av,av,OR (Lo _) (by rw[nq,Kp];omega),rfl,?_⟩;refine⟨M,J,_,R,n0,as,ap,rfl,N,ok,N.alive O1 mt,aT,⟨true,n0,aT,e2,e3⟩,n1,ac,gd.ln,af,af,λH2 G2 O2=>?_⟩;refine aB _ _ ⟨_,Pg.out { s' with pl:=Pg.dr s'.pl k none } R n0 as ap,rfl,G2,rfl,rfl,rfl,?_,?_,og,a0,.full z ac hi U ab,λb o e y=>O2 b o (O1 b o e y) y⟩
    .show s'.inf.erase R=r.erase R;rw[hi,List.erase_cons_head,MQ n1]
    .intro j hj;by_cases e:j=R
     .subst e;exact Pg.bp.trans Pg.bp.symm
     .exact(Pg.aJ e).trans ((Pg.aJ e).trans ((Pg.aJ hj).trans ((Pg.aJ e).trans (Pg.aJ e)).symm))
 case B =>
  rintro σ H9 ⟨I,O,rfl,N,w1,w2,w3,w4,w5,g2,z0,bc,O1⟩;obtain⟨ai,h3⟩:=N.ob;have bx:H9 t=some (.tup [.ref l0,.int c]):=O1 _ _ L λy=>by
   obtain⟨_,q1,_⟩:=G.fr.hc;obtain⟨_,q2,_⟩:=G.sl.hc;obtain⟨_,q3,_⟩:=G.pd;have q4:=G.fr.hw;have q5:=G.sl.hw;have q6:=G.il;unfold PA.own at y;simp only[E3,Km,or_false]at y;rcases y with y|y|y|y|y|y|y<;>rw[y]at L
   .rw[h1]at L;cases L
   .rw[q4]at L;cases L
   .rw[q1]at L;cases L
   .rw[q5]at L;cases L
   .rw[q2]at L;cases L
   .rw[q3]at L;cases L
   .rw[q6]at L;cases L
  have bb:=O1 _ _ bm a3;obtain⟨l,hd,S,ht,hl,b0⟩:=N.pd;have a5:l.length<=999:=by
   have a1:=lF (k:=k) S;have a2:=Cd g2 (λb=>by rw[w1];exact N.le b) (l:=Tb.a8 l k) (by rw[Tb.jw];exact S.filter _) λx Y=>by
    obtain⟨Y,bl⟩:=Tb.bX Y;have:=hl x.1;rw[Tb.bL S Y]at this;rw[w5 x.1 bl, <-this];rfl
   omega
  rw[w1]at z0;have a4:(I.co true).length=(I.ow true).length:=(by rw[<-w1, <-w2];exact g2.ln true);refine⟨_,rfl,J.pg,C,ai,_,_,rfl,h3,T.cl,T.nF,mq _ _,_,rfl,J.fp,J.fo,J.fc,t,l0,M,_,_,cs,c,rfl,N.fr,ok.m 2 rfl,ok.m 3 rfl,N.alive O1 mt,ok.n 2 3 rfl rfl av,a4.symm,N.le true,z0,bx,bb,nl,c1,c2,?_⟩;intro H2 S2 O2;refine⟨fE,λu fu=>?_⟩;have bn:=S2.keep (cJ (o:=.tup (jU true ((I.ow true).idxOf 0))) fu);have bd:=(N.sl.off O2 (FD (ok.m 2 rfl) (ok.m 3 rfl)) (gh (ok.n 4 2 rfl rfl av) (ok.n 4 3 rfl rfl av)) (gh (ok.n 5 2 rfl rfl av) (ok.n 5 3 rfl rfl av)) (gh (ok.n 6 2 rfl rfl av) (ok.n 6 3 rfl rfl av))).keep (cJ (o:=.tup (jU true ((I.ow true).idxOf 0))) fu);have kp:∀b o,H9 b=some o->¬ (b=J.fo\/b=J.fc)->upd H2 u (.tup (jU true ((I.ow true).idxOf 0))) b=some o:=λb o e z1=>cJ fu b o (O2 b o e z1) id;have hu:upd H2 u (.tup (jU true ((I.ow true).idxOf 0))) u=some (.tup (jU true ((I.ow true).idxOf 0))):=ae;have kd:=kp _ _ hd (gh (ok.n 7 2 rfl rfl av) (ok.n 7 3 rfl rfl av));have ko:=kp _ _ h3 (gh (ok.n 0 2 rfl rfl av) (ok.n 0 3 rfl rfl av));have ki:=kp _ _ N.il (gh (ok.n 8 2 rfl rfl av) (ok.n 8 3 rfl rfl av));have bz:=N.fr.hw;obtain⟨_,bi,_⟩:=N.fr.hc;have kt:∀x∈l,upd H2 u (.tup (jU true ((I.ow true).idxOf 0))) x.2.1=some (.tup (jU x.2.2.1 x.2.2.2)):=λx Y=>kp _ _ (ht x Y) (gh (cE (ht x Y) bz (by intro z;cases z)) (cE (ht x Y) bi (by intro z;cases z)));show Cq K _ _ _ (upd H2 u (.tup (jU true ((I.ow true).idxOf 0)))) _;generalize upd H2 u (.tup (jU true ((I.ow true).idxOf 0)))=H3 at *;refine⟨_,rfl,J.pg,C,ai,_,_,rfl,ko,T.cl,T.nP,oS _ _,_,rfl,J.pd,_,rfl,fX.k (k:=vu k) kd (by rw[Tb.cu];omega),?_⟩;have G4:=bH.zj (C:=C) (CS:=CS) (s:={ Pg.xE I true k cs c with inf:=I.inf }) (f:=I.pl) (k:=k) (b:=true) (n:=(I.ow true).idxOf 0) ok ⟨ai,ko⟩ bn bd ki (λb=>by
   cases b
   .exact N.le false
   .show(SW _ _ _).length<=60;rw[K9];exact N.le true) kd S kt hl (.inl a5) hu (λj=>rfl)
  have O4:Off J.own H (upd H3 J.pd (.dK (putK (Tb.dk rH l) (vu k) (.ref u)))):=λb o e z=>by
   rw[ah (λy=>z (by rw[y];exact PA.fP 5 rfl))];exact kp b o (O1 b o e z) (λy=>z (y.elim (λy=>by rw[y];exact PA.fP 1 rfl) λy=>by rw[y];exact PA.fP 2 rfl))
  generalize upd H3 J.pd (.dK (putK (Tb.dk rH l) (vu k) (.ref u)))=H4 at *;obtain⟨ba,h4⟩:=G4.ob;have bI:I.inf.length<=60:=(by rw[<-w4];exact wR g2 (by rw[w1];exact N.le true));refine⟨_,rfl,J.pg,C,ba,_,_,rfl,h4,T.cl,T.nI,tW _ _,.inl ⟨rfl,_,bq.of G4.il⟩,_,rfl,J.il,_,.int k,rfl,rfl,G4.il,by rw[nq];show I.inf.length<_;omega,?_⟩;have G5:=G4.mR ok (I.inf++[k]);rw[Kr]at G5;refine q _ _ bc (G5.ER ?_ ?_ w3 ?_ ?_) λb o e z=>by
   rw[ah (λy=>z (by rw[y];exact PA.fP 6 rfl))];exact O4 b o e z
  .show Pg.upd O.ow true _=Pg.upd I.ow true _;rw[w1]
  .show Pg.upd O.co true _=Pg.upd I.co true _;rw[w1,w2]
  .show O.inf++[k]=I.inf++[k];rw[w4]
  .intro j;show Pg.dr O.pl k _ j=Pg.dr I.pl k _ j;by_cases e:j=k
   .rw[e,Pg.bp,Pg.bp,w1]
   .rw[Pg.aJ e,Pg.aJ e];exact w5 j e
end
end St
namespace Pg
theorem sR {α:Type}{f:Bool->α}{b:Bool}:upd f b (f b)=f:=by
 funext c;by_cases e:c=b
 .rw[e,ae]
 .rw[aW e]
theorem yg {α:Type}{f:Int->α}{k:Int}{v:α}(h:f k=v):dr f k v=f:=by
 funext c;by_cases e:c=k
 .rw[e,bp,h]
 .rw[aJ e]
theorem wb {s:PS}(G:Good s):({ next s with pl:=dr (next s).pl (s.ls+1) none }:PS)=next s:=by
 have e:dr s.pl (s.ls+1) none=s.pl:=yg (eU G);show PS.mk s.ow s.co (dr s.pl (s.ls+1) none) (s.ls+1) s.inf=PS.mk s.ow s.co s.pl (s.ls+1) s.inf;rw[e]
theorem xr {s:PS}{k:Int}{n:Nat}(G:Good s) (J:s.pl k=some (false,n)):¬ k∈s.inf:=λh=>by
 obtain⟨m,I⟩:=(G.fi k).mp h;rw[J]at I;cases I
theorem uE {s:PS}{k:Int}{n:Nat}(G:Good s) (I:s.pl k=some (false,n)):({ cn s false n 0 with pl:=dr (cn s false n 0).pl k none }:PS)=oj s k false n:=by
 show PS.mk (upd s.ow false ((s.ow false).set n 0)) s.co (dr s.pl k none) s.ls s.inf=PS.mk (upd s.ow false ((s.ow false).set n 0)) s.co (dr s.pl k none) s.ls (s.inf.erase k);rw[MQ (xr G I)]
def Cb (s:PS):Prop:=∀b,∀x∈s.ow b,x<=1000
theorem EY {ow:Bool->List Int}{b:Bool}{n:Nat}{x:Int}(h:∀b,∀x∈ow b,x<=1000) (I:x<=1000):∀c,∀y∈upd ow b ((ow b).set n x) c,y<=1000:=by
 intro c y G;by_cases e:c=b
 .rw[e,ae]at G;rcases OI G with h' |h'
  .exact h b y h'
  .rw[h'];exact I
 .rw[aW e]at G;exact h c y G
end Pg
namespace Pg
theorem RI.cb {s:PS}{es:List Ent}(R:RI s es) (le:∀b,(s.ow b).length<=60):Cb s:=by
 intro b x J;obtain⟨n,G⟩:=Oa J;rcases R.good.on b n x G with e|⟨k,I⟩
 .omega
 .obtain⟨cs,c,h1,h2,_,_⟩:=R.good.va _ _ _ I;rw[G]at h2;cases h2;have L:=R.ct k cs x ⟨b,n,I,h1,G⟩;have O:=List.count_le_length (a:=some k) (l:=es);have S:=R.rm;have N:=le true;have U:=le false;omega
end Pg
namespace St
open PySem L2
section
variable {A:PA}{M:Addr->Prop}
theorem AQ (A:PA) (n:Int):(cH A n).lookup ("last_sheet" : Str)=some (.int n):=by
 unfold cH;rw[aF,Tg aq,aF,Th rfl]
theorem AW (A:PA) (n:Int):cH A n=([("frames",.ref A.fp),("slots",.ref A.sp),("places",.ref A.pd),("last_sheet",.int n),("in_frames",.ref A.il)]:List (Str×V)):=by
 have Y:¬ (("frames" : Str) = "slots"):=aq;have L:¬ (("frames" : Str) = "places"):=aq;have N:¬ (("frames" : Str) = "last_sheet"):=aq;have J:¬ (("frames" : Str) = "in_frames"):=aq;have I:¬ (("slots" : Str) = "places"):=aq;have O:¬ (("slots" : Str) = "last_sheet"):=aq;have U:¬ (("slots" : Str) = "in_frames"):=aq;have G:¬ (("places" : Str) = "last_sheet"):=aq;have R:¬ (("places" : Str) = "in_frames"):=aq;have S:¬ (("last_sheet" : Str) = "in_frames"):=aq;unfold cH;simp only[bj,Tg Y,Tg L,Tg N,Tg J,Tg I,Tg O,Tg U,Tg G,Tg R,Tg S]
theorem EZ (A:PA) (n m:Int):bj "last_sheet" (.int m) (cH A n)=cH A m:=by
 have I:¬ (("frames" : Str) = "last_sheet"):=aq;have J:¬ (("slots" : Str) = "last_sheet"):=aq;have G:¬ (("places" : Str) = "last_sheet"):=aq;rw[AW,AW];simp only[bj,Tg I,Tg J,Tg G,if_true]
theorem bH.F2 {C CS dx:Addr}{H:Hp}{s:Pg.PS}(G:bH C CS H M A s) (ok:A.Ok M) (n:Int):bH C CS (upd H A.pg (.ins C dx (cH A n))) M A { s with ls:=n }:=by
 have o:Off (· = A.pg) H (upd H A.pg (.ins C dx (cH A n))):=λb o e z=>(by rw[ah z];exact e);obtain⟨R,h1⟩:=G.ob;obtain⟨l,hd,O,I,N,L⟩:=G.pd;exact⟨⟨dx,ae⟩,G.fr.off o (in1 (ok.m 0 rfl)) (ok.n 1 0 rfl rfl av) (ok.n 2 0 rfl rfl av) (ok.n 3 0 rfl rfl av),G.sl.off o (in1 (ok.m 0 rfl)) (ok.n 4 0 rfl rfl av) (ok.n 5 0 rfl rfl av) (ok.n 6 0 rfl rfl av),o _ _ G.il (ok.n 8 0 rfl rfl av),G.le,
  ⟨l,o _ _ hd (ok.n 7 0 rfl rfl av),O,λx J=>o _ _ (I x J) (cE (I x J) h1 (by intro z;cases z)),N,L⟩⟩
theorem bH.C5 {C CS:Addr}{H H':Hp}{s:Pg.PS}(G:bH C CS H M A s) (ok:A.Ok M) (b:Bool) {os:List Int}{pg:List (Option (List Int))}(S:aQ CS H' M (A.st b) (A.ow b) (A.co b) os pg) (o:Off (λx=>x=A.ow b\/x=A.co b) H H') (hl:os.length<=60):bH C CS H' M A { s with ow:=Pg.upd s.ow b os,co:=Pg.upd s.co b pg }:=by
 obtain⟨N,h1⟩:=G.ob;obtain⟨l,hd,R,I,L,O⟩:=G.pd;have le:∀c,(Pg.upd s.ow b os c).length<=60:=λc=>by
  by_cases e:c=b
  .rw[e,Pg.ae];exact hl
  .rw[Pg.aW e];exact G.le c
 have Y:=(G.st b).hw;obtain⟨_,hc,_⟩:=(G.st b).hc;have U:∀x∈l,H' x.2.1=some (.tup (jU x.2.2.1 x.2.2.2)):=λx J=>o _ _ (I x J) (gh (cE (I x J) Y (by intro z;cases z)) (cE (I x J) hc (by intro z;cases z)));cases b
 .exact⟨⟨N,o _ _ h1 (gh (ok.n 0 5 rfl rfl av) (ok.n 0 6 rfl rfl av))⟩,G.fr.off o (FD (ok.m 5 rfl) (ok.m 6 rfl)) (gh (ok.n 1 5 rfl rfl av) (ok.n 1 6 rfl rfl av)) (gh (ok.n 2 5 rfl rfl av) (ok.n 2 6 rfl rfl av)) (gh (ok.n 3 5 rfl rfl av) (ok.n 3 6 rfl rfl av)),S,o _ _ G.il (gh (ok.n 8 5 rfl rfl av) (ok.n 8 6 rfl rfl av)),le,
   ⟨l,o _ _ hd (gh (ok.n 7 5 rfl rfl av) (ok.n 7 6 rfl rfl av)),R,U,L,O⟩⟩
 .exact⟨⟨N,o _ _ h1 (gh (ok.n 0 2 rfl rfl av) (ok.n 0 3 rfl rfl av))⟩,S,G.sl.off o (FD (ok.m 2 rfl) (ok.m 3 rfl)) (gh (ok.n 4 2 rfl rfl av) (ok.n 4 3 rfl rfl av)) (gh (ok.n 5 2 rfl rfl av) (ok.n 5 3 rfl rfl av)) (gh (ok.n 6 2 rfl rfl av) (ok.n 6 3 rfl rfl av)),o _ _ G.il (gh (ok.n 8 2 rfl rfl av) (ok.n 8 3 rfl rfl av)),le,
   ⟨l,o _ _ hd (gh (ok.n 7 2 rfl rfl av) (ok.n 7 3 rfl rfl av)),R,U,L,O⟩⟩
theorem bH.As {C CS:Addr}{H H':Hp}{s:Pg.PS}(G:bH C CS H M A s) (ok:A.Ok M) (b:Bool) {os:List Int}(S:aQ CS H' M (A.st b) (A.ow b) (A.co b) os (s.co b)) (o:Off (λx=>x=A.ow b\/x=A.co b) H H') (I:os.length<=60):bH C CS H' M A { s with ow:=Pg.upd s.ow b os }:=
 (G.C5 ok b S o I).ER rfl Pg.sR.symm rfl rfl λ_=>rfl
theorem bH.Hy {C CS:Addr}{H H':Hp}{s:Pg.PS}(G:bH C CS H M A s) (ok:A.Ok M) (b:Bool) {pg:List (Option (List Int))}(S:aQ CS H' M (A.st b) (A.ow b) (A.co b) (s.ow b) pg) (o:Off (λx=>x=A.ow b\/x=A.co b) H H'):bH C CS H' M A { s with co:=Pg.upd s.co b pg }:=
 (G.C5 ok b S o (G.le b)).ER Pg.sR.symm rfl rfl rfl λ_=>rfl
theorem PA.kH (b:Bool):∀x,x=A.ow b\/x=A.co b->A.own x:=by
 intro x h;cases b
 .rcases h with h|h<;>rw[h]
  .exact PA.fP 3 rfl
  .exact PA.fP 4 rfl
 .rcases h with h|h<;>rw[h]
  .exact PA.fP 1 rfl
  .exact PA.fP 2 rfl
theorem PA.Ok.mo (ok:A.Ok M) (b:Bool):M (A.ow b):=ok.own _ (PA.kH b _ (.inl rfl))
theorem PA.Ok.mc (ok:A.Ok M) (b:Bool):M (A.co b):=ok.own _ (PA.kH b _ (.inr rfl))
theorem PA.Ok.oc (ok:A.Ok M) (b:Bool):A.ow b≠A.co b:=by
 cases b
 .exact ok.n 5 6 rfl rfl av
 .exact ok.n 2 3 rfl rfl av
theorem Off.mono {B G:Addr->Prop}{H H':Hp}(o:Off B H H') (h:∀b,B b->G b):Off G H H':=λb u e z=>o b u e λy=>z (h b y)
theorem Off.trans {B:Addr->Prop}{H H' G:Hp}(o:Off B H H') (o':Off B H' G):Off B H G:=λb u e z=>o' b u (o b u e z) z
theorem Off.wr {B:Addr->Prop}{H:Hp}{a:Addr}{o:HO}(h:B a):Off B H (upd H a o):=λb u e z=>by rw[ah (λy=>z (by rw[y];exact h))];exact e
theorem Off.new {B:Addr->Prop}{H:Hp}{a:Addr}{o:HO}(h:H a=none):Off B H (upd H a o):=λb u e z=>cJ h b u e id
theorem bH.DT {C CS:Addr}{H:Hp}{s:Pg.PS}{l:DW}(G:bH C CS H M A s) (ok:A.Ok M) (k:Int) (hd:H A.pd=some (.dK (Tb.dk rH l))) (O:(l.map (·.1)).Nodup) (J:∀x∈l,H x.2.1=some (.tup (jU x.2.2.1 x.2.2.2))) (N:∀j,(Tb.look l j).map (·.2)=s.pl j) (L:l.length<=1000) :
  bH C CS (upd H A.pd (.dK (Tb.dk rH (Tb.a8 l k)))) M A { s with pl:=Pg.dr s.pl k none }:=by
 have o:Off (· = A.pd) H (upd H A.pd (.dK (Tb.dk rH (Tb.a8 l k)))):=λb o e z=>(by rw[ah z];exact e);obtain⟨dx,h1⟩:=G.ob;refine⟨⟨dx,o _ _ h1 (ok.n 0 7 rfl rfl av)⟩,G.fr.off o (in1 (ok.m 7 rfl)) (ok.n 1 7 rfl rfl av) (ok.n 2 7 rfl rfl av) (ok.n 3 7 rfl rfl av),G.sl.off o (in1 (ok.m 7 rfl)) (ok.n 4 7 rfl rfl av) (ok.n 5 7 rfl rfl av) (ok.n 6 7 rfl rfl av),o _ _ G.il (ok.n 8 7 rfl rfl av),G.le,
  ⟨Tb.a8 l k,ae,by rw[Tb.jw];exact O.filter _,λx I=>?_,λj=>?_,Ko (Ng _ _) L⟩⟩
 .have I:=(Tb.bX I).1;exact o _ _ (J x I) (cE (J x I) hd (by intro z;cases z))
 .rw[Tb.cf];show _=Pg.dr s.pl k none j;by_cases e:j=k
  .rw[Th e,e,Pg.bp];rfl
  .rw[Tg e,Pg.aJ e];exact N j
end
theorem z9 {D:Ends}{σ:St}{H:Hp}(h:D.nx σ H):kP D σ H:=h
abbrev kE:KO:=inClass (top 14) 1
abbrev wj:KO:=inClass (top 14) 2
abbrev uQ:KO:=inClass (top 14) 3
abbrev pW:KO:=inClass (top 14) 5
abbrev ve:KO:=inClass (top 14) 6
structure Gq (C CS:Addr) (H:Hp) (M:Addr->Prop) (A:PA) (s:Pg.PS):Prop where
 at_:bH C CS H M A s
 ok:A.Ok M
 mt:∀b,M b->H b≠none
 gd:Pg.Good s
 ne:s.ow true≠[]
 cb:Pg.Cb s
 l0:0<=s.ls
inductive gr (K:Kq) (C CS:Addr) (vs:List V) (H:Hp) (Q:VK) (e3:XK):Prop
 |mk (M:Addr->Prop) (A:PA) (s:Pg.PS) (ca:Addr) (cs:List Int) (_:vs=[.ref A.pg,.ref ca]) (_:Gq C CS H M A s) (_:((0:Int)∈s.ow true\/(0:Int)∈s.ow false)) (_:bq K H ca (cs.map V.int)) (_:ca≠A.pg) (_:cs.length=8) (_:∀(H':Hp) (s':Pg.PS),Pg.BI (Pg.next s) (s.ls+1) cs 1 s'->bH C CS H' M A s'->Off A.own H H'->Q (.int (s.ls+1)) H'):gr K C CS vs H Q e3
inductive lh (C CS:Addr) (vs:List V) (H:Hp) (Q:VK) (e3:XK):Prop
 |mk (M:Addr->Prop) (A:PA) (s:Pg.PS) (k:Int) (cs:List Int) (c:Int) (_:vs=[.ref A.pg,.int k]) (_:Gq C CS H M A s) (_:Pg.Vw s k cs c) (_:∀(H':Hp) (s':Pg.PS),Pg.FE s k s'->bH C CS H' M A s'->Off A.own H H'->Q .non H'):lh C CS vs H Q e3
inductive qd (C CS:Addr) (vs:List V) (H:Hp) (Q:VK) (e3:XK):Prop
 |mk (M:Addr->Prop) (A:PA) (s:Pg.PS) (k:Int) (b:Bool) (n:Nat) (cs:List Int) (c:Int) (_:vs=[.ref A.pg,.int k]) (_:Gq C CS H M A s) (_:s.pl k=some (b,n)) (_:Pg.Vw s k cs c) (_:∀H':Hp,bH C CS H' M A (Pg.cn s b n (c+1))->Off A.own H H'->Q .non H'):qd C CS vs H Q e3
inductive k6 (C CS:Addr) (vs:List V) (H:Hp) (Q:VK) (e3:XK):Prop
 |mk (M:Addr->Prop) (A:PA) (s:Pg.PS) (k:Int) (cs:List Int) (c:Int) (_:vs=[.ref A.pg,.int k]) (_:bH C CS H M A s) (_:A.Ok M) (_:(∀b,M b->H b≠none)) (_:Pg.Good s) (_:Pg.Vw s k cs c) (_:∀(H':Hp) (s':Pg.PS),Pg.Dq s k s'->bH C CS H' M A s'->Off A.own H H'->Q .non H'):k6 C CS vs H Q e3
inductive mP (C CS:Addr) (vs:List V) (H:Hp) (Q:VK) (e3:XK):Prop
 |mk (M:Addr->Prop) (A:PA) (s:Pg.PS) (k:Int) (ca:Addr) (cs0:List Int) (c0:Int) (cs:List Int) (_:vs=[.ref A.pg,.int k,.ref ca]) (_:Gq C CS H M A s) (_:Pg.Vw s k cs0 c0) (_:H ca=some (.lst (cs.map V.int))) (_:¬ A.own ca) (_:cs.length=8) (_:(1<c0->(0:Int)∈s.ow true\/(0:Int)∈s.ow false)) (_:(1<c0->∀(H':Hp) (s1 s2:Pg.PS),Pg.BI (Pg.next s) (s.ls+1) cs 1 s1->Pg.Dq s1 k s2->bH C CS H' M A s2->Off A.own H H'->Q (.int (s.ls+1)) H')) (_:(c0=1->∀(H':Hp) (s1:Pg.PS) (m:Nat),Pg.FE s k s1->s1.pl k=some (true,m)->bH C CS H' M A (Pg.write s1 true m cs)->Off A.own H H'->Q (.int k) H')):mP C CS vs H Q e3
section
variable {P:ti}{w:Kl}{K:Kq}{mg:Str->Option Value}{base:Heap}
theorem Il:aD ["self","cells"] ["self","cells"] (aw kE):=L2.bD
theorem qP {f C CS:Addr}{fd:rn}(F:cD K "new_sheet" "Paging.new_sheet" kE f fd) (T:nN K mg C) (TS:Txt K mg CS) (S:Md P w K mg base aS 1 CS "free" (qf CS)) (a0:Md P w K mg base aS 6 C "bring_in" (iA C CS)):aZ P w K mg base aS 7 f fd ["self","cells"] (gr K C CS):=by
 refine F.dg Il (λa3 A outer s H vs Q E N h=>?_);obtain⟨M,I,s',Y,cs,rfl,R,hf,as,ap,h8,q⟩:=h;have G:=R.at_;have ok:=R.ok;obtain⟨dx,h1⟩:=G.ob;obtain⟨ai,h2⟩:=G.fr.ob;obtain⟨aB,h3⟩:=G.sl.ob;have hs:=BY;refine⟨_,(ag (aU (aE bR (ay aV (qz (aM (pv 0) rfl) TS.cl S N az) (qz (aM (pv 0) rfl) TS.cl S N az)) ak (aI _)) cN aH)
  (ag (yW (pv 0) ak EC)
  (ag (aL (pm (pv 0) T.cl a0 N az (aa (aM (pv 0) rfl) (aa (cO (aa (bG cB (by rfl) T.list dv (aa (pv 1) aj)) (aa ak aj))) aj))))
  (ao (aG (aM (pv 0) rfl)))))),?_⟩
 refine⟨_,rfl,I.pg,C,dx,_,_,rfl,h1,T.cl,T.nF,mq _ _,I.fp,ai,_,rfl,h2,aX _ _ aq aq,I.fp,I.fo,I.fc,M,_,_,rfl,G.fr,?_⟩;refine⟨_,rfl,I.pg,C,dx,_,_,rfl,h1,T.cl,T.nS,tu _ _,I.sp,aB,_,rfl,h3,aX _ _ aq aq,I.sp,I.so,I.sc,M,_,_,rfl,G.sl,_,_,rfl,rfl,rfl,_,rfl,?_⟩;refine iV (λz=>?_) (λ_=>?_)
 .exfalso;have z:(((s'.ow true).count 0:Nat):Int)+(((s'.ow false).count 0:Nat):Int)=0:=(by simpa using z);rcases hf with h|h
  .have:=LR.mpr h;omega
  .have:=LR.mpr h;omega
 refine⟨_,rfl,I.pg,C,dx,_,_,rfl,h1,T.cl,T.nL,AQ _ _,_,_,rfl,rfl,dx,_,h1,by rw[AW];show 5<1000;decide,?_⟩;rw[EZ];have G1:=G.F2 (dx:=dx) ok (s'.ls+1);have O1:Off I.own H (upd H I.pg (.ins C dx (cH I (s'.ls+1)))):=Off.wr (PA.fP 0 rfl);have aT:bq K (upd H I.pg (.ins C dx (cH I (s'.ls+1)))) Y (cs.map V.int):=Rm.er as λo e=>(by rw[ah ap];exact e);have ab:=G1.alive O1 R.mt;have ac:upd H I.pg (.ins C dx (cH I (s'.ls+1))) I.pg=some (.ins C dx (cH I (s'.ls+1))):=ae;generalize upd H I.pg (.ins C dx (cH I (s'.ls+1)))=H1 at *;refine⟨_,rfl,I.pg,dx,_,rfl,ac,cF _ _ aq aq aq aq aq,_,rfl,I.pg,C,dx,_,_,rfl,ac,T.cl,T.nL,AQ _ _,_,rfl,Y,_,rfl,.inl aT,λl L=>?_⟩;refine⟨fE,λt J=>?_⟩;have O2:Off I.own H1 (upd (upd H1 l (.lst (cs.map V.int))) t (.tup [.ref l,.int 1])):=(Off.new L).trans (Off.new J);have a1:t≠l:=λe=>(by rw[e,ae]at J;cases J);have ht:upd (upd H1 l (.lst (cs.map V.int))) t (.tup [.ref l,.int 1]) t=some (.tup [.ref l,.int 1]):=ae;have hl:upd (upd H1 l (.lst (cs.map V.int))) t (.tup [.ref l,.int 1]) l=some (.lst (cs.map V.int)):=(by rw[ah (qw a1),ae]);have U:bH C CS (upd (upd H1 l (.lst (cs.map V.int))) t (.tup [.ref l,.int 1])) M I { s' with ls:=s'.ls+1 }:=(G1.keep (cJ L)).keep (cJ J);generalize upd (upd H1 l (.lst (cs.map V.int))) t (.tup [.ref l,.int 1])=H2 at *;have es:=Pg.wb R.gd;refine⟨M,I,Pg.next s',s'.ls+1,t,l,cs,1,rfl,U,ok,U.alive O2 ab,by rw[es];exact Pg.oH R.gd,hf,R.ne,R.cb,ht,hl,λz=>ab l z L,sS _,av,λH3 s3 O G3 O3=>?_⟩;rw[es]at O;obtain⟨am,h4⟩:=G3.ob;have a2:s3.ls=s'.ls+1:=(Pg.kB R.gd R.l0 h8 O).ls;refine⟨_,rfl,I.pg,C,am,_,_,rfl,h4,T.cl,T.nL,AQ _ _,?_⟩;rw[a2];exact q H3 s3 O G3 ((O1.trans O2).trans O3)
theorem He:aD ["self","sheet","place"] ["self","sheet"] (aw ve):=L2.bD
theorem zH {f C CS:Addr}{fd:rn}(F:cD K "fetch" "Paging.fetch" ve f fd) (T:nN K mg C) (Dk:Md P w K mg base aS 1 C "place" (iz C CS)) (ai:Md P w K mg base aS 6 C "bring_in" (iA C CS)) (am:Df P w K mg base aS 4 "lift" (qH CS)):aZ P w K mg base aS 7 f fd ["self","sheet"] (lh C CS):=by
 refine F.dg He (λaT A outer s H vs Q E U h=>?_);obtain⟨M,I,s',k,cs,c,rfl,R,Y,q⟩:=h;have G:=R.at_;have ok:=R.ok;have hc:=(R.gd.vw Y).1;obtain⟨b,n,J,e2,e3⟩:=id Y;obtain⟨dx,h1⟩:=G.ob;have hs:=BY;refine⟨_,(ag (dA 2 He.nd (pm (pv 0) T.cl Dk U az (aa (pv 1) aj)))
  (ag (aU (aE bR (a9 bh (pv 2) ak cq) aN (aI _)) (ag (aL (ig Lq Pw Pd oK (aM (pv 0) rfl) (aa (pv 1) aj)))
  (ag (aL (ig Lq Nt Nu j9 (aM (pv 0) rfl) (aa (pv 1) aj)))
  (ao pV))) aH)
  (ao (aL (pm (pv 0) T.cl ai U az (aa (pv 1) (aa (pc am U az (aa (aM (pv 0) rfl) (aa (a9 bh (pv 2) ak cq) aj))) aj))))))),?_⟩
 refine⟨_,rfl,I.pg,dx,_,rfl,h1,cF _ _ aq aq aq aq aq,_,rfl,M,I,s',k,b,n,rfl,G,J,λt ht=>?_⟩;refine⟨_,rfl,t,_,0,_,rfl,rfl,bZ.of ht,rfl,rfl,_,rfl,?_⟩;cases b with
 |true =>
  refine eI ?_;have hi:k∈s'.inf:=(R.gd.fi k).mpr ⟨n,J⟩;refine⟨_,rfl,I.pg,C,dx,_,_,rfl,h1,T.cl,T.nI,tW _ _,.inl ⟨rfl,_,bq.of G.il⟩,_,rfl,I.il,s'.inf,k,rfl,rfl,G.il,hi,?_⟩;have L:=G.mR ok (s'.inf.erase k);have S:Off I.own H (upd H I.il (.lst ((s'.inf.erase k).map V.int))):=Off.wr (PA.fP 6 rfl);generalize upd H I.il (.lst ((s'.inf.erase k).map V.int))=H1 at *;obtain⟨ac,h2⟩:=L.ob;have hl:=wR R.gd (G.le true);have a0:(s'.inf.erase k).length<=s'.inf.length:=List.length_erase_le;refine⟨_,rfl,I.pg,C,ac,_,_,rfl,h2,T.cl,T.nI,tW _ _,.inl ⟨rfl,_,bq.of L.il⟩,_,rfl,I.il,_,.int k,rfl,rfl,L.il,by rw[nq];show(s'.inf.erase k).length<_;omega,?_⟩;have O:=L.mR ok (s'.inf.erase k++[k]);rw[Kr]at O;exact q _ _ (.here J) O (S.trans (Off.wr (PA.fP 6 rfl)))
 |false =>
  refine bU ?_;obtain⟨N,rfl⟩:∃N:Nat,c=N:=⟨c.toNat,af⟩;have aB:=R.cb false _ (DD e3);refine⟨_,rfl,I.pg,dx,_,rfl,h1,cF _ _ aq aq aq aq aq,_,rfl,_,rfl,I.pg,C,dx,_,_,rfl,h1,T.cl,T.nS,tu _ _,_,rfl,t,_,1,_,rfl,rfl,bZ.of ht,rfl,?_⟩;refine⟨I.sp,I.so,I.sc,M,_,_,n,cs,N,rfl,G.sl,ok.m 5 rfl,ok.m 6 rfl,R.mt,ok.n 5 6 rfl rfl av,G.le false,e3,af,af,e2,?_⟩;intro H1 t1 l1 a1 ap nl as S1 S;have L:=G.As ok false S1 S (by rw[K9];exact G.le false);have ab:Off I.own H H1:=S.mono (PA.kH false);have es:=Pg.uE R.gd J;refine⟨M,I,Pg.cn s' false n 0,k,t1,l1,cs,N,rfl,L,ok,L.alive ab R.mt,by rw[es];exact Pg.jC R.gd J,.inr (Pg.rX R.gd J),R.ne,Pg.EY R.cb av,ap,as,nl,af,af,λH2 s2 hb O O2=>?_⟩;rw[es]at hb;exact q _ _ (.away J Y hb) O (ab.trans O2)
theorem JE:aD ["self","sheet"] ["self","sheet"] (aw wj):=L2.bD
theorem AD {f C CS:Addr}{fd:rn}(F:cD K "share" "Paging.share" wj f fd) (T:nN K mg C) (TS:Txt K mg CS) (ac:Md P w K mg base aS 2 C "store_of" (eS C CS)) (ai:Md P w K mg base aS 2 C "number_of" (de C CS)) (GM:Md P w K mg base aS 3 CS "more" (qx CS)):aZ P w K mg base aS 4 f fd ["self","sheet"] (qd C CS):=by
 refine F.dg JE (λam A outer s H vs Q E L h=>?_);obtain⟨M,I,s',k,b,n,cs,c,rfl,R,J,Y,q⟩:=h;have G:=R.at_;have ok:=R.ok;have hc:=(R.gd.vw Y).1;have O:=Pg.sQ J Y;obtain⟨dx,h1⟩:=G.ob;have S:=G.st b;obtain⟨ab,h2⟩:=S.ob;refine⟨_,(ao (aL (pm (pm (pv 0) T.cl ac L az (aa (pv 1) aj)) TS.cl GM L az (aa (pm (pv 0) T.cl ai L az (aa (pv 1) aj)) aj)))),?_⟩;refine⟨_,rfl,I.pg,dx,_,rfl,h1,cF _ _ aq aq aq aq aq,_,rfl,M,I,s',k,b,n,rfl,G,J,?_⟩;refine⟨_,ab,_,rfl,h2,aX _ _ aq aq,?_⟩;refine⟨_,rfl,I.pg,dx,_,rfl,h1,cF _ _ aq aq aq aq aq,_,rfl,M,I,s',k,b,n,rfl,G,J,?_⟩;refine⟨_,_,_,M,_,_,n,rfl,S,ok.mo b,ok.mc b,ok.oc b,G.le b,by rw[eO O];omega,λH1 N U=>?_⟩;rw[eO O,show(n:Int).toNat=n from L1 n]at N;exact q H1 (G.As ok b N U (by rw[K9];exact G.le b)) (U.mono (PA.kH b))
theorem ES:aD ["self","sheet","store","n"] ["self","sheet"] (aw uQ):=L2.bD
theorem Az {f C CS:Addr}{fd:rn}(F:cD K "leave" "Paging.leave" uQ f fd) (T:nN K mg C) (TS:Txt K mg CS) (ap:Md P w K mg base aS 2 C "store_of" (eS C CS)) (as:Md P w K mg base aS 2 C "number_of" (de C CS)) (GL:Md P w K mg base aS 3 CS "less" (rh CS)) (GC:Md P w K mg base aS 1 CS "count" (gx CS)):aZ P w K mg base aS 4 f fd ["self","sheet"] (k6 C CS):=by
 refine F.dg ES (λa0 A outer s H vs Q E N h=>?_);obtain⟨M,I,s',k,cs,c,rfl,G,ok,mt,gd,U,q⟩:=h;have hc:=(gd.vw U).1;obtain⟨b,n,J,e2,e3⟩:=id U;obtain⟨nl,_⟩:=j1.mp e3;obtain⟨dx,h1⟩:=G.ob;have S:=G.st b;obtain⟨aB,h2⟩:=S.ob;refine⟨_,(ag (dA 2 ES.nd (pm (pv 0) T.cl ap N az (aa (pv 1) aj)))
  (ag (dA 3 ES.nd (pm (pv 0) T.cl as N az (aa (pv 1) aj)))
  (ag (aL (pm (pv 2) TS.cl GL N az (aa (pv 3) aj)))
  (ag (aU (aE ij (pm (pv 2) TS.cl GC N az (aa (pv 3) aj)) ak (aI _)) (ao pV) aH)
  (ag (aU (aE bR (a9 bh (bt (bf N) (aM (pv 0) rfl) (pv 1) cq) ak cq) aN (aI _)) (ao (aL (ig Lq Pw Pd oK (aM (pv 0) rfl) (aa (pv 1) aj)))) aH)
  (ao (aL (eu (aM (pv 0) rfl) (pv 1) ⟨rfl,rfl,rfl,rfl⟩)))))))),?_⟩
 refine⟨_,rfl,I.pg,dx,_,rfl,h1,cF _ _ aq aq aq aq aq,_,rfl,M,I,s',k,b,n,rfl,G,J,?_⟩;refine⟨_,rfl,I.pg,dx,_,rfl,h1,cF _ _ aq aq aq aq aq,_,rfl,M,I,s',k,b,n,rfl,G,J,?_⟩;refine⟨_,rfl,_,aB,_,rfl,h2,aX _ _ aq aq,_,rfl,_,_,_,M,_,_,n,rfl,S,ok.mo b,ok.mc b,ok.oc b,G.le b,by rw[eO e3];omega,λH1 Y O1=>?_⟩;rw[eO e3,show(n:Int).toNat=n from L1 n]at Y;have L:=G.As ok b Y O1 (by rw[K9];exact G.le b);have ab:Off I.own H H1:=O1.mono (PA.kH b);obtain⟨am,h3⟩:=Y.ob;refine⟨_,rfl,_,am,_,rfl,h3,aX _ _ aq aq,_,rfl,_,_,_,M,_,_,n,rfl,Y,by rw[K9];exact G.le b,?_⟩;rw[fm nl];refine⟨_,_,rfl,rfl,_,rfl,?_⟩;by_cases z:(0:Int)<c-1
 .rw[decide_eq_true z];exact q _ _ (.more J U af) L ab
 .rw[decide_eq_false z];have ec:c=1:=af;subst ec;refine bU (z9 ?_);obtain⟨ai,h4⟩:=L.ob;obtain⟨l,hd,nd,ht,O,hn⟩:=L.pd;obtain⟨x,R,ex⟩:∃x,Tb.look l k=some x/\x.2=(b,n):=by
   have h9:(Tb.look l k).map (·.2)=some (b,n):=(O k).trans J;exact vr.mp h9
  have hg:dC H1 I.pd (.int k) (some (rH x)):=by
   have q9:=dC.k (k:=vu k) hd;rw[Tb.cI,R]at q9;exact q9
  have hm:=ht _ (Tb.aC R);rw[show x.2.1=b by rw[ex],show x.2.2=n by rw[ex]]at hm;dsimp only;refine share (λσ H9=>σ=[some (.ref I.pg),some (.int k),some (.ref (I.st b)),some (.int n)]/\bH C CS H9 M I { Pg.cn s' b n 0 with inf:=s'.inf.erase k }/\Off I.own H H9) (λu' ac=>?A) ?B
  case A =>
   refine⟨_,rfl,I.pg,C,ai,_,_,rfl,h4,T.cl,T.nP,oS _ _,_,rfl,I.pd,rH x,rfl,hg,x.1,_,0,_,rfl,rfl,bZ.of hm,rfl,rfl,_,rfl,?_⟩;cases b with
   |true =>
    refine eI ?_;have hi:k∈s'.inf:=(gd.fi k).mpr ⟨n,J⟩;refine⟨_,rfl,I.pg,C,ai,_,_,rfl,h4,T.cl,T.nI,tW _ _,.inl ⟨rfl,_,bq.of L.il⟩,_,rfl,I.il,s'.inf,k,rfl,rfl,L.il,hi,?_⟩;exact ac _ _ ⟨rfl,L.mR ok (s'.inf.erase k),ab.trans (Off.wr (PA.fP 6 rfl))⟩
   |false =>
    refine bU ?_;refine ac _ _ ⟨rfl,?_,ab⟩;rw[MQ (Pg.xr gd J)];exact L
  case B =>
   rintro σ H9 ⟨rfl,G9,O9⟩;obtain⟨aT,h5⟩:=G9.ob;obtain⟨l,hd,nd,ht,O,hn⟩:=G9.pd;obtain⟨x,R,ex⟩:∃x,Tb.look l k=some x/\x.2=(b,n):=by
    have h9:(Tb.look l k).map (·.2)=some (b,n):=(O k).trans J;exact vr.mp h9
   refine⟨_,rfl,I.pg,C,aT,_,_,rfl,h5,T.cl,T.nP,oS _ _,I.pd,rfl,.inl ⟨_,.inl hd⟩,_,rfl,_,vu k,rH x,hd,rfl,by rw[Tb.cI,R];rfl,?_⟩;rw[Tb.eE];exact q _ _ (.last J U) (G9.DT ok k hd nd ht O hn) (O9.trans (Off.wr (PA.fP 5 rfl)))
theorem GJ:aD ["self","sheet","cells","made"] ["self","sheet","cells"] (aw pW):=L2.bD
theorem yT {f C CS:Addr}{fd:rn}(F:cD K "change" "Paging.change" pW f fd) (T:nN K mg C) (TS:Txt K mg CS) (a0:Md P w K mg base aS 3 C "count" (lN C CS)) (a2:Md P w K mg base aS 7 C "new_sheet" (gr K C CS)) (aB:Md P w K mg base aS 4 C "leave" (k6 C CS)) (ap:Md P w K mg base aS 7 C "fetch" (lh C CS)) (a3:Md P w K mg base aS 2 C "number_of" (de C CS)) (GP:Md P w K mg base aS 3 CS "put" (xu K CS)):aZ P w K mg base aS 8 f fd ["self","sheet","cells"] (mP C CS):=by
 refine F.dg GJ (λa4 A outer s H vs Q E L h=>?_);obtain⟨M,I,s',k,ca,ab,O,cs,rfl,R,S,ai,ac,h8,hf,q1,q2⟩:=h;have G:=R.at_;have ok:=R.ok;have hc:=(R.gd.vw S).1;obtain⟨dx,h1⟩:=G.ob;refine⟨_,(ag (aU (aE ij (pm (pv 0) T.cl a0 L az (aa (pv 1) aj)) ak (aI _)) (ag (dA 3 GJ.nd (pm (pv 0) T.cl a2 L az (aa (pv 2) aj)))
  (ag (aL (pm (pv 0) T.cl aB L az (aa (pv 1) aj)))
  (ao (aG (pv 3))))) aH)
  (ag (aL (pm (pv 0) T.cl ap L az (aa (pv 1) aj)))
  (ag (aL (pm (aM (pv 0) rfl) TS.cl GP L az (aa (pm (pv 0) T.cl a3 L az (aa (pv 1) aj)) (aa (pv 2) aj))))
  (ao (aG (pv 1)))))),?_⟩
 refine⟨_,rfl,I.pg,dx,_,rfl,h1,cF _ _ aq aq aq aq aq,_,rfl,M,I,s',k,ab,O,rfl,G,S,?_⟩;refine⟨_,_,rfl,rfl,_,rfl,?_⟩;by_cases z:(1:Int)<O
 .rw[decide_eq_true z];refine⟨_,rfl,I.pg,dx,_,rfl,h1,cF _ _ aq aq aq aq aq,_,rfl,M,I,s',ca,cs,rfl,R,hf z,bq.of ai,λe=>ac (by rw[e];exact PA.fP 0 rfl),h8,λH1 U hb J N=>?_⟩;obtain⟨Y,h2⟩:=J.ob;have B:=Pg.kB R.gd R.l0 h8 hb;have kn:k≠s'.ls+1:=by
   intro e;obtain⟨x1,x2,y1,_⟩:=S;rw[e,Pg.eU R.gd]at y1;cases y1
  refine⟨_,rfl,I.pg,Y,_,rfl,h2,cF _ _ aq aq aq aq aq,_,rfl,M,I,U,k,ab,O,rfl,J,ok,J.alive N R.mt,B.good,(B.kept.ot _ _ _ kn).mpr S,λH2 s2 hl G2 O2=>?_⟩;exact⟨_,rfl,q1 z H2 U s2 hb hl G2 (N.trans O2)⟩
 .rw[decide_eq_false z];have ec:O=1:=af;refine⟨_,rfl,I.pg,dx,_,rfl,h1,cF _ _ aq aq aq aq aq,_,rfl,M,I,s',k,ab,O,rfl,R,S,λH1 U am J N=>?_⟩;have FF:=Pg.oE R.gd am;obtain⟨m,hm⟩:=FF.fr;have a1:=(FF.vw k ab O).mpr S;have e3:=Pg.sQ hm a1;obtain⟨Y,h2⟩:=J.ob;obtain⟨as,h3⟩:=J.fr.ob;have aT:=N _ _ ai ac;refine⟨_,rfl,I.pg,C,Y,_,_,rfl,h2,T.cl,T.nF,mq _ _,I.fp,as,_,rfl,h3,aX _ _ aq aq,?_⟩;refine⟨_,rfl,I.pg,Y,_,rfl,h2,cF _ _ aq aq aq aq aq,_,rfl,M,I,U,k,true,m,rfl,J,hm,?_⟩;refine⟨_,rfl,I.fp,I.fo,I.fc,ca,M,_,_,m,cs,rfl,J.fr,ok.m 2 rfl,ok.m 3 rfl,J.alive N R.mt,ok.n 2 3 rfl rfl av,(FF.good.ln true).symm,J.le true,by rw[eO e3];omega,bq.of aT,λH2 S2 O2=>?_⟩;rw[show(m:Int).toNat=m from L1 m]at S2;exact⟨_,rfl,q2 ec H2 U m am hm (J.Hy ok true S2 O2) (N.trans (O2.mono (PA.kH true)))⟩
end
end St
namespace Tb
open PySem L2
section
variable {α:Type}
theorem CU {l:List (Int×α)}{k:Int}(h:¬ k∈l.map (·.1)):a8 l k=l:=by
 unfold a8;rw[OE];intro y G;have:y.1≠k:=λe=>h (rk.mpr ⟨y,G,e⟩);simpa using this
theorem j5 {k:Int}{a:α}:∀{l:List (Int×α)},(l.map (·.1)).Nodup->look l k=some a->l.Perm ((k,a)::a8 l k)
 | [],_,h=>by cases h
 |x::r,I,h=>by
  obtain⟨L,J⟩:=Ky.mp (show(x.1::r.map (·.1)).Nodup from I);rw[aO]at h;by_cases c:x.1=k
  .rw[Th c]at h;have e:x=(k,a):=QZ c (ro h);have G:a8 (x::r) k=r:=by
    show filter _ (x::r)=r;rw[LW,Tg (by simp[c])];exact CU (c▸L)
   rw[G,e]
  .rw[Tg c]at h;have G:a8 (x::r) k=x::a8 r k:=by
    show filter _ (x::r)=_;rw[LW,Th (by simpa using c)];rfl
   rw[G];exact((j5 J h).cons x).trans (List.Perm.swap _ _ _)
theorem lj (l:List (Int×α)) (k:Int) (a:α):a8 (aY l k a) k=a8 l k:=by
 induction l with
 |nil=>rfl
 |cons x r G =>
  show filter _ ((if x.1=k then(k,a)else x)::aY r k a)=filter _ (x::r);by_cases c:x.1=k
  .rw[Th c,LW,Tg (by simp),LW,Tg (by simp[c])];exact G
  .rw[Tg c,LW,Th (by simpa using c),LW,Th (by simpa using c)];congr 1
theorem nA {l:List (Int×α)}{k:Int}(G:(l.map (·.1)).Nodup):((a8 l k).map (·.1)).Nodup:=G.sublist (List.Sublist.map _ List.filter_sublist)
theorem Et {l:List (Int×α)}{k:Int}{a:α}(G:(l.map (·.1)).Nodup):(((k,a)::a8 l k).map (·.1)).Nodup:=by
 refine Ky.mpr ⟨λh=>?_,nA G⟩;obtain⟨y,I,e⟩:=rk.mp h;have:=(ME.mp I).2;simp at this;exact this e
theorem mM {l:List (Int×α)}{k:Int}{x:Int×α}(h:x∈l) (G:x.1≠k):x∈a8 l k:=ME.mpr ⟨h,by simpa using G⟩
theorem qA {f:α->V}{l:List (Int×α)}{k:Int}{a b:α}(G:(l.map (·.1)).Nodup) (h:look l k=some b) (e:f a=f b):dk f (aY l k a)=dk f l:=by
 unfold dk aY;rw[Lx];refine LX λx I=>?_;show((vu (if x.1=k then(k,a)else x).1:Key),f (if x.1=k then(k,a)else x).2)=(vu x.1,f x.2);by_cases c:x.1=k
 .have:look l k=some x.2:=bL G (by rw[<-c];exact I);rw[h]at this;rw[Th c,c,e,ro this]
 .rw[Tg c]
theorem jQ (l:List (Int×α)) (k j:Int) (a:α):look ((k,a)::a8 l k) j=if j=k then some a else look l j:=by
 rw[aO,cf];by_cases c:j=k
 .rw[Th c.symm,Th c]
 .rw[Tg (qw c),Tg c,Tg c]
end
theorem TabAt.off {B:Addr->Prop}{C:Addr}{H H':Hp}{p fs:Addr}{tb:jk}(T:TabAt C H p fs tb) (o:Off B H H') (J:¬ B p) (I:∀b,eF fs tb b->¬ B b) (S:∀b xs,H b=some (.tup xs)->¬ B b):TabAt C H' p fs tb:=by
 obtain⟨⟨dx,h1⟩,h2,U,N,O,L,R⟩:=T;exact⟨⟨dx,o _ _ h1 J⟩,o _ _ h2 (I _ (.inl rfl)),λx G=>o _ _ (U x G) (I _ (.inr ⟨x,G,rfl⟩)),λx G=>(N x G).keep λb xs e=>o _ _ e (S b xs e),O,L,R⟩
theorem TabAt.dK {C:Addr}{H:Hp}{p fs:Addr}{tb:jk}(T:TabAt C H p fs tb) {b:Addr}(h:eF fs tb b):∃kvs,H b=some (.dK kvs):=by
 rcases h with h|⟨x,G,h⟩
 .exact⟨_,by rw[h];exact T.hf⟩
 .exact⟨_,by rw[h];exact T.hd x G⟩
end Tb
namespace St
open PySem L2
structure TD where
 p:Addr
 fs:Addr
 tb:Tb.jk
 t:List (Int×Pg.Ent)
abbrev di:=List (Int×TD)
def fR (x:TD):V:=.ref x.p
def yC:Pg.Ent->List V
 |none=>[.str "blank"]
 |some k=>[.str "sheet",.int k]
def TD.eF (x:TD):Addr->Prop:=Tb.eF x.fs x.tb
structure c6 (CT:Addr) (H:Hp) (x:TD):Prop where
 at_:Tb.TabAt CT H x.p x.fs x.tb
 nd:(x.t.map (·.1)).Nodup
 lk:∀q,Tb.cU x.tb q=(Tb.look x.t q).map yC
def su (t:List (Int×Pg.Ent)):List Pg.Ent:=t.map (·.2)
def ents (W:di):List Pg.Ent:=W.flatMap λx=>su x.2.t
theorem eT {W:di}{t:Int}{x:TD}(G:(W.map (·.1)).Nodup) (h:Tb.look W t=some x):(ents W).Perm (su x.t++ents (Tb.a8 W t)):=(Tb.j5 G h).flatMap_right _
theorem gX {W:di}{t:Int}{x y:TD}(G:(W.map (·.1)).Nodup) (h:Tb.look W t=some x):(ents (Tb.aY W t y)).Perm (su y.t++ents (Tb.a8 W t)):=by
 have:=eT (W:=Tb.aY W t y) (t:=t) (x:=y) (by rw[Tb.fh];exact G) (by rw[Tb.bO t h,Th rfl])
 rwa [Tb.lj]at this
theorem sv {t:List (Int×Pg.Ent)}{q:Int}{e:Pg.Ent}(G:(t.map (·.1)).Nodup) (h:Tb.look t q=some e):(su t).Perm (e::su (Tb.a8 t q)):=(Tb.j5 G h).map _
def dZ (pg:Addr) (t:Int) (rd:Addr):List (Str×V):=bj "rooms" (.ref rd) (bj "total" (.int t) (bj "paging" (.ref pg) []))
section
variable (pg:Addr) (t:Int) (rd:Addr)
theorem fw:(dZ pg t rd).lookup ("rooms" : Str)=some (.ref rd):=by
 unfold dZ;rw[aF,Th rfl]
theorem Fy:(dZ pg t rd).lookup ("total" : Str)=some (.int t):=by
 unfold dZ;rw[aF,Tg aq,aF,Th rfl]
theorem kN:(dZ pg t rd).lookup ("paging" : Str)=some (.ref pg):=by
 unfold dZ;rw[aF,Tg aq,aF,Tg aq,aF,Th rfl]
theorem fV {m:Str}(h1:¬ m = "rooms") (h2:¬ m = "total") (G:¬ m = "paging"):(dZ pg t rd).lookup m=none:=by
 unfold dZ;rw[aF,Tg h1,aF,Tg h2,aF,Tg G]
 all_goals rfl
end
def bC (s:Pg.PS):Int:=((s.ow true).length+(s.ow false).length:Nat)
theorem zw {s s':Pg.PS}(h:∀b,(s'.ow b).length=(s.ow b).length):bC s'=bC s:=by
 unfold bC;rw[h,h]
structure CA where
 C:Addr
 P:Addr
 S:Addr
 T:Addr
structure RA where
 A:PA
 rp:Addr
 rd:Addr
structure aA (c:CA) (H:Hp) (M:Addr->Prop) (a:RA) (s:Pg.PS) (W:di):Prop where
 ob:∃dx,H a.rp=some (.ins c.C dx (dZ a.A.pg (bC s) a.rd))
 pg:bH c.P c.S H M a.A s
 ok:a.A.Ok M
 mt:∀b,M b->H b≠none
 hd:H a.rd=some (.dK (Tb.dk fR W))
 nd:(W.map (·.1)).Nodup
 tb:∀x∈W,c6 c.T H x.2
 dm:∀x∈W,∀b,x.2.eF b->M b/\¬ a.A.own b/\b≠a.rd
 np:∀x∈W,¬ a.A.own x.2.p
 dj:∀x∈W,∀y∈W,x.1≠y.1->∀b,x.2.eF b->¬ y.2.eF b
 Dg:M a.rd
 Bx:¬ a.A.own a.rd
 y4:¬ a.A.own a.rp
def RA.own (a:RA) (W:di):Addr->Prop:=λb=>a.A.own b\/b=a.rd\/∃x∈W,x.2.eF b
structure Step (H:Hp) (M O:Addr->Prop) (H':Hp) (M' O':Addr->Prop):Prop where
 off:Off O H H'
 mm:∀b,M b->¬ O b->M' b
 mn:∀b,M' b->M b\/H b=none
 on:∀b,O' b->O b\/H b=none
 mt:∀b,M b->H b≠none
 om:∀b,O b->M b
theorem Step.gone {H H':Hp}{M O M' G:Addr->Prop}(a:Step H M O H' M' G) {b:Addr}(h:H' b=none):O b\/H b=none:=by
 cases e:H b with
 |none=>exact .inr rfl
 |some u =>
  by_cases z:O b
  .exact .inl z
  .rw[a.off b u e z]at h;cases h
theorem Step.trans {H H' G:Hp}{M O M' J L I:Addr->Prop}(a:Step H M O H' M' J) (b:Step H' M' J G L I):Step H M O G L I:=by
 refine⟨λx o e z=>b.off x o (a.off x o e z) λy=>?_,λx h z=>b.mm x (a.mm x h z) λy=>?_,λx h=>?_,λx h=>?_,a.mt,a.om⟩
 .rcases a.on x y with y|y
  .exact z y
  .rw[e]at y;cases y
 .rcases a.on x y with y|y
  .exact z y
  .exact a.mt x h y
 .rcases b.mn x h with h|h
  .exact a.mn x h
  .rcases a.gone h with h|h
   .exact .inl (a.om x h)
   .exact .inr h
 .rcases b.on x h with h|h
  .exact a.on x h
  .exact a.gone h
theorem dN.grow {M M':Addr->Prop}{H:Hp}(h:∀b,M' b->M b\/H b=none):∀{v:V}{x:Option (List Int)},dN H M v x->dN H M' v x
 |.non,none,_=>trivial
 |.ref a,some ns,⟨h1,h2⟩=>⟨λz=>(h a z).elim h1 λe=>(by rw[h2]at e;cases e),h2⟩
theorem aQ.grow {C p ow co:Addr}{M M':Addr->Prop}{os:List Int}{pg:List (Option (List Int))}{H:Hp}(S:aQ C H M p ow co os pg) (h:∀b,M' b->M b\/H b=none):aQ C H M' p ow co os pg:=by
 obtain⟨h1,G,cs,I,J⟩:=S;exact⟨h1,G,cs,I,Paired.yo J λ_ _ z=>z.grow h⟩
section
variable {A:PA}{M M' B:Addr->Prop}{H H':Hp}
theorem bH.pX {C CS:Addr}{s:Pg.PS}(G:bH C CS H M A s):∀b xs,H b=some (.tup xs)->¬ A.own b:=by
 intro b xs e y;obtain⟨dx,h1⟩:=G.ob;obtain⟨_,I,_⟩:=G.fr.hc;obtain⟨_,N,_⟩:=G.sl.hc;obtain⟨_,J,_⟩:=G.pd;have L:=G.fr.hw;have O:=G.sl.hw;have R:=G.il;unfold PA.own at y;simp only[E3,Km,or_false]at y;rcases y with y|y|y|y|y|y|y<;>rw[y]at e
 .rw[h1]at e;cases e
 .rw[L]at e;cases e
 .rw[I]at e;cases e
 .rw[O]at e;cases e
 .rw[N]at e;cases e
 .rw[J]at e;cases e
 .rw[R]at e;cases e
theorem aQ.less {C p ow co:Addr}{M M':Addr->Prop}{os:List Int}{pg:List (Option (List Int))}{H:Hp}(S:aQ C H M p ow co os pg) (h:∀b,M' b->M b):aQ C H M' p ow co os pg:=S.grow λb z=>.inl (h b z)
theorem bH.move {C CS:Addr}{s:Pg.PS}(G:bH C CS H M A s) (o:Off B H H') (N:∀b,B b->M b) (J:∀b,M' b->M b\/H b=none) (I:∀b,A.own b->¬ B b) (S:¬ B A.fp) (n2:¬ B A.sp) (R:∀b xs,H b=some (.tup xs)->¬ B b):bH C CS H' M' A s:=by
 obtain⟨dx,h1⟩:=G.ob;obtain⟨l,hd,nd,L,Y,U⟩:=G.pd;exact⟨⟨dx,o _ _ h1 (I _ (PA.fP 0 rfl))⟩,((G.fr.grow (M':=λb=>M b\/M' b) λb z=>z.elim .inl (J b)).off o (λb z=>.inl (N b z)) S (I _ (PA.fP 1 rfl)) (I _ (PA.fP 2 rfl))).less λb z=>.inr z,
  ((G.sl.grow (M':=λb=>M b\/M' b) λb z=>z.elim .inl (J b)).off o (λb z=>.inl (N b z)) n2 (I _ (PA.fP 3 rfl)) (I _ (PA.fP 4 rfl))).less λb z=>.inr z,o _ _ G.il (I _ (PA.fP 6 rfl)),G.le,
  ⟨l,o _ _ hd (I _ (PA.fP 5 rfl)),nd,λx O=>o _ _ (L x O) (R _ _ (L x O)),Y,U⟩⟩
end
section
variable {c:CA}{H H':Hp}{M M' B:Addr->Prop}{a:RA}{s s':Pg.PS}{W:di}{t:Int}{x y:TD}
theorem aA.Ih {es:List Pg.Ent}(R:aA c H M a s W) (G:Pg.RI s es):Gq c.P c.S H M a.A s:=⟨R.pg,R.ok,R.mt,G.good,G.ne,G.cb R.pg.le,G.l0⟩
theorem c6.off (T:c6 c.T H x) (o:Off B H H') (I:¬ B x.p) (J:∀b,x.eF b->¬ B b) (G:∀b xs,H b=some (.tup xs)->¬ B b):c6 c.T H' x:=⟨T.at_.off o I J G,T.nd,T.lk⟩
theorem aA.kr (R:aA c H M a s W) (G:bH c.P c.S H' M a.A s') (o:Off a.A.own H H') (J:∀b,(s'.ow b).length=(s.ow b).length):aA c H' M a s' W:=by
 obtain⟨dx,h1⟩:=R.ob;exact⟨⟨dx,by rw[zw J];exact o _ _ h1 R.y4⟩,G,R.ok,G.alive o R.mt,o _ _ R.hd R.Bx,R.nd,λx I=>(R.tb x I).off o (R.np x I) (λb z=>(R.dm x I b z).2.1) R.pg.pX,R.dm,R.np,R.dj,R.Dg,R.Bx,R.y4⟩
theorem aA.dB (R:aA c H M a s W):∀b,a.own W b->M b:=λb h=>by
 rcases h with h|h|⟨x,G,h⟩
 .exact R.ok.own b h
 .rw[h];exact R.Dg
 .exact(R.dm x G b h).1
theorem aA.refl (R:aA c H M a s W):Step H M (a.own W) H M (a.own W):=⟨λ_ _ e _=>e,λ_ h _=>h,λ_ h=>.inl h,λ_ h=>.inl h,R.mt,R.dB⟩
theorem aA.iO (R:aA c H M a s W) (e:bg H H'):Step H M (a.own W) H' M (a.own W):=⟨λb o h _=>e b o h,λ_ h _=>h,λ_ h=>.inl h,λ_ h=>.inl h,R.mt,R.dB⟩
theorem aA.GX (R:aA c H M a s W) (G:bH c.P c.S H' M a.A s') (o:Off a.A.own H H'):Step H M (a.own W) H' M (a.own W):=
 ⟨o.mono λ_ z=>.inl z,λ_ h _=>h,λ_ h=>.inl h,λ_ h=>.inl h,R.mt,R.dB⟩
theorem aA.same (R:aA c H M a s W) (e:bg H H'):aA c H' M a s W:=by
 obtain⟨dx,h1⟩:=R.ob;refine⟨⟨dx,e _ _ h1⟩,R.pg.keep (λb o h _=>e b o h),R.ok,λb I z=>?_,e _ _ R.hd,R.nd,λx G=>⟨(R.tb x G).at_.same e,(R.tb x G).nd,(R.tb x G).lk⟩,R.dm,R.np,R.dj,R.Dg,R.Bx,R.y4⟩;cases h:H b with
 |none=>exact R.mt b I h
 |some o=>rw[e b o h]at z;cases z
theorem aA.D8 (R:aA c H M a s W) (o:Off B H H') (G:∀b,B b->M b/\¬ a.own W b) (O:∀b,B b->(∃xs,H b=some (.lst xs))\/∃kvs,H b=some (.dK kvs)) (Y:∀b,M' b->M b\/H b=none) (L:∀b,M b->¬ B b->M' b) (mt:∀b,M' b->H' b≠none):aA c H' M' a s W:=by
 obtain⟨dx,h1⟩:=R.ob;have J:∀{b C dx fs},H b=some (.ins C dx fs)->¬ B b:=λe z=>by
  rcases O _ z with⟨_,h⟩|⟨_,h⟩
  .rw[e]at h;cases h
  .rw[e]at h;cases h
 have N:∀b xs,H b=some (.tup xs)->¬ B b:=λb xs e z=>by
  rcases O _ z with⟨_,h⟩|⟨_,h⟩
  .rw[e]at h;cases h
  .rw[e]at h;cases h
 obtain⟨ai,S⟩:=R.pg.fr.ob;obtain⟨ab,U⟩:=R.pg.sl.ob;refine⟨⟨dx,o _ _ h1 (J h1)⟩,R.pg.move o (λb z=>(G b z).1) Y (λb z y=>(G b y).2 (.inl z)) (J S) (J U) N,⟨R.ok.ds,λb z=>L b (R.ok.mm b z) λq=>?_⟩,mt,o _ _ R.hd (λz=>(G _ z).2 (.inr (.inl rfl))),R.nd,λx I=>?_,λx I b z=>⟨L b (R.dm x I b z).1 λq=>(G b q).2 (.inr (.inr ⟨x,I,z⟩)),(R.dm x I b z).2⟩,R.np,R.dj,L _ R.Dg (λz=>(G _ z).2 (.inr (.inl rfl))),R.Bx,R.y4⟩
 .simp only[E3,Km,or_false]at z;rcases z with z|z|z|z|z|z|z|z|z<;>rw[z]at q
  .exact(G _ q).2 (.inl (PA.fP 0 rfl))
  .exact J S q
  .exact(G _ q).2 (.inl (PA.fP 1 rfl))
  .exact(G _ q).2 (.inl (PA.fP 2 rfl))
  .exact J U q
  .exact(G _ q).2 (.inl (PA.fP 3 rfl))
  .exact(G _ q).2 (.inl (PA.fP 4 rfl))
  .exact(G _ q).2 (.inl (PA.fP 5 rfl))
  .exact(G _ q).2 (.inl (PA.fP 6 rfl))
 .obtain⟨ac,h3⟩:=(R.tb x I).at_.ob;exact(R.tb x I).off o (J h3) (λb z y=>(G b y).2 (.inr (.inr ⟨x,I,z⟩))) N
theorem aA.uG (R:aA c H M a s W) (hx:Tb.look W t=some x) (ep:y.p=x.p) (T:c6 c.T H' y) (o:Off x.eF H H') (hn:∀b,y.eF b->x.eF b\/H b=none):aA c H' (λb=>(M b/\¬ x.eF b)\/y.eF b) a s (Tb.aY W t y):=by
 have O:=Tb.aC hx;have X:=R.tb _ O;have dK:∀{b},x.eF b->∃kvs,H b=some (.dK kvs):=λz=>X.at_.dK z;have J:=R.dm _ O;have S:∀{b C dx fs},H b=some (.ins C dx fs)->¬ x.eF b:=λe z=>by
  obtain⟨_,h⟩:=dK z;rw[e]at h;cases h
 have nt:∀b xs,H b=some (.tup xs)->¬ x.eF b:=λb xs e z=>by
  obtain⟨_,h⟩:=dK z;rw[e]at h;cases h
 obtain⟨dx,h1⟩:=R.ob;obtain⟨aT,f1⟩:=R.pg.fr.ob;obtain⟨as,f2⟩:=R.pg.sl.ob;have hM:∀b,(M b/\¬ x.eF b)\/y.eF b->M b\/H b=none:=λb z=>z.elim (λz=>.inl z.1) λz=>(hn b z).elim (λz=>.inl (J b z).1) .inr;refine⟨⟨dx,o _ _ h1 (S h1)⟩,R.pg.move o (λb z=>(J b z).1) hM (λb z y=>(J b y).2.1 z) (S f1) (S f2) nt,⟨R.ok.ds,λb z=>.inl ⟨R.ok.mm b z,λq=>?_⟩⟩,λb z e=>?_,?_,by rw[Tb.fh];exact R.nd,λI G=>?_,λI G b z=>?_,λI G=>?_,λx1 ab x2 Y ai b L U=>?_,.inl ⟨R.Dg,λq=>(J _ q).2.2 rfl⟩,R.Bx,R.y4⟩
 .simp only[E3,Km,or_false]at z;rcases z with z|z|z|z|z|z|z|z|z<;>rw[z]at q
  .exact(J _ q).2.1 (PA.fP 0 rfl)
  .exact S f1 q
  .exact(J _ q).2.1 (PA.fP 1 rfl)
  .exact(J _ q).2.1 (PA.fP 2 rfl)
  .exact S f2 q
  .exact(J _ q).2.1 (PA.fP 3 rfl)
  .exact(J _ q).2.1 (PA.fP 4 rfl)
  .exact(J _ q).2.1 (PA.fP 5 rfl)
  .exact(J _ q).2.1 (PA.fP 6 rfl)
 .rcases z with z|z
  .cases e2:H b with
   |none=>exact R.mt b z.1 e2
   |some u=>rw[o b u e2 z.2]at e;cases e
  .obtain⟨_,h⟩:=T.at_.dK z;rw[e]at h;cases h
 .rw[Tb.qA R.nd hx (show V.ref y.p=V.ref x.p by rw[ep])];exact o _ _ R.hd λz=>(J _ z).2.2 rfl
 .rcases Tb.mem_set G with rfl|⟨G,N⟩
  .exact T
  .obtain⟨aB,h3⟩:=(R.tb I G).at_.ob;exact(R.tb I G).off o (S h3) (λb z z'=>R.dj I G _ O N b z z') nt
 .rcases Tb.mem_set G with rfl|⟨G,N⟩
  .refine⟨.inr z,?_⟩;rcases hn b z with z|z
   .exact(J b z).2
   .exact⟨λq=>R.mt b (R.ok.own b q) z,λq=>by rw[q,R.hd]at z;cases z⟩
  .exact⟨.inl ⟨(R.dm I G b z).1,λq=>R.dj I G _ O N b z q⟩,(R.dm I G b z).2⟩
 .rcases Tb.mem_set G with rfl|⟨G,N⟩
  .show ¬ a.A.own y.p;rw[ep];exact R.np _ O
  .exact R.np I G
 .have ac:∀I∈W,I.1≠t->∀b,I.2.eF b->¬ y.eF b:=λI G N b L U=>by
   rcases hn b U with z|z
   .exact R.dj I G _ O N b L z
   .obtain⟨_,h⟩:=(R.tb I G).at_.dK L;rw[z]at h;cases h
  rcases Tb.mem_set ab with rfl|⟨ab,ap⟩<;>rcases Tb.mem_set Y with rfl|⟨Y,am⟩
  .exact ai rfl
  .exact ac x2 Y am b U L
  .exact ac x1 ab ap b L U
  .exact R.dj x1 ab x2 Y ai b L U
theorem aA.qJ (R:aA c H M a s W) (L:Tb.look W t=some x) (o:Off x.eF H H') (J:∀b,y.eF b->x.eF b\/H b=none):Step H M (a.own W) H' (λb=>(M b/\¬ x.eF b)\/y.eF b) (a.own (Tb.aY W t y)):=by
 have G:=Tb.aC L;refine⟨o.mono λb z=>.inr (.inr ⟨_,G,z⟩),λb z q=>.inl ⟨z,λw=>q (.inr (.inr ⟨_,G,w⟩))⟩,λb z=>z.elim (λz=>.inl z.1) λz=>(J b z).elim (λz=>.inl (R.dm _ G b z).1) .inr,λb z=>?_,R.mt,R.dB⟩;rcases z with z|z|⟨N,I,z⟩
 .exact .inl (.inl z)
 .exact .inl (.inr (.inl z))
 .rcases Tb.mem_set I with rfl|⟨I,O⟩
  .exact(J b z).elim (λz=>.inl (.inr (.inr ⟨_,G,z⟩))) .inr
  .exact .inl (.inr (.inr ⟨N,I,z⟩))
theorem aA.FC (R:aA c H M a s W) {W':di}(U:(W'.map (·.1)).Nodup) (tb:∀x∈W',c6 c.T H x.2) (L:∀x∈W',∀b,x.2.eF b->M b/\¬ a.A.own b/\b≠a.rd) (np:∀x∈W',¬ a.A.own x.2.p) (O:∀x∈W',∀y∈W',x.1≠y.1->∀b,x.2.eF b->¬ y.2.eF b) :
  aA c (upd H a.rd (.dK (Tb.dk fR W'))) M a s W':=by
 have o:Off (· = a.rd) H (upd H a.rd (.dK (Tb.dk fR W'))):=λb o e z=>(by rw[ah z];exact e);have G:∀{b C dx fs},H b=some (.ins C dx fs)->¬ b=a.rd:=λe z=>(by rw[z,R.hd]at e;cases e);have J:∀b xs,H b=some (.tup xs)->¬ b=a.rd:=λb xs e z=>(by rw[z,R.hd]at e;cases e);have al:∀b,upd H a.rd (.dK (Tb.dk fR W')) b=none->H b=none:=λb e=>by
  by_cases z:b=a.rd
  .rw[z,ae]at e;cases e
  .rw[ah z]at e;exact e
 obtain⟨dx,h1⟩:=R.ob;obtain⟨ai,N⟩:=R.pg.fr.ob;obtain⟨ab,S⟩:=R.pg.sl.ob;refine⟨⟨dx,o _ _ h1 (G h1)⟩,R.pg.move o (λb z=>by rw[z];exact R.Dg) (λb z=>.inl z) (λb z y=>R.Bx (y▸z)) (G N) (G S) J,R.ok,λb Y e=>R.mt b Y (al b e),ae,U,λx I=>?_,L,np,O,R.Dg,R.Bx,R.y4⟩;obtain⟨ac,h3⟩:=(tb x I).at_.ob;exact(tb x I).off o (G h3) (λb z y=>(L x I b z).2.2 y) J
theorem aA.zN (R:aA c H M a s W) (U:Tb.look W t=none) (T:c6 c.T H y) (I:∀b,y.eF b->M b/\¬ a.own W b) (np:¬ a.A.own y.p):aA c (upd H a.rd (.dK (Tb.dk fR (W++[(t,y)])))) M a s (W++[(t,y)]):=by
 refine R.FC ?_ (λx G=>?_) (λx G=>?_) (λx G=>?_) (λS h1 O h2 N b J L=>?_)
 .rw[Kr];exact gy R.nd (Tb.bV U)
 .rcases pa.mp G with G|G
  .exact R.tb x G
  .rw[kQ.mp G];exact T
 .rcases pa.mp G with G|G
  .exact R.dm x G
  .rw[kQ.mp G];exact λb z=>⟨(I b z).1,λq=>(I b z).2 (.inl q),λq=>(I b z).2 (.inr (.inl q))⟩
 .rcases pa.mp G with G|G
  .exact R.np x G
  .rw[kQ.mp G];exact np
 .rcases pa.mp h1 with h1|h1<;>rcases pa.mp h2 with h2|h2
  .exact R.dj S h1 O h2 N b J L
  .rw[kQ.mp h2]at L;exact(I b L).2 (.inr (.inr ⟨S,h1,J⟩))
  .rw[kQ.mp h1]at J;exact(I b J).2 (.inr (.inr ⟨O,h2,L⟩))
  .exact N (by rw[kQ.mp h1,kQ.mp h2])
theorem aA.DU (R:aA c H M a s W) (t:Int):aA c (upd H a.rd (.dK (Tb.dk fR (Tb.a8 W t)))) M a s (Tb.a8 W t):=
 R.FC (Tb.nA R.nd) (λx G=>R.tb x (Tb.bX G).1) (λx G=>R.dm x (Tb.bX G).1) (λx G=>R.np x (Tb.bX G).1) (λx G y I=>R.dj x (Tb.bX G).1 y (Tb.bX I).1)
end
end St
namespace L2
open PySem PySem.Spec PyProof.Rows
def Ii (K:Kq):R2:=λx y H Q=>∃p q xs ys,x=.ref p/\y=.ref q/\bZ K H p xs/\bZ K H q ys/\xs.all cV=true/\ys.all cV=true/\Q (.bl (!gM xs ys)) H
section
variable {X:Cx}
theorem u6 (hu:X.A.units<Mt):j4 X (LB .NotEq) (Ii X.K):=by
 intro pins s σ H x y v u Q I rx U h;obtain⟨p,q,xs,ys,rfl,rfl,hx,R,fx,fy,hq⟩:=h;cases rx;cases U;obtain⟨its,r,pl,hz⟩:=I.tuple hx;obtain⟨N,L,am,ap⟩:=I.tuple R;have hl:=r.length;have ai:=L.length;refine Si (e:=λj=>jV (xs.getD j .non) (ys.getD j .non)) pl am hu (λj h1 h2=>?_) _ _ _ _ ⟨.bl (!gM xs ys),H,I,?_,hq⟩
 .rw[qj]at h1 h2;have G:j<xs.length:=af;have J:j<ys.length:=af;obtain⟨a,ea,Y⟩:=r.get (i:=j) (x:=xs[j]) (by simp[G]);obtain⟨b,eb,rb⟩:=L.get (i:=j) (x:=ys[j]) (by simp[J]);obtain⟨_,ab⟩:=j1.mp ea;obtain⟨_,ac⟩:=j1.mp eb;have S:xs.getD j .non=xs[j]:=(by simp[G]);have O:ys.getD j .non=ys[j]:=(by simp[J]);show Mp _ _ its.toArray[j] N.toArray[j] (jV (xs.getD j .non) (ys.getD j .non));have a1:its.toArray[j]=a:=(by simpa using ab);have a2:N.toArray[j]=b:=(by simpa using ac);rw[S,O,a1,a2];exact iX Y rb (KH.mp fx _ (LK G)) (KH.mp fy _ (LK J))
 .show Value.bool _=Value.bool _;rw[qj,qj, <-hl, <-ai,oU]
end
end L2
namespace St
open PySem L2
abbrev qI:KO:=top 17
abbrev qT:KO:=top 18
abbrev uW:KO:=top 19
abbrev qh:KO:=inClass (top 33) 1
abbrev qt:KO:=inClass (top 33) 2
abbrev Ah:KO:=inClass (top 33) 3
abbrev vb:KO:=inClass (top 33) 4
abbrev uK:KO:=inClass (top 33) 5
abbrev vL:KO:=inClass (top 33) 6
abbrev vh:KO:=inClass (top 33) 7
abbrev um:KO:=inClass (top 33) 8
abbrev qZ:KO:=inClass (top 33) 9
abbrev rD:KO:=inClass (top 33) 11
abbrev qm:KO:=inClass (top 33) 12
abbrev qy:KO:=inClass (top 33) 13
structure oV (K:Kq) (mg:Str->Option Value) (c:CA):Prop where
 cl:rG K c.C
 nP:cQ K c.C "paging"
 nT:cQ K c.C "total"
 nR:cQ K c.C "rooms"
 bl:∃aB,mg "BLANK" = some (.ref aB)/\bZ K (λ_=>none) aB [.str "blank"]
 pc:∃u,mg "PAGE_CELLS" = some u/\RelV (.int 8) u
 len:mg "len" = none
 sum:mg "sum" = none
 zip:mg "zip" = none
def Cv (s:Pg.PS) (W:di) (cv:Int->Int->List Int):Prop:=∀t x,Tb.look W t=some x->∀q e,Tb.look x.t q=some e->Pg.yi s e (cv t q)
theorem jR {W:di}{t q:Int}{x:TD}{e:Pg.Ent}(G:Tb.look W t=some x) (I:Tb.look x.t q=some e):e∈ents W :=
 NW.mpr ⟨(t,x),Tb.aC G,rk.mpr ⟨(q,e),Tb.aC I,rfl⟩⟩
theorem Cv.next {s s':Pg.PS}{W W':di}{cv:Int->Int->List Int}(h:Cv s W cv) (hs:Pg.bg (ents W') s s') (L:∀t G,Tb.look W' t=some G->∃x,Tb.look W t=some x/\∀q e,Tb.look G.t q=some e->Tb.look x.t q=some e):Cv s' W' cv:=by
 intro t G J q e I;obtain⟨x,h1,h2⟩:=L t G J;exact hs e (jR J I) _ (h t x h1 q e (h2 q e I))
theorem Cv.keep {s s':Pg.PS}{W:di}{cv:Int->Int->List Int}(h:Cv s W cv) (hs:Pg.bg (ents W) s s'):Cv s' W cv:=h.next hs λt x G=>⟨x,G,λ_ _ e=>e⟩
theorem eX {W:di}{t:Int}{x y:TD}(h:Tb.look W t=some x):Tb.look (Tb.aY W t y) t=some y:=by rw[Tb.bO t h,Th rfl]
theorem set_set {W:di}{t:Int}{x y:TD}:Tb.aY (Tb.aY W t x) t y=Tb.aY W t y:=by
 unfold Tb.aY;rw[Lx];refine LX λz _=>?_;show(if (if z.1=t then(t,x)else z).1=t then(t,y)else(if z.1=t then(t,x)else z))=if z.1=t then(t,y)else z
 by_cases c:z.1=t
 .rw[Th c,Th rfl,Th c]
 .simp only[Tg c]
theorem cG {W:di}{t:Int}{x:TD}(I:(W.map (·.1)).Nodup) (h:Tb.look W t=some x):Tb.aY W t x=W:=by
 unfold Tb.aY
 conv=>rhs;rw[<-SY W]
 refine LX λz G=>?_;show(if z.1=t then(t,x)else z)=z;by_cases c:z.1=t
 .have:=Tb.bL I G;rw[c,h]at this;rw[Th c,ro this, <-c]
 .rw[Tg c]
theorem xP {W:di}{t q:Int}{x y:TD}{e:Pg.Ent}(G:(W.map (·.1)).Nodup) (I:Tb.look W t=some x) (nx:(x.t.map (·.1)).Nodup) (L:Tb.look x.t q=some e) (J:y.t=Tb.a8 x.t q):(ents W).Perm (e::ents (Tb.aY W t y)):=by
 refine(eT G I).trans (((sv nx L).append_right _).trans ?_);rw[<-J];exact((gX G I).symm).cons e
theorem AU {W:di}{t q:Int}{x y:TD}{e:Pg.Ent}(G:(W.map (·.1)).Nodup) (J:Tb.look W t=some x) (I:y.t=(q,e)::Tb.a8 x.t q):(ents (Tb.aY W t y)).Perm (e::(su (Tb.a8 x.t q)++ents (Tb.a8 W t))):=by
 refine(gX G J).trans ?_;rw[I];exact List.Perm.refl _
theorem c6.mem {c:CA}{H:Hp}{x:TD}(T:c6 c.T H x) {ns:List Int}(p:ns.Perm (Tb.fG x.tb)) (q:Int):q∈ns↔Tb.look x.t q≠none:=by
 rw[p.mem_iff,Tb.si T.at_,T.lk];cases Tb.look x.t q<;>simp
theorem c6.pg {c:CA}{H:Hp}{x:TD}(T:c6 c.T H x) {q:Int}(h:Tb.look x.t q≠none):0<=q/\q<64:=T.at_.wL (by
 rw[T.lk];cases e:Tb.look x.t q with
 |none=>exact absurd e h
 |some _=>simp)
inductive dY (vs:List V) (H:Hp) (Q:VK) (e3:XK):Prop
 |mk (a:Addr) (W:di) (t:Int) (x:TD) (_:vs=[.ref a,.int t]) (_:H a=some (.dK (Tb.dk fR W))) (_:Tb.look W t=some x) (_:Q (.ref x.p) H):dY vs H Q e3
inductive js (vs:List V) (H:Hp) (Q:VK) (e3:XK):Prop
 |mk (a:Addr) (W:di) (t:Int) (_:vs=[.ref a,.int t]) (_:H a=some (.dK (Tb.dk fR W))) (_:Tb.look W t=none) (_:Q .non H):js vs H Q e3
inductive lK (vs:List V) (H:Hp) (Q:VK) (e3:XK):Prop
 |mk (h t:Int) (_:vs=[.int h,.int t]) (_:¬ t<h) (_:Q .non H):lK vs H Q e3
inductive eQ (c:CA) (vs:List V) (H:Hp) (Q:VK) (e3:XK):Prop
 |mk (M:Addr->Prop) (a:RA) (s:Pg.PS) (W:di) (cv:Int->Int->List Int) (t:Int) (x:TD) (lp:Addr) (ps:List Int) (_:vs=[.ref a.rp,.ref x.p,.ref lp]) (_:aA c H M a s W) (_:Pg.RI s (ents W)) (_:Cv s W cv) (_:Tb.look W t=some x) (_:H lp=some (.lst (ps.map V.int))) (_:¬ M lp) (_:ps.Nodup) (_:(∀q∈ps,Tb.look x.t q≠none)) (_:∀(H':Hp) (M':Addr->Prop) (s':Pg.PS) (y:TD),aA c H' M' a s' (Tb.aY W t y)->Pg.RI s' (ents (Tb.aY W t y))->Cv s' (Tb.aY W t y) cv->(∀q,Tb.look y.t q=if q∈ps then none else Tb.look x.t q)->Step H M (a.own W) H' M' (a.own (Tb.aY W t y))->(∀b,(s'.ow b).length=(s.ow b).length)->Q .non H'):eQ c vs H Q e3
inductive uI (c:CA) (vs:List V) (H:Hp) (Q:VK) (e3:XK):Prop
 |mk (M:Addr->Prop) (a:RA) (s:Pg.PS) (W:di) (cv:Int->Int->List Int) (t p m:Int) (x:TD) (_:vs=[.ref a.rp,.int t,.int p,.int m]) (_:aA c H M a s W) (_:Pg.RI s (ents W)) (_:Cv s W cv) (_:Tb.look W t=some x) (_:¬ Rm.cg p m) (_:(∀q∈Rm.aK p m,Tb.look x.t q≠none)) (_:∀(H':Hp) (M':Addr->Prop) (s':Pg.PS) (y:TD),aA c H' M' a s' (Tb.aY W t y)->Pg.RI s' (ents (Tb.aY W t y))->Cv s' (Tb.aY W t y) cv->(∀q,Tb.look y.t q=if q∈Rm.aK p m then none else Tb.look x.t q)->Step H M (a.own W) H' M' (a.own (Tb.aY W t y))->(∀b,(s'.ow b).length=(s.ow b).length)->Q .non H'):uI c vs H Q e3
inductive mF (c:CA) (vs:List V) (H:Hp) (Q:VK) (e3:XK):Prop
 |mk (M:Addr->Prop) (a:RA) (s:Pg.PS) (W:di) (cv:Int->Int->List Int) (t:Int) (x:TD) (_:vs=[.ref a.rp,.int t]) (_:aA c H M a s W) (_:Pg.RI s (ents W)) (_:Cv s W cv) (_:Tb.look W t=some x) (_:∀(H':Hp) (M':Addr->Prop) (s':Pg.PS),aA c H' M' a s' (Tb.a8 W t)->Pg.RI s' (ents (Tb.a8 W t))->Cv s' (Tb.a8 W t) cv->Step H M (a.own W) H' M' (a.own (Tb.a8 W t))->(∀b,(s'.ow b).length=(s.ow b).length)->Q .non H'):mF c vs H Q e3
inductive nH (c:CA) (vs:List V) (H:Hp) (Q:VK) (e3:XK):Prop
 |mk (M:Addr->Prop) (a:RA) (s:Pg.PS) (W:di) (t:Int) (_:vs=[.ref a.rp,.int t]) (_:aA c H M a s W) (_:Tb.look W t=none) (_:W.length<=1000) (_:∀(H':Hp) (M':Addr->Prop) (y:TD),y.t=[]->aA c H' M' a s (W++[(t,y)])->Step H M (a.own W) H' M' (a.own (W++[(t,y)]))->Q .non H'):nH c vs H Q e3
section
variable {P:ti}{w:Kl}{K:Kq}{mg:Str->Option Value}{base:Heap}
theorem fO {α:Type}{f:α->V}{H:Hp}{a:Addr}{l:List (Int×α)}{t:Int}(h:H a=some (.dK (Tb.dk f l))):dC H a (.int t) ((Tb.look l t).map f):=by
 have q:=dC.k (k:=vu t) h;rw[Tb.cI]at q;exact q
theorem Jz:aD ["rooms","task"] ["rooms","task"] (aw qI):=L2.bD
theorem xV {f:Addr}{fd:rn}(F:cD K "room_of" "room_of" qI f fd):aZ P w K mg base aS 1 f fd ["rooms","task"] dY:=by
 refine F.dg Jz (λN A outer s H vs Q E I h=>?_);obtain⟨a,W,t,x,rfl,J,L,k⟩:=h;refine⟨_,(ag (aU (jd (fY (bf I) (pv 1) (pv 0))) cN aH)
  (ao (aG (bt (bf I) (pv 0) (pv 1) cq)))),?_⟩
 have G:=fO (t:=t) J;rw[L]at G;exact⟨_,rfl,_,rfl,a,_,rfl,G,_,rfl,bU ⟨_,rfl,_,rfl,a,fR x,rfl,G,k⟩⟩
theorem Iy:aD ["rooms","task"] ["rooms","task"] (aw qT):=L2.bD
theorem yL {f:Addr}{fd:rn}(F:cD K "refuse_second_room" "refuse_second_room" qT f fd):aZ P w K mg base aS 1 f fd ["rooms","task"] js:=by
 refine F.dg Iy (λN A outer s H vs Q E J h=>?_);obtain⟨a,W,t,rfl,I,L,k⟩:=h;refine⟨_,(ao (aU (jd (ny (bf J) (pv 1) (pv 0))) cN aH)),?_⟩;have G:=fO (t:=t) I;rw[L]at G;exact⟨_,rfl,_,rfl,a,_,rfl,G,_,rfl,bU k⟩
theorem IW:aD ["held","total"] ["held","total"] (aw uW):=L2.bD
theorem Bv {f:Addr}{fd:rn}(F:cD K "refuse_above" "refuse_above" uW f fd):aZ P w K mg base aS 1 f fd ["held","total"] lK:=by
 refine F.dg IW (λI A outer s H vs Q E J h=>?_);obtain⟨h,t,rfl,G,k⟩:=h;refine⟨_,(ao (aU (aE ij (pv 0) (pv 1) (aI _)) cN aH)),?_⟩;refine⟨_,rfl,_,rfl,_,_,rfl,rfl,_,rfl,?_⟩;exact iV (λc=>absurd (of_decide_eq_true c) G) (λc=>k)
theorem EL:aD ["self","table","pages","page","entry"] ["self","table","pages"] (aw rD):=L2.bD
theorem oa {f:Addr}{fd:rn}{c:CA}(F:cD K "leave_pages" "Rooms.leave_pages" rD f fd) (T:oV K mg c) (TT:Tb.Txt K mg c.T) (TP:nN K mg c.P) (GG:Md P w K mg base aS 3 c.T "get" (Tb.lS c.T)) (GK:Md P w K mg base aS 1 c.T "clear" (Tb.rl c.T)) (bE:Md P w K mg base aS 4 c.P "leave" (k6 c.P c.S)):aZ P w K mg base aS 5 f fd ["self","table","pages"] (eQ c):=by
 obtain⟨aB,mB,sB⟩:=T.bl;have rB:RelV (.ref aB) (.ref aB):=rfl;refine F.dg EL (λb0 A outer s H vs Q E hr h=>?_);obtain⟨M,a,s',W,cv,t,x,lp,ps,rfl,R,ri,bn,Y,a3,bi,bc,ba,q⟩:=h;refine⟨_,(ao (cL Kt rfl (eK (pv 2)) (gG 3 EL.nd) (ag (dA 4 EL.nd (pm (pv 1) TT.cl GG hr az (aa (pv 3) aj)))
  (ag (aL (pm (pv 1) TT.cl GK hr az (aa (pv 3) aj)))
  (ao (aU (aE (u6 hr.gv) (pv 4) (cj (by rfl) mB rB) (aI _)) (ao (aL (pm (aM (pv 0) rfl) TP.cl bE hr az (aa (a9 bh (pv 4) ak cq) aj)))) aH)))))),?_⟩
 have bx:¬ a.own W lp:=λz=>bi (R.dB lp z);refine⟨_,rfl,lp,rfl,⟨_,bq.of a3⟩,?_⟩;refine eh (K:=K) (a:=lp) (xs:=ps.map V.int) (λi σ H2=>BF λ(v3 v4:Option V) (M2:Addr->Prop) (G:Pg.PS) (y:TD)=>Ic (σ=[some (.ref a.rp),some (.ref y.p),some (.ref lp),v3,v4]) (aA c H2 M2 a G (Tb.aY W t y)) (Pg.RI G (ents (Tb.aY W t y))) (Cv G (Tb.aY W t y) cv) ((∀q,Tb.look y.t q=if q∈ps.take i then none else Tb.look x.t q)) (Step H M (a.own W) H2 M2 (a.own (Tb.aY W t y))) (∀b,(G.ow b).length=(s'.ow b).length))
  ⟨_,_,M,s',x,rfl,by rw[cG R.nd Y];exact R,by rw[cG R.nd Y];exact ri,by rw[cG R.nd Y];exact bn,λq=>by simp,by rw[cG R.nd Y];exact R.refl,λ_=>rfl⟩ (λi σ H2 _ z0=>by obtain⟨_,_,_,_,_,_,_,_,_,_,st,_⟩:=z0;exact bq.of (st.off _ _ a3 bx)) ?_ ?_
 .rintro i u σ H2 hu ⟨v3,v4,M2,G,y,rfl,R2,as,ap,ac,aT,am⟩;rw[wh]at hu;obtain⟨p,hp,rfl⟩:=vr.mp hu;have bI:=DD hp;obtain⟨hi,b1⟩:=j1.mp hp;have a6:¬ p∈ps.take i:=λz=>by
   obtain⟨j,hj,e⟩:=Mc z;rw[NH]at e;rw[Kv]at hj;exact pF bc j i (IF af) hp af e
  have ai:=eX (y:=y) Y;obtain⟨e,he⟩:∃e,Tb.look y.t p=some e:=by
   rw[ac p,Tg a6];cases z:Tb.look x.t p with
   |none=>exact absurd z (ba p bI)
   |some e=>exact⟨e,rfl⟩
  have T2:=R2.tb _ (Tb.aC ai);obtain⟨bY,ht⟩:=T2.at_.ob;refine⟨_,rfl,y.p,bY,_,rfl,ht,Tb.aX _ aq,_,rfl,y.p,y.fs,y.tb,p,rfl,T2.at_,λH3 v s3 N=>?_⟩;rw[T2.lk,he]at N;obtain⟨tt,rfl,a1⟩:=N;have R3:=R2.same s3;have T3:=R3.tb _ (Tb.aC ai);obtain⟨bm,a7⟩:=T3.at_.ob;refine⟨_,rfl,y.p,bm,_,rfl,a7,Tb.aX _ aq,_,rfl,y.p,y.fs,y.tb,p,rfl,T3.at_,λH4 O T4 l4 _ o4 n4=>?_⟩;have bv:c6 c.T H4 ⟨y.p,y.fs,O,Tb.a8 y.t p⟩:=⟨T4,Tb.nA T3.nd,λj=>by
   rw[l4 j,Tb.cf];by_cases z:j=p
   .rw[Th z,Th z];rfl
   .rw[Tg z,Tg z];exact T3.lk j⟩
  have I:=R3.uG (y:=⟨y.p,y.fs,O,Tb.a8 y.t p⟩) ai rfl bv o4 n4;have S4:=aT.trans ((R2.iO s3).trans (R3.qJ (y:=⟨y.p,y.fs,O,Tb.a8 y.t p⟩) ai o4 n4));have pe:=xP (y:=⟨y.p,y.fs,O,Tb.a8 y.t p⟩) R2.nd ai T2.nd he rfl;rw[set_set]at I S4 pe;have ab:=as.perm pe;have a4:∀j,Tb.look (Tb.a8 y.t p) j=if j∈ps.take (i+1)then none else Tb.look x.t j:=λj=>by
   rw[Tb.cf,ac j,Lu,hp];by_cases z:j=p
   .rw[Th z,Th (by rw[z];simp)]
   .rw[Tg z];by_cases J:j∈ps.take i
    .rw[Th J,Th (Lp _ J)]
    .rw[Tg J,Tg (by simp[z,J])]
  have a2:∀t' x',Tb.look (Tb.aY W t ⟨y.p,y.fs,O,Tb.a8 y.t p⟩) t'=some x'->∃a5,Tb.look (Tb.aY W t y) t'=some a5/\∀q e,Tb.look x'.t q=some e->Tb.look a5.t q=some e:=by
   intro t' x' h';rw[Tb.bO t' Y]at h' ⊢;by_cases z:t'=t
   .rw[Th z]at h' ⊢;cases h';refine⟨y,rfl,λq e U=>?_⟩;have U:Tb.look (Tb.a8 y.t p) q=some e:=U;rw[Tb.cf]at U;by_cases J:q=p
    .rw[Th J]at U;cases U
    .rw[Tg J]at U;exact U
   .rw[Tg z]at h' ⊢;exact⟨x',h',λ_ _ h=>h⟩
  have bz:¬ y.eF tt:=λz=>by
   obtain⟨_,h⟩:=T3.at_.dK z;rw[a1]at h;cases h
  have a0:=o4 _ _ a1 bz;refine⟨_,rfl,tt,aB,_,_,rfl,rfl,bZ.of a0,iL.sq (.inr sB),?_⟩;cases e with
  |none =>
   refine⟨rfl,rfl,_,rfl,bU ?_⟩;exact⟨_,_,_,G,⟨y.p,y.fs,O,Tb.a8 y.t p⟩,rfl,I,ab.bare,ap.next Pg.bg.refl a2,a4,S4,am⟩
  |some k =>
   refine⟨rfl,rfl,_,rfl,eI ?_⟩;obtain⟨be,bb⟩:=I.ob;obtain⟨bd,bA⟩:=I.pg.ob;obtain⟨cs,cc,N⟩:=ab.is k KW;refine⟨_,rfl,a.rp,c.C,be,_,_,rfl,bb,T.cl,T.nP,kN _ _ _,a.A.pg,bd,_,rfl,bA,cF _ _ aq aq aq aq aq,_,rfl,tt,_,1,_,rfl,rfl,bZ.of a0,rfl,_,a.A,G,k,cs,cc,rfl,I.pg,I.ok,I.mt,ab.good,N,λH5 s5 le G5 O5=>?_⟩;have L:=Pg.wF ab.good N le;exact⟨_,_,_,s5,⟨y.p,y.fs,O,Tb.a8 y.t p⟩,rfl,I.kr G5 O5 L.ln,ab.leave N le,ap.next (ab.vN N le) a2,a4,S4.trans (I.GX G5 O5),λb=>(L.ln b).trans (am b)⟩
 .rintro σ H2 ⟨v3,v4,M2,G,y,rfl,R2,as,ap,ac,aT,am⟩;rw[nq,LC]at ac;exact q H2 M2 G y R2 as ap ac aT am
theorem Gr:aD ["self","task","page","many","table"] ["self","task","page","many"] (aw vb):=L2.bD
theorem BG {f:Addr}{fd:rn}{c:CA}(F:cD K "drop" "Rooms.drop" vb f fd) (T:oV K mg c) (TT:Tb.Txt K mg c.T) (GR:Df P w K mg base aS 1 "room_of" dY) (GD:Df P w K mg base aS 2 "pages_to_drop" Rm.nr) (aB:Md P w K mg base aS 1 c.T "pages" (Tb.eL c.T)) (ab:Md P w K mg base aS 5 c.C "leave_pages" (eQ c)):aZ P w K mg base aS 6 f fd ["self","task","page","many"] (uI c):=by
 refine F.dg Gr (λa5 A outer s H vs Q E G h=>?_);obtain⟨M,a,s',W,cv,t,p,m,x,rfl,R,ri,am,J,I,O,q⟩:=h;obtain⟨dx,U⟩:=R.ob;have L:=R.tb _ (Tb.aC J);obtain⟨a3,ht⟩:=L.at_.ob;have b1:¬ m<1:=λz=>I (.inl z);have b2:¬ p<0:=λz=>I (.inr (.inl z));have b3:¬ 64<p+m:=λz=>I (.inr (.inr z));refine⟨_,(ag (dA 4 Gr.nd (pc GR G az (aa (aM (pv 0) rfl) (aa (pv 1) aj))))
  (ao (aL (pm (pv 0) T.cl ab G az (aa (pv 4) (aa (pc GD G az (aa (qz (pv 4) TT.cl aB G az) (aa (pv 2) (aa (pv 3) aj)))) aj)))))),?_⟩
 refine⟨_,rfl,a.rp,c.C,dx,_,_,rfl,U,T.cl,T.nR,fw _ _ _,_,rfl,a.rd,W,t,x,rfl,R.hd,J,?_⟩;refine⟨_,rfl,a.rp,dx,_,rfl,U,fV _ _ _ aq aq aq,_,rfl,_,rfl,x.p,a3,_,rfl,ht,Tb.aX _ aq,x.p,x.fs,x.tb,rfl,L.at_,λH1 Y ns N a7 a2 pm a6=>?_⟩;refine⟨_,rfl,_,rfl,Y,ns,p,m,rfl,a2,I,λq hq=>(L.mem pm q).mpr (O q hq),λH2 l2 s2 a4 a1=>?_⟩
 .have S:=N.trans s2;refine⟨M,a,s',W,cv,t,x,l2,Rm.aK p m,rfl,R.same S,ri,am,J,a1,λz=>R.mt _ z (N.free a4),?_,O,λH3 M3 s3 y R3 as a0 ai ap ac=>q H3 M3 s3 y R3 as a0 ai ((R.iO S).trans ap) ac⟩;unfold Rm.aK;refine MW.mpr (Py.imp ?_);intro i j aT e;exact aT af
theorem FU:aD ["self","task","table"] ["self","task"] (aw qt):=L2.bD
theorem xK {f:Addr}{fd:rn}{c:CA}(F:cD K "close" "Rooms.close" qt f fd) (T:oV K mg c) (TT:Tb.Txt K mg c.T) (GR:Df P w K mg base aS 1 "room_of" dY) (aT:Md P w K mg base aS 1 c.T "pages" (Tb.eL c.T)) (ac:Md P w K mg base aS 5 c.C "leave_pages" (eQ c)):aZ P w K mg base aS 6 f fd ["self","task"] (mF c):=by
 refine F.dg FU (λa6 A outer s H vs Q E S h=>?_);obtain⟨M,a,s',W,cv,t,x,rfl,R,ri,ap,I,q⟩:=h;obtain⟨dx,ho⟩:=R.ob;have J:=R.tb _ (Tb.aC I);obtain⟨a4,ht⟩:=J.at_.ob;refine⟨_,(ag (dA 2 FU.nd (pc GR S az (aa (aM (pv 0) rfl) (aa (pv 1) aj))))
  (ag (aL (pm (pv 0) T.cl ac S az (aa (pv 2) (aa (qz (pv 2) TT.cl aT S az) aj))))
  (ao (aL (eu (aM (pv 0) rfl) (pv 1) ⟨rfl,rfl,rfl,rfl⟩))))),?_⟩
 refine⟨_,rfl,a.rp,c.C,dx,_,_,rfl,ho,T.cl,T.nR,fw _ _ _,_,rfl,a.rd,W,t,x,rfl,R.hd,I,?_⟩;refine⟨_,rfl,a.rp,dx,_,rfl,ho,fV _ _ _ aq aq aq,_,rfl,_,rfl,x.p,a4,_,rfl,ht,Tb.aX _ aq,x.p,x.fs,x.tb,rfl,J.at_,λH1 l1 ns Y a1 a3 pm a7=>?_⟩;refine⟨M,a,s',W,cv,t,x,l1,ns,rfl,R.same Y,ri,ap,I,a3,λz=>R.mt _ z a1,pm.nodup_iff.mpr (Tb.jI J.at_),λq hq=>(J.mem pm q).mp hq,λH3 M3 s3 y G aB a0 am as ai=>?_⟩;have a5:=eX (y:=y) I;have ey:y.t=[]:=by
  cases e:y.t with
  |nil=>rfl
  |cons z r =>
   exfalso;have h1:=am z.1;rw[e,Tb.aO,Th rfl]at h1;by_cases U:z.1∈ns
   .rw[Th U]at h1;cases h1
   .rw[Tg U]at h1;exact U ((J.mem pm z.1).mpr (by rw[<-h1];simp))
 obtain⟨a2,ab⟩:=G.ob;refine⟨_,rfl,a.rp,c.C,a2,_,_,rfl,ab,T.cl,T.nR,fw _ _ _,a.rd,rfl,.inl ⟨_,.inl G.hd⟩,_,rfl,_,vu t,fR y,G.hd,rfl,by rw[Tb.cI,a5];rfl,?_⟩;have R4:=G.DU t;rw[Tb.eE];rw[Tb.lj]at R4 ⊢;have N:=gX (y:=y) R.nd I;rw[ey]at N;have N:(ents (Tb.aY W t y)).Perm (ents (Tb.a8 W t)):=N;refine q _ M3 s3 R4 (aB.perm N) (a0.next Pg.bg.refl λt' L h'=>?_) (((R.iO Y).trans as).trans ?_) ai
 .rw[Tb.cf]at h';by_cases z:t'=t
  .rw[Th z]at h';cases h'
  .rw[Tg z]at h';exact⟨L,by rw[Tb.bO t' I,Tg z];exact h',λ_ _ h=>h⟩
 .refine⟨Off.wr (.inr (.inl rfl)),λ_ h _=>h,λ_ h=>.inl h,λb z=>.inl ?_,G.mt,G.dB⟩;rcases z with z|z|⟨L,O,z⟩
  .exact .inl z
  .exact .inr (.inl z)
  .obtain⟨O,ne⟩:=Tb.bX O;refine .inr (.inr ⟨L,?_,z⟩);unfold Tb.aY;exact rk.mpr ⟨L,O,by rw[Tg ne]⟩
theorem IX:aD ["self","task"] ["self","task"] (aw qh):=L2.bD
theorem yw {f U:Addr}{fd dI:rn}{c:CA}(F:cD K "begin" "Rooms.begin" qh f fd) (T:oV K mg c) (MK:Mk K c.T U) (ac:mg "Table" = some (.ref c.T)) (GS:Df P w K mg base aS 1 "refuse_second_room" js) (GI:aZ P w K mg base aS 1 U dI ["self"] (Tb.gU c.T)) (bI:Binds K dI ["self"] []):aZ P w K mg base aS 3 f fd ["self","task"] (nH c):=by
 refine F.dg IX (λas A outer s H vs Q E L h=>?_);obtain⟨M,a,s',W,t,rfl,R,N,hl,q⟩:=h;obtain⟨dx,ho⟩:=R.ob;have hs:=BY;refine⟨_,(ag (aL (pc GS L az (aa (aM (pv 0) rfl) (aa (pv 1) aj))))
  (ao (jn (bf L) (aM (pv 0) rfl) (pv 1) (sO MK GI (L.mono av) (by rfl) ac bI .nil az) rfl))),?_⟩
 refine⟨_,rfl,a.rp,c.C,dx,_,_,rfl,ho,T.cl,T.nR,fw _ _ _,_,rfl,a.rd,W,t,rfl,R.hd,N,?_⟩;refine λp ap np ab aB=>⟨p,ap,rfl,ae,λfs H1 Y T1 off=>⟨rfl,?_⟩⟩;have J:bg H H1:=λb u e=>off b u (by rw[ah (au e np),ah (au e ab)];exact e) (au e np);have I:H fs=none:=by
  cases e:H fs with
  |none=>rfl
  |some u=>rw[ah (au e np),ah (au e ab),e]at Y;cases Y
 have O:=R.D8 (H':=H1) (B:=λ_=>False) (M':=λb=>M b\/b=fs) (λb o e _=>J b o e) (λb z=>z.elim) (λb z=>z.elim) (λb z=>z.elim .inl λz=>.inr (by rw[z];exact I)) (λb z _=>.inl z) (λb z e=>z.elim (λz=>(R.same J).mt b z e) λz=>by rw[z,T1.hf]at e;cases e)
 .obtain⟨ai,am⟩:=O.ob;refine⟨_,rfl,a.rp,c.C,ai,_,_,rfl,am,T.cl,T.nR,fw _ _ _,_,rfl,a.rd,_,rfl,fX.k (k:=vu t) O.hd (by rw[Tb.cu];omega),?_⟩;rw[show(V.ref p)=fR ⟨p,fs,[],[]⟩from rfl,Tb.cw N];have TI:c6 c.T H1 ⟨p,fs,[],[]⟩:=⟨T1,Ms,λq=>rfl⟩;have S:∀b,(TD.mk p fs [] []).eF b->b=fs:=λb z=>by
   rcases z with z|⟨_,hx,_⟩
   .exact z
   .cases hx
  have R2:=O.zN N TI (λb z=>⟨.inr (S b z),λy=>?_⟩) (λy=>?_)
  .refine q _ _ ⟨p,fs,[],[]⟩ rfl R2 ⟨?_,λb z _=>.inl z,λb z=>z.elim .inl λz=>.inr (by rw[z];exact I),λb z=>?_,R.mt,R.dB⟩
   .intro b o e z;rw[ah (λy=>z (.inr (.inl y)))];exact J _ _ e
   .rcases z with z|z|⟨x',G,z⟩
    .exact .inl (.inl z)
    .exact .inl (.inr (.inl z))
    .rcases pa.mp G with G|G
     .exact .inl (.inr (.inr ⟨x',G,z⟩))
     .rw[kQ.mp G]at z;rw[S b z];exact .inr I
  .rw[S b z]at y;exact R.mt _ (R.dB _ y) I
  .exact R.mt _ (R.ok.own _ y) np
end
theorem m4:KS "sum" = some (.builtin "sum"):=aq
inductive iB (c:CA) (vs:List V) (H:Hp) (Q:VK) (e3:XK):Prop
 |mk (M:Addr->Prop) (a:RA) (s:Pg.PS) (W:di) (tt:Addr) (e:Pg.Ent) (cs:List Int) (_:vs=[.ref a.rp,.ref tt]) (_:aA c H M a s W) (_:Pg.Good s) (_:H tt=some (.tup (yC e))) (_:Pg.yi s e cs) (_:∀(H':Hp) (l:Addr),bg H H'->H l=none->H' l=some (.lst (cs.map V.int))->Q (.ref l) H'):iB c vs H Q e3
inductive gR (c:CA) (vs:List V) (H:Hp) (Q:VK) (e3:XK):Prop
 |mk (M:Addr->Prop) (a:RA) (s:Pg.PS) (W:di) (tt ca:Addr) (e:Pg.Ent) (r:List Pg.Ent) (cs:List Int) (_:vs=[.ref a.rp,.ref tt,.ref ca]) (_:aA c H M a s W) (_:Pg.RI s (e::r)) (_:H tt=some (.tup (yC e))) (_:H ca=some (.lst (cs.map V.int))) (_:¬ M ca) (_:cs.length=8) (_:∀(H':Hp) (s':Pg.PS) (k:Int),aA c H' M a s' W->Pg.RI s' (some k::r)->Pg.bg r s s'->Pg.yi s' (some k) cs->Step H M (a.own W) H' M (a.own W)->(∀b,(s'.ow b).length=(s.ow b).length)->Q (.int k) H'):gR c vs H Q e3
def heldW (W:di):Int:=(W.map λx=>(x.2.t.length:Int)).sum
theorem lP:∀W:di,heldW W=((ents W).length:Int)
 | []=>rfl
 |x::W=>by
  have G:=lP W;unfold heldW at G ⊢;rw[LU,MJ,G];show _=(((su x.2.t++ents W).length:Nat):Int);rw[E2];unfold su;rw[nq];omega
inductive iD (c:CA) (vs:List V) (H:Hp) (Q:VK) (e3:XK):Prop
 |mk (M:Addr->Prop) (a:RA) (s:Pg.PS) (W:di) (_:vs=[.ref a.rp]) (_:aA c H M a s W) (_:W.length<=1000) (_:∀H',bg H H'->Q (.int (ents W).length) H'):iD c vs H Q e3
def Kk (s:Pg.PS) (H:Hp) (v:V):Option Pg.Ent->Prop
 |none=>v=.non
 |some none=>∃t,v=.ref t/\H t=some (.tup [.str "blank"])
 |some (some k)=>∃t b n,v=.ref t/\s.pl k=some (b,n)/\H t=some (.tup (jU b n))
inductive mh (c:CA) (vs:List V) (H:Hp) (Q:VK) (e3:XK):Prop
 |mk (M:Addr->Prop) (a:RA) (s:Pg.PS) (W:di) (t q:Int) (x:TD) (_:vs=[.ref a.rp,.int t,.int q]) (_:aA c H M a s W) (_:Pg.RI s (ents W)) (_:Tb.look W t=some x) (_:∀H' v,bg H H'->Kk s H' v (Tb.look x.t q)->Q v H'):mh c vs H Q e3
def hJ (cv:Int->Int->List Int) (t:Int) (ps:List Int):Int->Int->List Int:=λt' q=>if t'=t/\q∈ps then replicate 8 0 else cv t' q
inductive vF (c:CA) (vs:List V) (H:Hp) (Q:VK) (e3:XK):Prop
 |mk (M:Addr->Prop) (a:RA) (s:Pg.PS) (W:di) (cv:Int->Int->List Int) (t p m:Int) (x:TD) (_:vs=[.ref a.rp,.int t,.int p,.int m]) (_:aA c H M a s W) (_:Pg.RI s (ents W)) (_:Cv s W cv) (_:W.length<=1000) (_:Tb.look W t=some x) (_:¬ Rm.cg p m) (_:(∀q∈Rm.aK p m,Tb.look x.t q=none)) (_:(ents W).length+m<=bC s) (_:∀(H':Hp) (M':Addr->Prop) (y:TD),aA c H' M' a s (Tb.aY W t y)->Pg.RI s (ents (Tb.aY W t y))->Cv s (Tb.aY W t y) (hJ cv t (Rm.aK p m))->(∀q,Tb.look y.t q=if q∈Rm.aK p m then some none else Tb.look x.t q)->Step H M (a.own W) H' M' (a.own (Tb.aY W t y))->Q .non H'):vF c vs H Q e3
theorem c6.len {c:CA}{H:Hp}{x:TD}(T:c6 c.T H x) {ns:List Int}(p:ns.Perm (Tb.fG x.tb)):ns.length=x.t.length:=by
 have h:ns.Perm (x.t.map (·.1)):=by
  rw[MZ (p.nodup_iff.mpr (Tb.jI T.at_)) T.nd];intro q;rw[T.mem p q];constructor
  .intro h;cases e:Tb.look x.t q with
   |none=>exact absurd e h
   |some v=>exact rk.mpr ⟨_,Tb.aC e,rfl⟩
  .intro h e;exact Tb.bV e h
 rw[h.length_eq,nq]
theorem vO {p m:Int}(h:¬ Rm.cg p m):((Rm.aK p m).length:Int)=m:=by
 have:¬ m<1:=λz=>h (.inl z);unfold Rm.aK;rw[nq,Lg];omega
theorem ph (p m:Int):(Rm.aK p m).Nodup:=by
 unfold Rm.aK;refine MW.mpr (Py.imp ?_);intro i j G e;exact G af
theorem yy {cv:Int->Int->List Int}{t:Int}:hJ cv t []=cv:=by
 funext t' q;unfold hJ;rw[Tg (by simp)]
theorem sk {cv:Int->Int->List Int}{t t' q p:Int}{l:List Int}(h:¬ (t'=t/\q=p)):hJ cv t (l++[p]) t' q=hJ cv t l t' q:=by
 unfold hJ;by_cases z:t'=t/\q∈l
 .rw[Th z,Th ⟨z.1,Lp _ z.2⟩]
 .rw[Tg z,Tg (λy=>by
   rcases pa.mp y.2 with w|w
   .exact z ⟨y.1,w⟩
   .exact h ⟨y.1,kQ.mp w⟩)]
section
variable {P:ti}{w:Kl}{K:Kq}{mg:Str->Option Value}{base:Heap}
theorem Jp:aD ["self","entry"] ["self","entry"] (aw qm):=L2.bD
theorem uo {f:Addr}{fd:rn}{c:CA}(F:cD K "cells_of" "Rooms.cells_of" qm f fd) (T:oV K mg c) (TP:nN K mg c.P) (Gy:Md P w K mg base aS 4 c.P "cells" (mS c.P c.S)):aZ P w K mg base aS 5 f fd ["self","entry"] (iB c):=by
 obtain⟨I,mB,sB⟩:=T.bl;obtain⟨u8,m8,r8⟩:=T.pc;have rB:RelV (.ref I) (.ref I):=rfl;refine F.dg Jp (λai A outer s H vs Q E N h=>?_);obtain⟨M,a,s',W,tt,e,cs,rfl,R,gd,O,G,q⟩:=h;have hs:=BY;refine⟨_,(ag (aU (aE (uw N.gv) (pv 1) (cj (by rfl) mB rB) (aI _)) (ao (aG (ay ff (bN (aa ak aj)) (cj (by rfl) m8 r8)))) aH)
  (ao (aG (pm (aM (pv 0) rfl) TP.cl Gy N az (aa (a9 bh (pv 1) ak cq) aj))))),?_⟩
 refine⟨_,rfl,tt,I,_,_,rfl,rfl,bZ.of O,iL.sq (.inr sB),?_⟩;cases e with
 |none =>
  refine⟨rfl,rfl,_,rfl,eI ?_⟩;refine⟨av,λl1 ac=>?_⟩;refine⟨l1,8,_,rfl,rfl,ae,af,af,by rw[Lr];omega,λl2 U=>?_⟩;have J:=Tb.ar (X:=.lst [V.int 0]) ac;have s2:=Tb.ar (X:=.lst ((replicate (8:Int).toNat [V.int 0]).flatten)) U;have G:cs=replicate 8 0:=G;refine q _ l2 (J.trans s2) (J.free U) ?_;rw[ae,G];rfl
 |some k =>
  refine⟨rfl,rfl,_,rfl,bU ?_⟩;obtain⟨cc,Y⟩:=G;obtain⟨dx,ho⟩:=R.ob;obtain⟨ab,h2⟩:=R.pg.ob;refine⟨_,rfl,a.rp,c.C,dx,_,_,rfl,ho,T.cl,T.nP,kN _ _ _,a.A.pg,ab,_,rfl,h2,cF _ _ aq aq aq aq aq,_,rfl,tt,_,1,_,rfl,rfl,bZ.of O,rfl,M,a.A,s',k,cs,cc,rfl,R.pg,Y,?_,λl L=>q _ l (Tb.ar L) L ae⟩;have:=(gd.vw Y).1;omega
theorem II:aD ["self","entry","cells"] ["self","entry","cells"] (aw qy):=L2.bD
theorem qR {f:Addr}{fd:rn}{c:CA}(F:cD K "sheet_with" "Rooms.sheet_with" qy f fd) (T:oV K mg c) (TP:nN K mg c.P) (aT:Md P w K mg base aS 7 c.P "new_sheet" (gr K c.P c.S)) (a0:Md P w K mg base aS 8 c.P "change" (mP c.P c.S)):aZ P w K mg base aS 9 f fd ["self","entry","cells"] (gR c):=by
 obtain⟨U,mB,sB⟩:=T.bl;have rB:RelV (.ref U) (.ref U):=rfl;refine F.dg II (λba A outer s H vs Q E hr h=>?_);obtain⟨M,a,s',W,tt,ca,e,r,cs,rfl,R,G,ht,ac,ap,L,q⟩:=h;have ai:¬ a.A.own ca:=λz=>ap (R.ok.own _ z);obtain⟨dx,ho⟩:=R.ob;obtain⟨ab,h2⟩:=R.pg.ob;refine⟨_,(ag (aU (aE (uw hr.gv) (pv 1) (cj (by rfl) mB rB) (aI _)) (ao (aG (pm (aM (pv 0) rfl) TP.cl aT hr az (aa (pv 2) aj)))) aH)
  (ao (aG (pm (aM (pv 0) rfl) TP.cl a0 hr az (aa (a9 bh (pv 1) ak cq) (aa (pv 2) aj)))))),?_⟩
 refine⟨_,rfl,tt,U,_,_,rfl,rfl,bZ.of ht,iL.sq (.inr sB),?_⟩;cases e with
 |none =>
  refine⟨rfl,rfl,_,rfl,eI ?_⟩;refine⟨_,rfl,a.rp,c.C,dx,_,_,rfl,ho,T.cl,T.nP,kN _ _ _,a.A.pg,ab,_,rfl,h2,cF _ _ aq aq aq aq aq,_,rfl,M,a.A,s',ca,cs,rfl,R.Ih G,G.room,bq.of ac,λe=>ai (by rw[e];exact PA.fP 0 rfl),L,λH1 Y N J I=>?_⟩;have B:=Pg.kB G.good G.l0 L N;exact q H1 Y _ (R.kr J I B.kept.ln) (G.fill L N) (G.yH L N) ⟨1,B.vw⟩ (R.GX J I) B.kept.ln
 |some k =>
  refine⟨rfl,rfl,_,rfl,bU ?_⟩;obtain⟨as,c0,O⟩:=G.is k KW;refine⟨_,rfl,a.rp,c.C,dx,_,_,rfl,ho,T.cl,T.nP,kN _ _ _,a.A.pg,ab,_,rfl,h2,cF _ _ aq aq aq aq aq,_,rfl,tt,_,1,_,rfl,rfl,bZ.of ht,rfl,_,rfl,M,a.A,s',k,ca,as,c0,cs,rfl,R.Ih G,O,ac,ai,L,λz=>G.GZ O z,λz H1 Y s2 N hl J I=>?_,λz H1 Y m am hm J I=>?_⟩
  .obtain⟨a1,a2,a3,a4,a5,a6,a7⟩:=G.part O z L N hl;exact q H1 s2 _ (R.kr J I a7) a1 a2 a3 (R.GX J I) a7
  .subst z;obtain⟨a1,a2,a3⟩:=G.write O L am hm;have FF:=Pg.oE G.good am;exact q H1 _ k (R.kr J I FF.kept.ln) a1 a2 a3 (R.GX J I) FF.kept.ln
theorem IQ:aD ["self"] ["self"] (aw um):=L2.bD
theorem Ab {f:Addr}{fd:rn}{c:CA}(F:cD K "held" "Rooms.held" um f fd) (T:oV K mg c) (TT:Tb.Txt K mg c.T) (as:Md P w K mg base aS 1 c.T "pages" (Tb.eL c.T)):aZ P w K mg base aS 2 f fd ["self"] (iD c):=by
 refine F.dg IQ (λa0 A outer s H vs Q E hr h=>?_);obtain⟨M,a,s',W,rfl,R,lw,k⟩:=h;have hs:=BY;obtain⟨dx,h1⟩:=R.ob;refine⟨_,(ao (aG (aP (ie rfl) (by rfl) T.sum m4 (aa (xk (gD (cl:=[("self",s.heap.objs.size+1)]) (caps:=[("self",0)]) ⟨rfl,aq,aq,rfl,by kernel_rfl,by intro p J;simp only[E3,Km,or_false]at J;rcases J with rfl<;>first|rfl|exact⟨rfl,.inl rfl,.inl rfl⟩|exact⟨rfl,.inl rfl,.inr rfl⟩,by kernel_rfl,by intro p J;simp only[E3,Km,or_false]at J;rcases J with rfl<;>first|rfl|exact⟨rfl,.inl rfl,.inl rfl⟩|exact⟨rfl,.inl rfl,.inr rfl⟩,aq⟩ rfl (wW (aM (pv 0) rfl)) (λ_ _ _ _=>fj) (λ_ _ _ _=>(aP (show dt _ _ (xF K)from yF) (by rfl) T.len boot_len (aa (qz (bt (bf hr) (show PE _ _ (Cq K _ "rooms")from aM (pv 1) rfl) (pv 0) cq) TT.cl as hr az) aj))))) aj)))),?_⟩;have hn:∀(o:Obj) u',H a.rd≠some (.frz o u'):=λo u' z=>(by rw[R.hd]at z;cases z);refine⟨_,rfl,a.rp,c.C,dx,_,_,rfl,h1,T.cl,T.nR,fw _ _ _,a.rd,_,rfl,R.hd,hn,λo=>?_⟩;have aB:a.rp≠a.rd:=λz=>(by rw[z,R.hd]at h1;cases h1);have S:Off (· = a.rd) H (upd H a.rd (.frz o (.dK (Tb.dk fR W)))):=Off.wr rfl;have O:(upd H a.rd (.frz o (.dK (Tb.dk fR W)))) a.rd=some (.frz o (.dK (Tb.dk fR W))):=ae;have am:=S _ _ h1 aB;have ai:∀x∈W,c6 c.T (upd H a.rd (.frz o (.dK (Tb.dk fR W)))) x.2:=λx G=>by
  obtain⟨a1,Y⟩:=(R.tb x G).at_.ob;exact(R.tb x G).off S (λz=>by rw[z,R.hd]at Y;cases Y) (λb z=>(R.dm x G b z).2.2) (λb xs e z=>by rw[z,R.hd]at e;cases e)
 refine vi (a:=a.rd) (o:=o) (kvs:=Tb.dk fR W) (λi ys H2=>ys=((W.take i).map λx=>(x.2.t.length:Int)).map V.int/\bg (upd H a.rd (.frz o (.dK (Tb.dk fR W)))) H2) ⟨rfl,λ_ _ e=>e⟩ (λi zs H2 _ ⟨_,e⟩=>e _ _ O) ?_ ?_
 .rintro i kk v zs H2 hk ⟨rfl,I⟩;have U:(W.map λx:Int×TD=>((vu x.1:Key),fR x.2))[i]?=some (kk,v):=hk;rw[wh]at U;obtain⟨x,G,e⟩:=vr.mp U;cases e;have hm:=DD G;have hi:i<W.length:=(j1.mp G).1;have ap:Tb.look W x.1=some x.2:=Tb.bL R.nd hm;have hg:dC H2 a.rd (.int x.1) (some (fR x.2)):=.inl ⟨Tb.dk fR W,vu x.1,.inr ⟨o,I _ _ O⟩,rfl,by rw[Tb.cI,ap];rfl⟩;have TX:=ai x hm;have T2:=TX.at_.same I;obtain⟨aT,ht⟩:=T2.ob;refine⟨_,rfl,a.rp,c.C,dx,_,_,rfl,I _ _ am,T.cl,T.nR,fw _ _ _,_,rfl,a.rd,fR x.2,rfl,hg,x.2.p,aT,_,rfl,ht,Tb.aX _ aq,x.2.p,x.2.fs,x.2.tb,rfl,T2,λH3 l ns s3 fl L pm a2=>?_⟩;refine⟨l,_,rfl,.inl (bq.of L),?_,?_,I.trans s3⟩
  .rw[nq,nq,Kv];omega
  .rw[nq,TX.len pm,Lu,G,Kr,Kr];rfl
 .rintro zs H2 ⟨rfl,I⟩ l L;have ac:=I _ _ O;have ab:l≠a.rd:=λz=>(by rw[z,ac]at L;cases L);refine⟨a.rd,o,Tb.dk fR W,by rw[ah (qw ab)];exact ac,hn,l,(W.map λx=>(x.2.t.length:Int)),rfl,bq.of ?_,?_⟩
  .rw[ah ab,ae,Tb.cu,LC]
  .have e9:=lP W;unfold heldW at e9;rw[e9];refine k _ λb u e=>?_;by_cases z:b=a.rd
   .rw[z,ae, <-e,z,R.hd]
   .have N:H2 b=some u:=I _ _ (S _ _ e z);rw[ah z,ah (λy=>by rw[y,L]at N;cases N)];exact N
theorem G8:aD ["self","task","page","entry"] ["self","task","page"] (aw qZ):=L2.bD
theorem x9 {f:Addr}{fd:rn}{c:CA}(F:cD K "place" "Rooms.place" qZ f fd) (T:oV K mg c) (TT:Tb.Txt K mg c.T) (TP:nN K mg c.P) (GR:Df P w K mg base aS 1 "room_of" dY) (GG:Md P w K mg base aS 3 c.T "get" (Tb.lS c.T)) (Dk:Md P w K mg base aS 1 c.P "place" (iz c.P c.S)):aZ P w K mg base aS 4 f fd ["self","task","page"] (mh c):=by
 obtain⟨N,mB,sB⟩:=T.bl;have rB:RelV (.ref N) (.ref N):=rfl;refine F.dg G8 (λas A outer s H vs Q E J h=>?_);obtain⟨M,a,s',W,t,q,x,rfl,R,ri,U,k⟩:=h;obtain⟨dx,ho⟩:=R.ob;have Y:=R.tb _ (Tb.aC U);obtain⟨ai,ht⟩:=Y.at_.ob;refine⟨_,(ag (dA 3 G8.nd (pm (pc GR J az (aa (aM (pv 0) rfl) (aa (pv 1) aj))) TT.cl GG J az (aa (pv 2) aj)))
  (ag (aU (PW.pt (gL (aE EA (pv 3) qN (aI _)) (fK (aE (uw J.gv) (pv 3) (cj (by rfl) mB rB) (aI _))))) (ao (aG (pv 3))) aH)
  (ao (aG (pm (aM (pv 0) rfl) TP.cl Dk J az (aa (a9 bh (pv 3) ak cq) aj)))))),?_⟩
 refine⟨_,rfl,a.rp,c.C,dx,_,_,rfl,ho,T.cl,T.nR,fw _ _ _,_,rfl,a.rd,W,t,x,rfl,R.hd,U,?_⟩;refine⟨x.p,ai,_,rfl,ht,Tb.aX _ aq,_,rfl,x.p,x.fs,x.tb,q,rfl,Y.at_,λH1 v I G=>?_⟩;rw[Y.lk]at G;cases O:Tb.look x.t q with
 |none =>
  rw[O]at G k;have G:v=.non:=G;subst G;exact⟨_,rfl,rfl,_,rfl,eI (eI ⟨_,rfl,k H1 _ I rfl⟩)⟩
 |some e =>
  rw[O]at G k;obtain⟨tt,rfl,L⟩:=G;have R1:=R.same I;obtain⟨ac,am⟩:=R1.ob;obtain⟨ab,h2⟩:=R1.pg.ob;refine⟨_,rfl,rfl,_,rfl,bU ?_⟩;refine⟨_,rfl,tt,N,_,_,rfl,rfl,bZ.of L,iL.sq (.inr sB),?_⟩;cases e with
  |none=>exact⟨rfl,rfl,_,rfl,eI ⟨_,rfl,k H1 _ I ⟨tt,rfl,L⟩⟩⟩
  |some j =>
   refine⟨rfl,rfl,_,rfl,bU ?_⟩;obtain⟨cs,cc,b,n,hj,_,_⟩:=ri.is j (jR U O);exact⟨_,rfl,a.rp,c.C,ac,_,_,rfl,am,T.cl,T.nP,kN _ _ _,a.A.pg,ab,_,rfl,h2,cF _ _ aq aq aq aq aq,_,rfl,tt,_,1,_,rfl,rfl,bZ.of L,rfl,M,a.A,s',j,b,n,rfl,R1.pg,hj,λt' ap=>k H1 _ I ⟨t',b,n,rfl,hj,ap⟩⟩
theorem Cz:aD ["self","task","page","many","table","pages","wanted"] ["self","task","page","many"] (aw Ah):=L2.bD
theorem CC {f:Addr}{fd:rn}{c:CA}(F:cD K "map" "Rooms.map" Ah f fd) (T:oV K mg c) (TT:Tb.Txt K mg c.T) (GR:Df P w K mg base aS 1 "room_of" dY) (GM:Df P w K mg base aS 2 "pages_to_map" Rm.qq) (GA:Df P w K mg base aS 1 "refuse_above" lK) (bb:Md P w K mg base aS 1 c.T "pages" (Tb.eL c.T)) (GH:Md P w K mg base aS 2 c.C "held" (iD c)) (GL:Md P w K mg base aS 3 c.T "lay" (Tb.rY K c.T)):aZ P w K mg base aS 4 f fd ["self","task","page","many"] (vF c):=by
 obtain⟨aB,mB,sB⟩:=T.bl;have rB:RelV (.ref aB) (.ref aB):=rfl;refine F.dg Cz (λb4 A outer s H vs Q E O h=>?_);obtain⟨M,a,s',W,cv,t,p,m,x,rfl,R,ri,bv,lw,I,S,a2,bm,q⟩:=h;obtain⟨dx,ho⟩:=R.ob;have TX:=R.tb _ (Tb.aC I);obtain⟨bY,ht⟩:=TX.at_.ob;have b1:¬ m<1:=λz=>S (.inl z);have b2:¬ p<0:=λz=>S (.inr (.inl z));have b3:¬ 64<p+m:=λz=>S (.inr (.inr z));have pl:=vO S;refine⟨_,(ag (dA 4 Cz.nd (pc GR O az (aa (aM (pv 0) rfl) (aa (pv 1) aj))))
  (ag (dA 5 Cz.nd (pc GM O az (aa (qz (pv 4) TT.cl bb O az) (aa (pv 2) (aa (pv 3) aj)))))
  (ag (aL (pc GA O az (aa (ay aV (qz (pv 0) T.cl GH O az) (aP bJ (by rfl) T.len boot_len (aa (pv 5) aj))) (aa (aM (pv 0) rfl) aj))))
  (ao (cL Kt rfl (eK (pv 5)) (gG 6 Cz.nd) (ao (aL (pm (pv 4) TT.cl GL O az (aa (pv 6) (aa (cj (by rfl) mB rB) aj)))))))))),?_⟩
 refine⟨_,rfl,a.rp,c.C,dx,_,_,rfl,ho,T.cl,T.nR,fw _ _ _,_,rfl,a.rd,W,t,x,rfl,R.hd,I,?_⟩;refine⟨_,rfl,x.p,bY,_,rfl,ht,Tb.aX _ aq,x.p,x.fs,x.tb,rfl,TX.at_,λH1 l1 ns s1 b7 bd pm b6=>?_⟩;refine⟨_,rfl,_,rfl,l1,ns,p,m,rfl,bd,S,λz h1 h2=>absurd (a2 z h1) ((TX.mem pm z).mp h2),λH2 N s2 bi bI=>?_⟩;have S2:=s1.trans s2;have R2:=R.same S2;obtain⟨bn,ba⟩:=R2.ob;refine⟨_,rfl,a.rp,bn,_,rfl,ba,fV _ _ _ aq aq aq,M,a,s',W,rfl,R2,lw,λH3 s3=>?_⟩;have a1:=s3 _ _ bI;have R3:=R2.same s3;obtain⟨bc,a4⟩:=R3.ob;refine⟨_,rfl,N,_,rfl,.inl (bq.of a1),_,_,rfl,rfl,_,rfl,a.rp,c.C,bc,_,_,rfl,a4,T.cl,T.nT,Fy _ _ _,_,_,rfl,?_,?_⟩
 .rw[nq,pl];omega
 have S3:=S2.trans s3;have bA:¬ M N:=λz=>R.mt _ z (s1.free bi);have bz:¬ a.own W N:=λz=>bA (R.dB N z);refine⟨_,rfl,N,rfl,⟨_,bq.of a1⟩,?_⟩;refine eh (K:=K) (a:=N) (xs:=(Rm.aK p m).map V.int) (λi σ Y=>Gm λ(v6:Option V) (M4:Addr->Prop) (y:TD)=>Ic (σ=[some (.ref a.rp),some (.int t),some (.int p),some (.int m),some (.ref y.p),some (.ref N),v6]) (aA c Y M4 a s' (Tb.aY W t y)) (Pg.RI s' (ents (Tb.aY W t y))) ((ents (Tb.aY W t y)).length=(ents W).length+i) (Cv s' (Tb.aY W t y) (hJ cv t ((Rm.aK p m).take i))) ((∀q,Tb.look y.t q=if q∈(Rm.aK p m).take i then some none else Tb.look x.t q)) (Step H3 M (a.own W) Y M4 (a.own (Tb.aY W t y))))
  ⟨_,M,x,rfl,by rw[cG R.nd I];exact R3,by rw[cG R.nd I];exact ri,by rw[cG R.nd I];rfl,by rw[cG R.nd I,Qr,yy];exact bv,λq=>by simp,by rw[cG R.nd I];exact R3.refl⟩ (λi σ Y _ z0=>by obtain⟨_,_,_,_,_,_,_,_,_,st⟩:=z0;exact bq.of (st.off _ _ a1 bz)) ?_ ?_
 .rintro i u σ Y hu ⟨v6,M4,y,rfl,R4,as,aT,ab,ac,a0⟩;rw[wh]at hu;obtain⟨G,hp,rfl⟩:=vr.mp hu;have a3:=DD hp;obtain⟨hi,b5⟩:=j1.mp hp;have a6:¬ G∈(Rm.aK p m).take i:=λz=>by
   obtain⟨j,hj,e⟩:=Mc z;rw[NH]at e;rw[Kv]at hj;exact pF (ph p m) j i (IF af) hp af e
  have ap:=eX (y:=y) I;have T4:=R4.tb _ (Tb.aC ap);obtain⟨b0,a5⟩:=T4.at_.ob;have a7:Tb.look y.t G=none:=(by rw[ac,Tg a6];exact a2 G a3);obtain⟨r1,r2,_⟩:=Rm.yu S G a3;refine⟨_,rfl,y.p,b0,_,rfl,a5,Tb.aX _ aq,_,rfl,y.p,y.fs,aB,y.tb,G,[.str "blank"],rfl,T4.at_,r1,r2,.inr sB,rfl,λH5 ai T5 l5 o5 n5=>?_⟩;have bx:c6 c.T H5 ⟨y.p,y.fs,ai,(G,none)::y.t⟩:=⟨T5,Ky.mpr ⟨Tb.bV a7,T4.nd⟩,λj=>by
   rw[l5 j,Tb.aO];by_cases z:j=G
   .rw[Th z,Th z.symm];rfl
   .rw[Tg z,Tg (qw z)];exact T4.lk j⟩
  have R5:=R4.uG (y:=⟨y.p,y.fs,ai,(G,none)::y.t⟩) ap rfl bx o5 n5;have S5:=a0.trans (R4.qJ (y:=⟨y.p,y.fs,ai,(G,none)::y.t⟩) ap o5 n5);have pe:(ents (Tb.aY W t ⟨y.p,y.fs,ai,(G,none)::y.t⟩)).Perm (none::ents (Tb.aY W t y)):=(gX R.nd I).trans ((gX (y:=y) R.nd I).symm.cons none);rw[set_set]at R5 S5;have be:(ents (Tb.aY W t y)).length<(s'.ow true).length+(s'.ow false).length:=by
   rw[aT];unfold bC at bm;omega
  refine⟨_,_,⟨y.p,y.fs,ai,(G,none)::y.t⟩,rfl,R5,(as.lay be).perm pe.symm,by rw[pe.length_eq,Kp,aT];omega,?_,?_,S5⟩
  .intro U bE am q e L;rw[Tb.bO U I]at am;rw[Lu,hp];by_cases z:U=t
   .rw[Th z]at am;cases am;have L:Tb.look ((G,none)::y.t) q=some e:=L;rw[Tb.aO]at L;by_cases J:G=q
    .rw[Th J]at L;cases L;show hJ cv t _ U q=_;unfold hJ;rw[Th ⟨z,by rw[<-J];simp⟩]
    .rw[Tg J]at L;rw[show(some G).toList=[G]from rfl,sk (λh=>J h.2.symm)];exact ab U y (by rw[z];exact ap) q e L
   .rw[Tg z]at am;rw[show(some G).toList=[G]from rfl,sk (λh=>z h.1)];exact ab U bE (by rw[Tb.bO U I,Tg z];exact am) q e L
  .intro j;show Tb.look ((G,none)::y.t) j=_;rw[Tb.aO,ac j,Lu,hp];by_cases z:G=j
   .rw[Th z,Th (by rw[<-z];simp)]
   .rw[Tg z];by_cases J:j∈(Rm.aK p m).take i
    .rw[Th J,Th (Lp _ J)]
    .rw[Tg J,Tg (by simp[qw z,J])]
 .rintro σ Y ⟨v6,M4,y,rfl,R4,as,aT,ab,ac,a0⟩;rw[nq,LC]at ab ac;exact q Y M4 y R4 as ab ac ((R.iO S3).trans a0)
end
end St
namespace Rm
theorem gF {ad n:Int}{G:List Int}(h:¬ cA ad n G):(ax ad n).length<=64/\∀q∈ax ad n,q∈G:=by
 unfold ax;by_cases e:n=0
 .rw[Th e];exact⟨KI _,λ_ h=>nomatch h⟩
 .rw[Tg e];have I:0<n:=by
   have:¬ n<0:=λz=>h (.inl z);omega
  have h1:¬ cg (jK ad) (hV ad n):=λz=>h (.inr ⟨I,.inl z⟩);have h2:∀q∈aK (jK ad) (hV ad n),q∈G:=Nh λz=>h (.inr ⟨I,.inr z⟩);refine⟨?_,h2⟩;unfold aK;rw[nq,Lg];have L:¬ jK ad<0:=λz=>h1 (.inr (.inl z));have J:¬ 64<jK ad+hV ad n:=λz=>h1 (.inr (.inr z));omega
theorem wD {ad n:Int}{I J:List Int}(h:∀q,q∈I->q∈J) (G:cA ad n J):cA ad n I:=by
 rcases G with G|⟨h1,h2⟩
 .exact .inl G
 .refine .inr ⟨h1,h2.imp id λz y=>z λq L=>h q (y q L)⟩
end Rm
namespace St
open PySem L2
def bM (f:Int->List Int) (ps:List Int):List Int:=(ps.map f).flatten
theorem eR {f:Int->List Int}{ps:List Int}{i:Nat}{q:Int}(h:ps[i]?=some q):bM f (ps.take (i+1))=bM f (ps.take i)++f q:=by
 unfold bM;rw[Lu,h,Kr,List.flatten_append];simp
theorem yi.len {s:Pg.PS}{e:Pg.Ent}{cs:List Int}(G:Pg.Good s) (h:Pg.yi s e cs):cs.length=8:=by
 cases e with
 |none=>rw[show cs=replicate 8 0 from h];simp
 |some k=>obtain⟨c,h⟩:=h;exact(G.vw h).2
inductive pR (c:CA) (vs:List V) (H:Hp) (Q:VK) (e3:XK):Prop
 |mk (M:Addr->Prop) (a:RA) (s:Pg.PS) (W:di) (cv:Int->Int->List Int) (t ad:Int) (n:Nat) (x:TD) (_:vs=[.ref a.rp,.int t,.int ad,.int n]) (_:aA c H M a s W) (_:Pg.RI s (ents W)) (_:Cv s W cv) (_:Tb.look W t=some x) (_:n<=600) (_:0<=ad) (_:ad<=1000) (_:¬ Rm.cA ad n (x.t.map (·.1))) (_:∀(H':Hp) (M':Addr->Prop) (s':Pg.PS) (l:Addr),aA c H' M' a s' W->Pg.RI s' (ents W)->Cv s' W cv->Step H M (a.own W) H' M' (a.own W)->(∀b,(s'.ow b).length=(s.ow b).length)->H l=none->H' l=some (.lst ((((bM (cv t) (Rm.ax ad n)).drop (ad%8).toNat).take n).map V.int))->Q (.ref l) H'):pR c vs H Q e3
section
variable {P:ti}{w:Kl}{K:Kq}{mg:Str->Option Value}{base:Heap}
variable {c:CA}{H H':Hp}{M M' B:Addr->Prop}{a:RA}{s s':Pg.PS}{W:di}{t:Int}{x y:TD}
theorem nameQ {i:Nat}{v:V}{σ:L2.St}{H:Hp}{Q:L2.St->Hp->Prop}(h:Q (σ.set i (some v)) H):ma i v σ H Q:=h
theorem aA.JU (R:aA c H M a s W) {l:Addr}{xs ys:List V}(I:H l=some (.lst xs)) (G:M l) (J:¬ a.own W l):aA c (upd H l (.lst ys)) M a s W :=
 R.D8 (B:=(· = l)) (Off.wr rfl) (λb z=>by rw[z];exact⟨G,J⟩) (λb z=>.inl ⟨xs,by rw[z];exact I⟩) (λb z=>.inl z) (λb z _=>z) (λb z e=>by
  by_cases q:b=l
  .rw[q,ae]at e;cases e
  .rw[ah q]at e;exact R.mt b z e)
theorem aA.HB (R:aA c H M a s W) {l:Addr}{o:HO}(G:H l=none):aA c (upd H l o) (λb=>M b\/b=l) a s W :=
 R.D8 (B:=λ_=>False) (λb u e _=>cJ G b u e id) (λb z=>z.elim) (λb z=>z.elim) (λb z=>z.elim .inl λz=>.inr (by rw[z];exact G)) (λb z _=>.inl z) (λb z e=>by
  by_cases q:b=l
  .rw[q,ae]at e;cases e
  .rw[ah q]at e;exact z.elim (λz=>R.mt b z e) q)
theorem c6.keys (T:c6 c.T H x) (q:Int):q∈x.t.map (·.1)↔Tb.look x.t q≠none:=by
 constructor
 .intro h e;exact Tb.bV e h
 .intro h;cases e:Tb.look x.t q with
  |none=>exact absurd e h
  |some v=>exact rk.mpr ⟨_,Tb.aC e,rfl⟩
theorem zk:aD ["self","task","address","many","table","whole","page","entry"] ["self","task","address","many"] (aw uK):=L2.bD
theorem Aq {f:Addr}{fd:rn}{c:CA}(F:cD K "peek" "Rooms.peek" uK f fd) (T:oV K mg c) (TT:Tb.Txt K mg c.T) (TP:nN K mg c.P) (GR:Df P w K mg base aS 1 "room_of" dY) (GO:Df P w K mg base aS 2 "pages_of_cells" Rm.iE) (bn:Df P w K mg base aS 1 "run_within" Rm.mj) (b7:Md P w K mg base aS 1 c.T "pages" (Tb.eL c.T)) (GG:Md P w K mg base aS 3 c.T "get" (Tb.lS c.T)) (bm:Md P w K mg base aS 7 c.P "fetch" (lh c.P c.S)) (b8:Md P w K mg base aS 5 c.C "cells_of" (iB c)):aZ P w K mg base aS 8 f fd ["self","task","address","many"] (pR c):=by
 obtain⟨aB,mB,sB⟩:=T.bl;have rB:RelV (.ref aB) (.ref aB):=rfl;refine F.dg zk (λcC A outer s H vs Q E O h=>?_);obtain⟨M,a,s',W,cv,t,ad,n,x,rfl,R,ri,ca,hx,n6,cx,cr,hb,q⟩:=h;have hs:=BY;obtain⟨dx,ho⟩:=R.ob;have TX:=R.tb _ (Tb.aC hx);obtain⟨c1,c2⟩:=Rm.gF hb;refine⟨_,(ag (dA 4 zk.nd (pc GR O az (aa (aM (pv 0) rfl) (aa (pv 1) aj))))
  (ag (dA 5 zk.nd (bN aj))
  (ag (cL Kt rfl (eK (pc GO O az (aa (qz (pv 4) TT.cl b7 O az) (aa (pv 2) (aa (pv 3) aj))))) (gG 6 zk.nd) (ag (dA 7 zk.nd (pm (pv 4) TT.cl GG O az (aa (pv 6) aj)))
  (ag (aU (aE (u6 O.gv) (pv 7) (cj (by rfl) mB rB) (aI _)) (ao (aL (pm (aM (pv 0) rfl) TP.cl bm O az (aa (a9 bh (pv 7) ak cq) aj)))) aH)
  (ao (aL (ig Lq Mr Px oM (pv 5) (aa (pm (pv 0) T.cl b8 O az (aa (pv 7) aj)) aj)))))))
  (ao (aG (pc bn O az (aa (pv 5) (aa (pv 2) (aa (pv 3) aj))))))))),?_⟩
 refine⟨_,rfl,a.rp,c.C,dx,_,_,rfl,ho,T.cl,T.nR,fw _ _ _,_,rfl,a.rd,W,t,x,rfl,R.hd,hx,?_⟩;refine⟨av,λG ab=>?_⟩;have R1:=R.HB (o:=.lst []) ab;have s1:bg H (upd H G (.lst [])):=Tb.ar ab;have a3:upd H G (.lst []) G=some (.lst []):=ae;generalize upd H G (.lst [])=H1 at *;have bc:¬ a.own W G:=λz=>R.mt _ (R.dB _ z) ab;have a6:=R1.tb _ (Tb.aC hx);obtain⟨b2,ht⟩:=a6.at_.ob;refine⟨_,rfl,x.p,b2,_,rfl,ht,Tb.aX _ aq,x.p,x.fs,x.tb,rfl,a6.at_,λH2 l2 ns s2 cm b1 pm cP=>?_⟩;have bi:∀{z},z∈x.t.map (·.1)->z∈ns:=λ{z} h=>(TX.mem pm z).mpr ((TX.keys z).mp h);refine⟨_,rfl,_,rfl,l2,ns,ad,n,rfl,b1,λh=>hb (Rm.wD (λz hz=>bi hz) h),λH3 l3 s3 bz bd=>?_⟩;have S3:=s2.trans s3;have R3:=R1.same S3;have bv:=S3 _ _ a3;have a0:H1 l3=none:=s2.free bz;have bE:¬ a.own W l3:=λz=>R1.mt _ (R1.dB _ z) a0;have bA:l3≠G:=λz=>(by rw[z,a3]at a0;cases a0);refine⟨l3,rfl,⟨_,bq.of bd⟩,?_⟩;refine eh (K:=K) (a:=l3) (xs:=(Rm.ax ad n).map V.int) (λi σ H4=>Gm λ(v6 v7:Option V) (I:Pg.PS)=>HQ (σ=[some (.ref a.rp),some (.int t),some (.int ad),some (.int n),some (.ref x.p),some (.ref G),v6,v7]) (aA c H4 (λb=>M b\/b=G) a I W) (Pg.RI I (ents W)) (Cv I W cv) (H4 G=some (.lst ((bM (cv t) ((Rm.ax ad n).take i)).map V.int))) ((bM (cv t) ((Rm.ax ad n).take i)).length=8*i) (Off (λb=>a.own W b\/b=G) H3 H4) (∀b,(I.ow b).length=(s'.ow b).length))
  ⟨_,_,s',rfl,R3,ri,ca,bv,rfl,λ_ _ e _=>e,λ_=>rfl⟩ (λi σ H4 _ z0=>by obtain⟨_,_,_,_,_,_,_,_,_,U,_⟩:=z0;exact bq.of (U _ _ bd λz=>z.elim bE bA)) ?_ ?_
 .rintro i u σ H4 hu ⟨v6,v7,I,rfl,R4,L,ap,ai,bx,U,am⟩;rw[wh]at hu;obtain⟨p,hp,rfl⟩:=vr.mp hu;have ch:=DD hp;obtain⟨hi,ci⟩:=j1.mp hp;have T4:=R4.tb _ (Tb.aC hx);obtain⟨b3,b4⟩:=T4.at_.ob;obtain⟨e,he⟩:∃e,Tb.look x.t p=some e:=by
   cases z:Tb.look x.t p with
   |none=>exact absurd z ((TX.keys p).mp (c2 p ch))
   |some e=>exact⟨e,rfl⟩
  refine⟨_,rfl,x.p,b3,_,rfl,b4,Tb.aX _ aq,_,rfl,x.p,x.fs,x.tb,p,rfl,T4.at_,λH5 v Y hv=>?_⟩;rw[T4.lk,he]at hv;obtain⟨tt,rfl,ac⟩:=hv;have N:=R4.same Y;have a7:=Y _ _ ai;refine nameQ ?_;dsimp only;refine share (λσ H6=>∃J:Pg.PS,HQ (σ=[some (.ref a.rp),some (.int t),some (.int ad),some (.int n),some (.ref x.p),some (.ref G),some (.int p),some (.ref tt)]) (aA c H6 (λb=>M b\/b=G) a J W) (Pg.RI J (ents W)) (Cv J W cv) (H6 tt=some (.tup (yC e))) (H6 G=some (.lst ((bM (cv t) ((Rm.ax ad n).take i)).map V.int))) (Off (λb=>a.own W b\/b=G) H3 H6) (∀b,(J.ow b).length=(s'.ow b).length)) (λu' a1=>?A) ?B
  case A =>
   refine⟨_,rfl,tt,aB,_,_,rfl,rfl,bZ.of ac,iL.sq (.inr sB),?_⟩;cases e with
   |none =>
    refine⟨rfl,rfl,_,rfl,bU ?_⟩;exact a1 _ _ ⟨I,rfl,N,L,ap,ac,a7,λb o e z=>Y _ _ (U b o e z),am⟩
   |some k =>
    refine⟨rfl,rfl,_,rfl,eI ?_⟩;obtain⟨bY,ce⟩:=N.ob;obtain⟨as,b5⟩:=N.pg.ob;obtain⟨cs,cc,hv⟩:=L.is k (jR hx he);refine⟨_,rfl,a.rp,c.C,bY,_,_,rfl,ce,T.cl,T.nP,kN _ _ _,a.A.pg,as,_,rfl,b5,cF _ _ aq aq aq aq aq,_,rfl,tt,_,1,_,rfl,rfl,bZ.of ac,rfl,_,a.A,I,k,cs,cc,rfl,N.Ih L,hv,λH6 J fe G6 O6=>?_⟩;have FF:=Pg.oE L.good fe;exact a1 _ _ ⟨J,rfl,N.kr G6 O6 FF.kept.ln,L.Dz fe,ap.keep (Pg.wc L.good fe),O6 _ _ ac (N.pg.pX _ _ ac),O6 _ _ a7 (λz=>bc (.inl z)),λb o e z=>O6 _ _ (Y _ _ (U b o e z)) (λy=>z (.inl (.inl y))),λb=>(FF.kept.ln b).trans (am b)⟩
  case B =>
   rintro σ H6 ⟨J,rfl,R6,aT,a5,b6,a4,o6,bI⟩;obtain⟨as,b0⟩:=R6.ob;have ba:=a5 t x hx p e he;have c8:=yi.len aT.good ba;refine⟨_,rfl,.inl ⟨rfl,_,bq.of a4⟩,_,rfl,a.rp,as,_,rfl,b0,fV _ _ _ aq aq aq,_,rfl,_,a,J,W,tt,e,cv t p,rfl,R6,aT.good,b6,ba,λH7 l7 s7 f7 h7=>?_⟩;have R7:=R6.same s7;have bb:=s7 _ _ a4;refine⟨G,l7,_,_,rfl,rfl,bb,h7,by rw[nq,nq];omega,?_⟩;rw[<-Kr, <-eR hp];refine⟨_,_,J,rfl,R7.JU bb (.inr rfl) bc,aT,a5,ae,by rw[eR hp,E2];omega,λb o e z=>by rw[ah (λy=>z (.inr y))];exact s7 _ _ (o6 b o e z),bI⟩
 .rintro σ H4 ⟨v6,v7,I,rfl,R4,L,ap,ai,bx,U,am⟩;rw[nq,LC]at ai;refine⟨_,rfl,_,rfl,_,rfl,G,_,ad,n,rfl,ai,λH5 l5 Y a2 be=>?_⟩;have N:=R4.same Y;have oA:Off (a.own W) H H5:=λb o e z=>Y _ _ (U _ _ (S3 _ _ (s1 _ _ e)) λy=>y.elim z λy=>by rw[y,ab]at e;cases e);refine q H5 _ I l5 N L ap ⟨oA,λb z _=>.inl z,λb z=>z.elim .inl λz=>.inr (by rw[z];exact ab),λb z=>.inl z,R.mt,R.dB⟩ am ?_ be;cases z:H l5 with
  |none=>rfl
  |some o =>
   exfalso;by_cases w:a.own W l5
   .exact R4.mt _ (R4.dB _ w) a2
   .have:=U _ _ (S3 _ _ (s1 _ _ z)) λy=>y.elim w λy=>(by rw[y,ab]at z;cases z);rw[a2]at this;cases this
end
end St
namespace Rm
theorem mJ {ad:Int}{cs ws:List Int}{N:List Int}(h:¬ cA ad cs.length N) (G:ws.length=8*(ax ad cs.length).length):(dX ws (ad%8).toNat cs).length=8*(ax ad cs.length).length:=by
 unfold dX;rw[E2,E2,Kv,LV];by_cases e:((cs.length:Nat):Int)=0
 .have:ax ad cs.length=[]:=(by unfold ax;rw[Th e]);rw[this]at G ⊢;have J:ws.length=0:=G;have I:cs.length=0:=af;rw[J,I];simp
 .have O:(ax ad cs.length).length=(hV ad cs.length).toNat:=by
   unfold ax;rw[Tg e];unfold aK;rw[nq,Lg]
  have L:0<((cs.length:Nat):Int):=af;have h1:¬ cg (jK ad) (hV ad cs.length):=λz=>h (.inr ⟨L,.inl z⟩);have h2:¬ hV ad cs.length<1:=λz=>h1 (.inl z);rw[O]at G ⊢;unfold hV at *;omega
theorem Er {k:Nat}{ws:List Int}(h:ws.length=8*k):∀G∈fC k ws,G.length=8:=by
 intro G I;unfold fC at I;obtain⟨i,hi,rfl⟩:=rk.mp I;have:=KZ.mp hi;rw[Kv,LV,h];omega
end Rm
namespace St
open PySem L2
def fN (cv:Int->Int->List Int) (t:Int) (l:List (Int×List Int)):Int->Int->List Int:=λt' q=>if t'=t then(Tb.look l q).getD (cv t' q)else cv t' q
theorem vz {cv:Int->Int->List Int}{t:Int}:fN cv t []=cv:=by
 funext t' q;unfold fN;by_cases z:t'=t
 .rw[Th z];rfl
 .rw[Tg z]
theorem tf {cv:Int->Int->List Int}{t t' q:Int}{l:List (Int×List Int)}{p:Int}{r:List Int}:fN cv t ((p,r)::l) t' q=if t'=t/\q=p then r else fN cv t l t' q:=by
 unfold fN;by_cases z:t'=t
 .rw[Th z,Th z,Tb.aO];by_cases G:p=q
  .rw[Th G,Th ⟨z,G.symm⟩];rfl
  .rw[Tg G,Tg (λh=>G h.2.symm)]
 .rw[Tg z,Tg z,Tg (λh=>z h.1)]
def eJ (f:Int->List Int) (ad:Int) (cs:List Int):List (List Int):=Rm.fC (Rm.ax ad cs.length).length (Rm.dX (bM f (Rm.ax ad cs.length)) (ad%8).toNat cs)
inductive qe (K:Kq) (c:CA) (vs:List V) (H:Hp) (Q:VK) (e3:XK):Prop
 |mk (M:Addr->Prop) (a:RA) (s:Pg.PS) (W:di) (cv:Int->Int->List Int) (t ad:Int) (ca:Addr) (cs:List Int) (x:TD) (_:vs=[.ref a.rp,.int t,.int ad,.ref ca]) (_:aA c H M a s W) (_:Pg.RI s (ents W)) (_:Cv s W cv) (_:Tb.look W t=some x) (_:bq K H ca (cs.map V.int)) (_:cs.length<=500) (_:0<=ad) (_:ad<=1000) (_:¬ Rm.cA ad cs.length (x.t.map (·.1))) (_:∀(H':Hp) (M':Addr->Prop) (s':Pg.PS) (y:TD),aA c H' M' a s' (Tb.aY W t y)->Pg.RI s' (ents (Tb.aY W t y))->Cv s' (Tb.aY W t y) (fN cv t (((Rm.ax ad cs.length).zip (eJ (cv t) ad cs)).reverse))->(∀q,¬ q∈Rm.ax ad cs.length->Tb.look y.t q=Tb.look x.t q)->(∀q∈Rm.ax ad cs.length,∃k,Tb.look y.t q=some (some k))->Step H M (a.own W) H' M' (a.own (Tb.aY W t y))->(∀b,(s'.ow b).length=(s.ow b).length)->Q .non H'):qe K c vs H Q e3
theorem jF (ad n:Int):(Rm.ax ad n).Nodup:=by
 unfold Rm.ax;by_cases e:n=0
 .rw[Th e];exact Ms
 .rw[Tg e];exact ph _ _
theorem kT {α G:Type}{F:α->G->Prop}:∀{xs:List α}{ys:List G}{i:Nat}{x:α},Paired F xs ys->xs[i]?=some x->∃y,ys[i]?=some y/\F x y
 |_,_,_,_,.nil,e=>by simp at e
 |_,_,0,_,.cons r _,e=>by simp at e;subst e;exact⟨_,rfl,r⟩
 |_,_,i+1,x,.cons _ t,e=>by
  obtain⟨u,h1,h2⟩:=kT (i:=i) (x:=x) t (by simpa using e);exact⟨u,by simpa using h1,h2⟩
section
variable {P:ti}{w:Kl}{K:Kq}{mg:Str->Option Value}{base:Heap}
theorem rE:aD ["self","task","address","cells","table","pages","whole","page","changed"] ["self","task","address","cells"] (aw vL):=L2.bD
theorem zP {f:Addr}{fd:rn}{c:CA}(F:cD K "poke" "Rooms.poke" vL f fd) (T:oV K mg c) (TT:Tb.Txt K mg c.T) (GR:Df P w K mg base aS 1 "room_of" dY) (GO:Df P w K mg base aS 2 "pages_of_cells" Rm.iE) (d2:Df P w K mg base aS 1 "pages_with" (Rm.vV K)) (d3:Md P w K mg base aS 1 c.T "pages" (Tb.eL c.T)) (GG:Md P w K mg base aS 3 c.T "get" (Tb.lS c.T)) (GL:Md P w K mg base aS 3 c.T "lay" (Tb.rY K c.T)) (d5:Md P w K mg base aS 5 c.C "cells_of" (iB c)) (dz:Md P w K mg base aS 9 c.C "sheet_with" (gR c)):aZ P w K mg base aS 10 f fd ["self","task","address","cells"] (qe K c):=by
 refine F.dg rE (λet A outer s H vs Q E N h=>?_);obtain⟨M,a,s',W,cv,t,ad,ca,cs,x,rfl,R,ri,cm,O,bv,n6,eq,ew,hb,q⟩:=h;have hs:=BY;obtain⟨dx,ho⟩:=R.ob;have TX:=R.tb _ (Tb.aC O);obtain⟨ek,ht⟩:=TX.at_.ob;obtain⟨c1,c2⟩:=Rm.gF hb;refine⟨_,(ag (dA 4 rE.nd (pc GR N az (aa (aM (pv 0) rfl) (aa (pv 1) aj))))
  (ag (dA 5 rE.nd (pc GO N az (aa (qz (pv 4) TT.cl d3 N az) (aa (pv 2) (aa (aP bJ (by rfl) T.len boot_len (aa (pv 3) aj)) aj)))))
  (ag (dA 6 rE.nd (bN aj))
  (ag (cL Kt rfl (eK (pv 5)) (gG 7 rE.nd) (ao (aL (ig Lq Mr Px oM (pv 6) (aa (pm (pv 0) T.cl d5 N az (aa (pm (pv 4) TT.cl GG N az (aa (pv 7) aj)) aj)) aj)))))
  (ao (cL Kt rfl (Ej (by rfl) T.zip (aa (pv 5) (aa (pc d2 N az (aa (pv 6) (aa (pv 2) (aa (pv 3) aj)))) aj))) (dS rfl (bo (gG 7 rE.nd) (bo (gG 8 rE.nd) cX))) (ao (aL (pm (pv 4) TT.cl GL N az (aa (pv 7) (aa (cO (aa aN (aa (pm (pv 0) T.cl dz N az (aa (pm (pv 4) TT.cl GG N az (aa (pv 7) aj)) (aa (pv 8) aj))) aj))) aj))))))))))),?_⟩
 refine⟨_,rfl,a.rp,c.C,dx,_,_,rfl,ho,T.cl,T.nR,fw _ _ _,_,rfl,a.rd,W,t,x,rfl,R.hd,O,?_⟩;refine⟨_,rfl,x.p,ek,_,rfl,ht,Tb.aX _ aq,x.p,x.fs,x.tb,rfl,TX.at_,λH1 l1 ns s1 eo c9 pm ev=>?_⟩;have bi:∀{z},z∈x.t.map (·.1)->z∈ns:=λ{z} h=>(TX.mem pm z).mpr ((TX.keys z).mp h);refine⟨_,rfl,_,rfl,ca,_,rfl,.inl (Rm.er bv (s1 _)),l1,ns,ad,cs.length,by rw[nq];rfl,c9,λh=>hb (Rm.wD (λz hz=>bi hz) h),λH2 Y s2 db bl=>?_⟩;generalize eP:Rm.ax ad cs.length=ps at *;have c4:ps.Nodup:=(by rw[<-eP];exact jF _ _);have S2:=s1.trans s2;have R2:=R.same S2;refine⟨av,λG a4=>?_⟩;have R3:=R2.HB (o:=.lst []) a4;have s3:bg H2 (upd H2 G (.lst [])):=Tb.ar a4;have da:upd H2 G (.lst []) G=some (.lst []):=ae;generalize upd H2 G (.lst [])=H3 at *;have a6:H G=none:=S2.free a4;have em:¬ a.own W G:=λz=>R.mt _ (R.dB _ z) a6;have bm:=s3 _ _ bl;have dO:H Y=none:=s1.free db;have c7:¬ a.own W Y:=λz=>R.mt _ (R.dB _ z) dO;have b6:Y≠G:=λz=>(by rw[z,a4]at bl;cases bl);have cx:∀p∈ps,∃e,Tb.look x.t p=some e:=λp a0=>by
  cases z:Tb.look x.t p with
  |none=>exact absurd z ((TX.keys p).mp (c2 p a0))
  |some e=>exact⟨e,rfl⟩
 refine⟨_,rfl,Y,rfl,⟨_,bq.of bm⟩,?_⟩;refine eh (K:=K) (a:=Y) (xs:=ps.map V.int) (λi σ H4=>∃v7:Option V,Ef (σ=[some (.ref a.rp),some (.int t),some (.int ad),some (.ref ca),some (.ref x.p),some (.ref Y),some (.ref G),v7,none]) (aA c H4 (λb=>M b\/b=G) a s' W) (H4 G=some (.lst ((bM (cv t) (ps.take i)).map V.int))) ((bM (cv t) (ps.take i)).length=8*i) (Off (· = G) H3 H4))
  ⟨_,rfl,R3,da,rfl,λ_ _ e _=>e⟩ (λi σ H4 _ z0=>by obtain⟨_,_,_,_,_,o4⟩:=z0;exact bq.of (o4 _ _ bm b6)) ?_ ?_
 .rintro i u σ H4 hu ⟨v7,rfl,U,aB,a3,o4⟩;rw[wh]at hu;obtain⟨p,L,rfl⟩:=vr.mp hu;have a0:=DD L;obtain⟨hi,c0⟩:=j1.mp L;have T4:=U.tb _ (Tb.aC O);obtain⟨el,dT⟩:=T4.at_.ob;obtain⟨eb,dM⟩:=U.ob;obtain⟨e,he⟩:=cx p a0;have bI:=cm t x O p e he;have c8:=yi.len ri.good bI;refine⟨_,rfl,.inl ⟨rfl,_,bq.of aB⟩,_,rfl,a.rp,eb,_,rfl,dM,fV _ _ _ aq aq aq,_,rfl,x.p,el,_,rfl,dT,Tb.aX _ aq,_,rfl,x.p,x.fs,x.tb,p,rfl,T4.at_,λH5 v s5 hv=>?_⟩;rw[T4.lk,he]at hv;obtain⟨tt,rfl,a7⟩:=hv;refine⟨_,a,s',W,tt,e,cv t p,rfl,U.same s5,ri.good,a7,bI,λH7 l7 s7 f7 h7=>?_⟩;have S7:=s5.trans s7;have R7:=U.same S7;have bY:=S7 _ _ aB;refine⟨G,l7,_,_,rfl,rfl,bY,h7,by rw[nq,nq];omega,?_⟩;rw[<-Kr, <-eR L];exact⟨_,rfl,R7.JU bY (.inr rfl) em,ae,by rw[eR L,E2];omega,λb o e z=>by rw[ah z];exact S7 _ _ (o4 b o e z)⟩
 .rintro σ H4 ⟨v7,rfl,U,aB,a3,o4⟩;rw[nq,LC]at aB a3;have ec:bq K H4 ca (cs.map V.int):=Rm.er bv λo e=>o4 _ _ (s3 _ _ (S2 _ _ e)) (λz=>by rw[z,a6]at e;cases e);have ef:=o4 _ _ bm b6;have ba:=Rm.mJ hb (ws:=bM (cv t) ps) (by rw[eP];exact a3);rw[eP]at ba;refine⟨_,rfl,_,rfl,_,rfl,_,rfl,G,ca,_,cs,ad,ps.length,rfl,aB,ec,by rw[a3];omega,af,c1,ba,λH5 l5 rs s5 dp bn a5 c5 ep=>?_⟩;have R5:=U.same s5;have cc:=s5 _ _ ef;have bE:rs.length=ps.length:=by
   rw[a5.length];unfold Rm.fC;rw[nq,Lg]
  have h8:=Rm.Er ba;generalize eC:Rm.fC ps.length (Rm.dX (bM (cv t) ps) (ad%8).toNat cs)=ch at a5 h8;have d6:ch.length=ps.length:=(by rw[<-a5.length,bE]);have ea:eJ (cv t) ad cs=ch:=(by unfold eJ;rw[eP];exact eC);have d4:Step H M (a.own W) H5 (λb=>M b\/b=G) (a.own W):=⟨λb o e z=>s5 _ _ (o4 _ _ (s3 _ _ (S2 _ _ e)) (λy=>by rw[y,a6]at e;cases e)),λb z _=>.inl z,λb z=>z.elim .inl λz=>.inr (by rw[z];exact a6),λb z=>.inl z,R.mt,R.dB⟩;have cC:∀r∈rs,¬ (M r\/r=G):=λr N z=>U.mt r z (c5 r N);have c3:∀{l},H4 l=none->¬ a.own W l:=λh z=>U.mt _ (U.dB _ z) h;refine⟨Y,l5,rfl,⟨_,bq.of cc⟩,⟨_,bq.of bn⟩,?_⟩;refine Cu (K:=K) (a:=Y) (b:=l5) (xs:=ps.map V.int) (ys:=rs.map V.ref) (λi σ H6=>BF λ(v7 v8:Option V) (M6:Addr->Prop) (s6:Pg.PS) (y:TD)=>HQ (σ=[some (.ref a.rp),some (.int t),some (.int ad),some (.ref ca),some (.ref y.p),some (.ref Y),some (.ref G),v7,v8]) (aA c H6 M6 a s6 (Tb.aY W t y)) (Pg.RI s6 (ents (Tb.aY W t y))) (Cv s6 (Tb.aY W t y) (fN cv t (((ps.zip ch).take i).reverse))) ((∀q,¬ q∈ps.take i->Tb.look y.t q=Tb.look x.t q)) ((∀q∈ps.take i,∃k,Tb.look y.t q=some (some k))) (Step H5 (λb=>M b\/b=G) (a.own W) H6 M6 (a.own (Tb.aY W t y))) (∀b,(s6.ow b).length=(s'.ow b).length))
   ⟨_,_,_,s',x,rfl,by rw[cG R.nd O];exact R5,by rw[cG R.nd O];exact ri,by rw[cG R.nd O,Qr];show Cv s' W (fN cv t []);rw[vz];exact cm,λ_ _=>rfl,λq hq=>by simp at hq,by rw[cG R.nd O];exact R5.refl,λ_=>rfl⟩ (by rw[nq,nq,bE]) (λi σ H6 _ z0=>by
    obtain⟨_,_,_,_,_,_,_,_,_,_,_,st,_⟩:=z0;exact⟨bq.of (st.off _ _ cc c7),bq.of (st.off _ _ bn (c3 dp))⟩) ?_ ?_
  .rintro i u v σ H6 z hu hv hz ⟨v7,v8,M6,s6,y,rfl,R6,be,aT,ap,a2,as,bc⟩;rw[wh]at hu hv;obtain⟨p,L,rfl⟩:=vr.mp hu;obtain⟨r,b4,rfl⟩:=vr.mp hv;have b7:r∈rs:=DD b4;have a0:=DD L;obtain⟨hi,c0⟩:=j1.mp L;obtain⟨ab,b5,b1⟩:=kT a5 b4;have dV:=h8 ab (DD b5);have d1:¬ p∈ps.take i:=λz=>by
    obtain⟨j,I,e⟩:=Mc z;rw[NH]at e;rw[Kv]at I;exact pF c4 j i (IF af) L af e
   have ee:=as.off _ _ b1 (λw=>cC r b7 (R5.dB _ w));have dd:¬ M6 r:=λw=>(as.mn r w).elim (cC r b7) λw=>(by rw[b1]at w;cases w);have sT:=Tb.ar (X:=.tup [.int p,.ref r]) hz;refine⟨z,[.int p,.ref r],rfl,bZ.of ae,rfl,.int p,[.ref r],rfl,.ref r,[],rfl,rfl,?_⟩;have R7:=R6.same sT;have S7:=as.trans (R6.iO sT);have dL:=sT _ _ ee;generalize upd H6 z (.tup [.int p,.ref r])=H7 at *;have ai:=eX (y:=y) O;have T7:=R7.tb _ (Tb.aC ai);obtain⟨bz,b2⟩:=T7.at_.ob;obtain⟨dm,cT⟩:=R7.ob;obtain⟨e,ce⟩:=cx p a0;have he:Tb.look y.t p=some e:=(ap p d1).trans ce;refine⟨_,rfl,y.p,bz,_,rfl,b2,Tb.aX _ aq,_,rfl,_,rfl,a.rp,dm,_,rfl,cT,fV _ _ _ aq aq aq,_,rfl,y.p,bz,_,rfl,b2,Tb.aX _ aq,_,rfl,y.p,y.fs,y.tb,p,rfl,T7.at_,λH8 v s8 hv=>?_⟩;rw[T7.lk,he]at hv;obtain⟨tt,rfl,a7⟩:=hv;have R8:=R7.same s8;have S8:=S7.trans (R7.iO s8);have pe:(ents (Tb.aY W t y)).Perm (e::(su (Tb.a8 y.t p)++ents (Tb.a8 (Tb.aY W t y) t))):=(eT R7.nd ai).trans ((sv T7.nd he).append_right _);refine⟨_,rfl,M6,a,s6,Tb.aY W t y,tt,r,e,_,ab,rfl,R8,be.perm pe,a7,s8 _ _ dL,dd,dV,λH9 s9 k R9 ei b0 dy ej dl=>?_⟩;refine⟨fE,λu fu=>?_⟩;have sU:=Tb.ar (X:=.tup [.str "sheet",.int k]) fu;have bb:=R9.same sU;have d8:=(S8.trans ej).trans (R9.iO sU);have cP:upd H9 u (.tup [.str "sheet",.int k]) u=some (.tup [.str "sheet",.int k]):=ae;have d7:=bb.tb _ (Tb.aC ai);obtain⟨g1,g2⟩:=TX.pg (q:=p) (by rw[ce];simp);refine⟨y.p,y.fs,u,y.tb,p,[.str "sheet",.int k],rfl,d7.at_,g1,g2,.inl cP,rfl,λen am cS dj bx bA=>?_⟩;have TI:c6 c.T en ⟨y.p,y.fs,am,(p,some k)::Tb.a8 y.t p⟩:=⟨cS,Tb.Et T7.nd,λj=>by
    rw[dj j,Tb.jQ];by_cases w:j=p
    .rw[Th w,Th w];rfl
    .rw[Tg w,Tg w];exact T7.lk j⟩
   have b8:=bb.uG (y:=⟨y.p,y.fs,am,(p,some k)::Tb.a8 y.t p⟩) ai rfl TI bx bA;have ci:=d8.trans (bb.qJ (y:=⟨y.p,y.fs,am,(p,some k)::Tb.a8 y.t p⟩) ai bx bA);have b3:=AU (y:=⟨y.p,y.fs,am,(p,some k)::Tb.a8 y.t p⟩) (e:=some k) (q:=p) R7.nd ai rfl;rw[set_set]at b8 ci b3;have dI:(ps.zip ch)[i]?=some (p,ab):=by
    rw[OJ];exact⟨L,b5⟩
   refine⟨_,_,_,s9,⟨y.p,y.fs,am,(p,some k)::Tb.a8 y.t p⟩,rfl,b8,ei.perm b3.symm,?_,?_,?_,ci,λb=>(dl b).trans (bc b)⟩
   .intro ac bd a1 q J S;rw[Lu,dI,show(some (p,ab)).toList=[(p,ab)]from rfl,NJ,show([(p,ab)]:List (Int×List Int)).reverse=[(p,ab)]from rfl,List.singleton_append,tf];rw[Tb.bO ac O]at a1;have cr:∀{J},J∈su (Tb.a8 y.t p)\/J∈ents (Tb.a8 (Tb.aY W t y) t)->J∈su (Tb.a8 y.t p)++ents (Tb.a8 (Tb.aY W t y) t):=λh=>pa.mpr h;by_cases w:ac=t
    .rw[Th w]at a1;cases a1;have S:Tb.look ((p,some k)::Tb.a8 y.t p) q=some J:=S;rw[Tb.jQ]at S;by_cases w2:q=p
     .rw[Th w2]at S;cases S;rw[Th ⟨w,w2⟩];exact dy
     .rw[Tg w2]at S;rw[Tg (λh=>w2 h.2)];refine b0 J (cr (.inl ?_)) _ (aT ac y (by rw[w];exact ai) q J S);exact rk.mpr ⟨(q,J),Tb.mM (Tb.aC S) w2,rfl⟩
    .rw[Tg w]at a1;rw[Tg (λh=>w h.1)];have h2:Tb.look (Tb.aY W t y) ac=some bd:=(by rw[Tb.bO ac O,Tg w];exact a1);refine b0 J (cr (.inr ?_)) _ (aT ac bd h2 q J S);exact NW.mpr ⟨(ac,bd),Tb.mM (Tb.aC h2) w,rk.mpr ⟨(q,J),Tb.aC S,rfl⟩⟩
   .intro j I;rw[Lu,L]at I;have w:j≠p:=λw=>I (by rw[w];simp);show Tb.look ((p,some k)::Tb.a8 y.t p) j=_;rw[Tb.jQ,Tg w];exact ap j λh=>I (Lp _ h)
   .intro j I;show ∃k',Tb.look ((p,some k)::Tb.a8 y.t p) j=some (some k');rw[Tb.jQ];by_cases w:j=p
    .rw[Th w];exact⟨k,rfl⟩
    .rw[Tg w];rw[Lu,L]at I;rcases pa.mp I with I|I
     .exact a2 j I
     .exact absurd (by simpa using I) w
  .rintro σ H6 ⟨v7,v8,M6,s6,y,rfl,R6,be,aT,ap,a2,as,bc⟩;rw[nq,LC]at ap a2;rw[nq,Ll (by rw[List.length_zip,d6];omega), <-ea]at aT;exact q H6 M6 s6 y R6 be aT ap a2 (d4.trans as) bc
end
def zh (cv:Int->Int->List Int) (t o:Int):Int->Int->List Int:=λt' q=>if t'=o then cv t q else cv t' q
inductive qO (c:CA) (vs:List V) (H:Hp) (Q:VK) (e3:XK):Prop
 |mk (M:Addr->Prop) (a:RA) (s:Pg.PS) (W:di) (cv:Int->Int->List Int) (t o:Int) (x:TD) (_:vs=[.ref a.rp,.int t,.int o]) (_:aA c H M a s W) (_:Pg.RI s (ents W)) (_:Cv s W cv) (_:W.length<=1000) (_:Tb.look W t=some x) (_:Tb.look W o=none) (_:(ents W).length+x.t.length<=bC s) (_:∀(H':Hp) (M':Addr->Prop) (s':Pg.PS) (y:TD),(∀q,Tb.look y.t q=Tb.look x.t q)->aA c H' M' a s' (W++[(o,y)])->Pg.RI s' (ents (W++[(o,y)]))->Cv s' (W++[(o,y)]) (zh cv t o)->Step H M (a.own W) H' M' (a.own (W++[(o,y)]))->(∀b,(s'.ow b).length=(s.ow b).length)->Q .non H'):qO c vs H Q e3
theorem nJ (W:di) (o:Int) (y:TD):ents (W++[(o,y)])=ents W++su y.t:=by
 unfold ents;rw[Of];simp
section
variable {P:ti}{w:Kl}{K:Kq}{mg:Str->Option Value}{base:Heap}
theorem yp:aD ["self","task","other","table","pages","copied","page","entry"] ["self","task","other"] (aw vh):=L2.bD
theorem ze {f fI:Addr}{fd dI:rn}{c:CA}(F:cD K "copy" "Rooms.copy" vh f fd) (T:oV K mg c) (TT:Tb.Txt K mg c.T) (TP:nN K mg c.P) (MK:Mk K c.T fI) (c9:mg "Table" = some (.ref c.T)) (GR:Df P w K mg base aS 1 "room_of" dY) (GS:Df P w K mg base aS 1 "refuse_second_room" js) (GA:Df P w K mg base aS 1 "refuse_above" lK) (GI:aZ P w K mg base aS 1 fI dI ["self"] (Tb.gU c.T)) (bI:Binds K dI ["self"] []) (cP:Md P w K mg base aS 1 c.T "pages" (Tb.eL c.T)) (GH:Md P w K mg base aS 2 c.C "held" (iD c)) (GG:Md P w K mg base aS 3 c.T "get" (Tb.lS c.T)) (GL:Md P w K mg base aS 3 c.T "lay" (Tb.rY K c.T)) (c0:Md P w K mg base aS 4 c.P "share" (qd c.P c.S)):aZ P w K mg base aS 5 f fd ["self","task","other"] (qO c):=by
 obtain⟨aB,mB,sB⟩:=T.bl;have rB:RelV (.ref aB) (.ref aB):=rfl;refine F.dg yp (λdM A outer s H vs Q E L h=>?_);obtain⟨M,a,s',W,cv,t,o,x,rfl,R,ri,c8,lw,hx,a4,c5,q⟩:=h;have hs:=BY;obtain⟨dx,ho⟩:=R.ob;have TX:=R.tb _ (Tb.aC hx);obtain⟨dp,ht⟩:=TX.at_.ob;refine⟨_,(ag (dA 3 yp.nd (pc GR L az (aa (aM (pv 0) rfl) (aa (pv 1) aj))))
  (ag (aL (pc GS L az (aa (aM (pv 0) rfl) (aa (pv 2) aj))))
  (ag (dA 4 yp.nd (qz (pv 3) TT.cl cP L az))
  (ag (aL (pc GA L az (aa (ay aV (qz (pv 0) T.cl GH L az) (aP bJ (by rfl) T.len boot_len (aa (pv 4) aj))) (aa (aM (pv 0) rfl) aj))))
  (ag (dA 5 yp.nd (sO MK GI (L.mono av) (by rfl) c9 bI .nil az))
  (ag (cL Kt rfl (eK (pv 4)) (gG 6 yp.nd) (ag (dA 7 yp.nd (pm (pv 3) TT.cl GG L az (aa (pv 6) aj)))
  (ag (aL (pm (pv 5) TT.cl GL L az (aa (pv 6) (aa (pv 7) aj))))
  (ao (aU (aE (u6 L.gv) (pv 7) (cj (by rfl) mB rB) (aI _)) (ao (aL (pm (aM (pv 0) rfl) TP.cl c0 L az (aa (a9 bh (pv 7) ak cq) aj)))) aH)))))
  (ao (jn (bf L) (aM (pv 0) rfl) (pv 2) (pv 5) rfl)))))))),?_⟩
 refine⟨_,rfl,a.rp,c.C,dx,_,_,rfl,ho,T.cl,T.nR,fw _ _ _,_,rfl,a.rd,W,t,x,rfl,R.hd,hx,?_⟩;refine⟨_,rfl,a.rp,c.C,dx,_,_,rfl,ho,T.cl,T.nR,fw _ _ _,_,rfl,a.rd,W,o,rfl,R.hd,a4,?_⟩;refine⟨_,rfl,x.p,dp,_,rfl,ht,Tb.aX _ aq,x.p,x.fs,x.tb,rfl,TX.at_,λH1 U ns s1 ch b7 pm dO=>?_⟩;have R1:=R.same s1;have cS:ns.length=x.t.length:=TX.len pm;obtain⟨c1,ci⟩:=R1.ob;refine⟨_,rfl,a.rp,c1,_,rfl,ci,fV _ _ _ aq aq aq,M,a,s',W,rfl,R1,lw,λH2 s2=>?_⟩;have R2:=R1.same s2;have bd:=s2 _ _ b7;obtain⟨b8,cC⟩:=R2.ob;refine⟨_,rfl,U,_,rfl,.inl (bq.of bd),_,_,rfl,rfl,_,rfl,a.rp,c.C,b8,_,_,rfl,cC,T.cl,T.nT,Fy _ _ _,_,_,rfl,by rw[nq,cS];omega,?_⟩;have S2:=s1.trans s2;refine λp c4 np bE dL=>⟨p,c4,rfl,ae,λfs H3 be T3 off=>⟨rfl,?_⟩⟩;have s3:bg H2 H3:=λb u e=>off b u (by rw[ah (au e np),ah (au e bE)];exact e) (au e np);have a1:H2 fs=none:=by
  cases e:H2 fs with
  |none=>rfl
  |some u=>rw[ah (au e np),ah (au e bE),e]at be;cases be
 have a6:H fs=none:=S2.free a1;have ca:H p=none:=S2.free np;have R3:=R2.D8 (H':=H3) (B:=λ_=>False) (M':=λb=>M b\/b=fs) (λb o e _=>s3 b o e) (λb z=>z.elim) (λb z=>z.elim) (λb z=>z.elim .inl λz=>.inr (by rw[z];exact a1)) (λb z _=>.inl z) (λb z e=>z.elim (λz=>(R2.same s3).mt b z e) λz=>by rw[z,T3.hf]at e;cases e);have b2:=s3 _ _ bd;have db:¬ a.own W U:=λz=>R.mt _ (R.dB _ z) ch;have b4:Step H M (a.own W) H3 (λb=>M b\/b=fs) (a.own W):=⟨λb o e _=>s3 _ _ (S2 _ _ e),λb z _=>.inl z,λb z=>z.elim .inl λz=>.inr (by rw[z];exact a6),λb z=>.inl z,R.mt,R.dB⟩;have dd:∀b,(TD.mk p fs [] []).eF b->b=fs:=λb z=>by
  rcases z with z|⟨_,hx,_⟩
  .exact z
  .cases hx
 have b5:ns.Nodup:=pm.nodup_iff.mpr (Tb.jI TX.at_);refine⟨_,rfl,U,rfl,⟨_,bq.of b2⟩,?_⟩;refine eh (K:=K) (a:=U) (xs:=ns.map V.int) (λi σ H4=>BF λ(v6 v7:Option V) (O:Addr->Prop) (I:Pg.PS) (y:TD)=>Hj (σ=[some (.ref a.rp),some (.int t),some (.int o),some (.ref x.p),some (.ref U),some (.ref y.p),v6,v7]) (aA c H4 O a I W) (c6 c.T H4 y) ((∀b,y.eF b->O b/\¬ a.own W b/\H b=none/\b≠U)) (¬ a.A.own y.p) ((∀q,Tb.look y.t q=if q∈ns.take i then Tb.look x.t q else none)) (Pg.RI I (su y.t++ents W)) (y.t.length=i) (Cv I W cv) ((∀q e,Tb.look y.t q=some e->Pg.yi I e (cv t q))) (Step H M (a.own W) H4 O (a.own W)) (H4 U=some (.lst (ns.map V.int))) (∀b,(I.ow b).length=(s'.ow b).length))
  ⟨_,_,_,s',⟨p,fs,[],[]⟩,rfl,R3,⟨T3,Ms,λq=>rfl⟩,λb z=>?_,λz=>R.mt _ (R.ok.own _ z) ca,λq=>by simp[Tb.gW],ri,rfl,c8,λq e h=>(by cases h),b4,b2,λ_=>rfl⟩ (λi σ H4 _ z0=>by obtain⟨_,_,_,_,_,_,_,_,_,_,_,_,_,_,_,_,h,_⟩:=z0;exact bq.of h) ?_ ?_
 .rw[dd b z];exact⟨.inr rfl,λw=>R.mt _ (R.dB _ w) a6,a6,λw=>by rw[w,bd]at a1;cases a1⟩
 .rintro i u σ H4 hu ⟨v6,v7,O,I,y,rfl,Y,T4,N,as,a0,ab,a2,aT,a5,ai,bb,am⟩;rw[wh]at hu;obtain⟨G,hp,rfl⟩:=vr.mp hu;have dm:=DD hp;obtain⟨hi,dz⟩:=j1.mp hp;have cx:¬ G∈ns.take i:=λz=>by
   obtain⟨j,hj,e⟩:=Mc z;rw[NH]at e;rw[Kv]at hj;exact pF b5 j i (IF af) hp af e
  obtain⟨e,he⟩:∃e,Tb.look x.t G=some e:=by
   cases z:Tb.look x.t G with
   |none=>exact absurd z ((TX.mem pm G).mp dm)
   |some e=>exact⟨e,rfl⟩
  have b3:Tb.look y.t G=none:=(by rw[a0,Tg cx]);have X4:=Y.tb _ (Tb.aC hx);obtain⟨dy,cr⟩:=X4.at_.ob;refine⟨_,rfl,x.p,dy,_,rfl,cr,Tb.aX _ aq,_,rfl,x.p,x.fs,x.tb,G,rfl,X4.at_,λH5 v s5 hv=>?_⟩;rw[X4.lk,he]at hv;obtain⟨tt,rfl,a7⟩:=hv;have R5:=Y.same s5;have T5:c6 c.T H5 y:=⟨T4.at_.same s5,T4.nd,T4.lk⟩;obtain⟨c3,cT⟩:=T5.at_.ob;obtain⟨g1,g2⟩:=TX.pg (q:=G) (by rw[he];simp);have dj:Tb.lY (yC e)=true:=(by cases e<;>rfl);refine⟨_,rfl,y.p,c3,_,rfl,cT,Tb.aX _ aq,_,rfl,_,rfl,y.p,y.fs,tt,y.tb,G,yC e,rfl,T5.at_,g1,g2,.inl a7,dj,λH6 ac T6 l6 o6 n6=>?_⟩;have dl:¬ y.eF tt:=λz=>by
   obtain⟨_,h⟩:=T5.at_.dK z;rw[a7]at h;cases h
  have bz:=o6 _ _ a7 dl;have ba:c6 c.T H6 ⟨y.p,y.fs,ac,(G,e)::y.t⟩:=⟨T6,Ky.mpr ⟨Tb.bV b3,T4.nd⟩,λj=>by
   rw[l6 j,Tb.aO];by_cases z:j=G
   .rw[Th z,Th z.symm];rfl
   .rw[Tg z,Tg (qw z)];exact T4.lk j⟩
  have bv:∀{b},H5 b=none->¬ a.own W b/\H b=none:=λ{b} h=>by
   have no:¬ a.own W b:=λz=>R5.mt _ (R5.dB _ z) h;exact⟨no,((ai.trans (Y.iO s5)).gone h).resolve_left no⟩
  have R6:=R5.D8 (H':=H6) (B:=y.eF) (M':=λb=>(O b/\¬ y.eF b)\/(TD.mk y.p y.fs ac ((G,e)::y.t)).eF b) o6 (λb z=>⟨(N b z).1,(N b z).2.1⟩) (λb z=>.inr (T5.at_.dK z)) (λb z=>z.elim (λz=>.inl z.1) λz=>(n6 b z).elim (λz=>.inl (N b z).1) .inr) (λb z w=>.inl ⟨z,w⟩) (λb z w=>by
   rcases z with z|z
   .cases e2:H5 b with
    |none=>exact R5.mt b z.1 e2
    |some u=>rw[o6 b u e2 z.2]at w;cases w
   .obtain⟨_,h⟩:=ba.at_.dK z;rw[w]at h;cases h)
  have a3:∀b,(TD.mk y.p y.fs ac ((G,e)::y.t)).eF b->((O b/\¬ y.eF b)\/(TD.mk y.p y.fs ac ((G,e)::y.t)).eF b)/\¬ a.own W b/\H b=none/\b≠U:=λb z=>by
   rcases n6 b z with w|w
   .exact⟨.inr z,(N b w).2⟩
   .exact⟨.inr z,(bv w).1,(bv w).2,λy=>by rw[y,s5 _ _ bb]at w;cases w⟩
  have bc:=ai.trans (Y.iO s5);have bY:Step H M (a.own W) H6 (λb=>(O b/\¬ y.eF b)\/(TD.mk y.p y.fs ac ((G,e)::y.t)).eF b) (a.own W):=⟨λb o e z=>o6 _ _ (bc.off b o e z) (λw=>by rw[(N b w).2.2.1]at e;cases e),λb z w=>.inl ⟨bc.mm b z w,λy=>R.mt b z (N b y).2.2.1⟩,λb z=>z.elim (λz=>bc.mn b z.1) λz=>.inr (a3 b z).2.2.1,λb z=>.inl z,R.mt,R.dB⟩;have bn:=o6 _ _ (s5 _ _ bb) λz=>(N _ z).2.2.2 rfl;have bx:∀j,Tb.look ((G,e)::y.t) j=if j∈ns.take (i+1)then Tb.look x.t j else none:=λj=>by
   rw[Tb.aO,a0 j,Lu,hp];by_cases z:G=j
   .rw[Th z, <-z,Th (by simp),he]
   .rw[Tg z];by_cases z2:j∈ns.take i
    .rw[Th z2,Th (Lp _ z2)]
    .rw[Tg z2,Tg (by simp[qw z,z2])]
  have b1:(su y.t++ents W).length<(I.ow true).length+(I.ow false).length:=by
   have e1:(su y.t).length=i:=(by unfold su;rw[nq];exact a2);rw[E2,e1,am,am];unfold bC at c5;omega
  have bi:=aT t x hx G e he;refine⟨_,rfl,tt,aB,_,_,rfl,rfl,bZ.of bz,iL.sq (.inr sB),?_⟩;cases e with
  |none =>
   refine⟨rfl,rfl,_,rfl,bU ?_⟩;refine⟨_,_,_,I,⟨y.p,y.fs,ac,(G,none)::y.t⟩,rfl,R6,ba,a3,as,bx,ab.lay b1,by rw[Kp,a2],aT,λj J h'=>?_,bY,bn,am⟩;have h':Tb.look ((G,none)::y.t) j=some J:=h';rw[Tb.aO]at h';by_cases z:G=j
   .rw[Th z]at h';cases h';rw[<-z];exact bi
   .rw[Tg z]at h';exact a5 j J h'
  |some k =>
   refine⟨rfl,rfl,_,rfl,eI ?_⟩;obtain⟨c2,da⟩:=R6.ob;obtain⟨ce,b6⟩:=R6.pg.ob;obtain⟨cs,cc,hv⟩:=ab.is k (KL _ (jR hx he));obtain⟨b0,n0,hk,_,_⟩:=id hv;refine⟨_,rfl,a.rp,c.C,c2,_,_,rfl,da,T.cl,T.nP,kN _ _ _,a.A.pg,ce,_,rfl,b6,cF _ _ aq aq aq aq aq,_,rfl,tt,_,1,_,rfl,rfl,bZ.of bz,rfl,_,a.A,I,k,b0,n0,cs,cc,rfl,R6.Ih ab,hk,hv,λH7 G7 O7=>?_⟩;have sm:=λJ=>Pg.vW (es:=[J]) ab.good hk hv J (kQ.mpr rfl);have bm:∀b,((Pg.cn I b0 n0 (cc+1)).ow b).length=(I.ow b).length:=λb=>Pg.du b;refine⟨_,_,_,_,⟨y.p,y.fs,ac,(G,some k)::y.t⟩,rfl,R6.kr G7 O7 bm,ba.off O7 as (λb z w=>(a3 b z).2.1 (.inl w)) R6.pg.pX,a3,as,bx,ab.share hk hv b1,by rw[Kp,a2],aT.keep λJ _=>sm J,λj J h'=>?_,bY.trans (R6.GX G7 O7),O7 _ _ bn (λz=>db (.inl z)),λb=>(bm b).trans (am b)⟩;have h':Tb.look ((G,some k)::y.t) j=some J:=h';rw[Tb.aO]at h';by_cases z:G=j
   .rw[Th z]at h';cases h';rw[<-z];exact sm _ _ bi
   .rw[Tg z]at h';exact sm _ _ (a5 j J h')
 .rintro σ H4 ⟨v6,v7,O,I,y,rfl,Y,T4,N,as,a0,ab,a2,aT,a5,ai,bb,am⟩;rw[nq,LC]at a0;have hy:∀j,Tb.look y.t j=Tb.look x.t j:=λj=>by
   rw[a0 j];by_cases z:j∈ns
   .rw[Th z]
   .rw[Tg z];cases w:Tb.look x.t j with
    |none=>rfl
    |some e=>exact absurd ((TX.mem pm j).mpr (by rw[w];simp)) z
  obtain⟨c7,cm⟩:=Y.ob;refine⟨_,rfl,_,rfl,a.rp,c.C,c7,_,_,rfl,cm,T.cl,T.nR,fw _ _ _,_,rfl,a.rd,_,rfl,fX.k (k:=vu o) Y.hd (by rw[Tb.cu];omega),?_⟩;rw[show(V.ref y.p)=fR y from rfl,Tb.cw a4];have R5:=Y.zN a4 T4 (λb z=>⟨(N b z).1,(N b z).2.1⟩) as;refine q _ O I y hy R5 (by rw[nJ];exact ab.perm Nf) ?_ ⟨?_,ai.mm,ai.mn,λb z=>?_,R.mt,R.dB⟩ am
  .intro t' x' h' j J bA;rw[Tb.bF t' a4]at h';unfold zh;by_cases z:t'=o
   .rw[Th z]at h' ⊢;cases h';exact a5 j J bA
   .rw[Tg z]at h' ⊢;exact aT t' x' h' j J bA
  .intro b u e z;rw[ah (λw=>z (.inr (.inl w)))];exact ai.off b u e z
  .rcases z with z|z|⟨x',ap,z⟩
   .exact .inl (.inl z)
   .exact .inl (.inr (.inl z))
   .rcases pa.mp ap with ap|ap
    .exact .inl (.inr (.inr ⟨x',ap,z⟩))
    .rw[kQ.mp ap]at z;exact .inr (N b z).2.2.1
end
abbrev ue:KO:=inClass (top 14) 0
abbrev vT:KO:=inClass (top 33) 0
def s0 (nf ns:Nat):Pg.PS:=⟨λb=>replicate (if b=true then nf else ns) 0,λb=>replicate (if b=true then nf else ns) none,λ_=>none,0,[]⟩
theorem Ge {nf ns:Nat}(h:0<nf):Pg.RI (s0 nf ns) []:=by
 have J:∀(b:Bool) (n:Nat) (c:Int),((s0 nf ns).ow b)[n]?=some c->c=0:=λb n c e=>by
  have e:(replicate (if b=true then nf else ns) (0:Int))[n]?=some c:=e;exact(QL.mp (DD e)).2
 have G:∀n:Nat,(replicate n (0:Int)).sum=0:=λn=>by
  induction n with
  |zero=>rfl
  |succ n I=>rw[L6,MJ,I];rfl
 refine⟨⟨(λk p e=>by cases e),(λk b n e=>by cases e),(λk j p e=>by cases e),λb n c e=>.inl (J b n c e),λb=>?_,Ms,λk=>⟨(λz=>by cases z),(λ⟨n,e⟩=>by cases e)⟩⟩,Lo _,λe=>?_,(λk z=>by cases z),λk cs c z=>?_,?_,KI _⟩
 .show(replicate _ _).length=(replicate _ _).length;rw[Kn,Kn]
 .have:(replicate nf (0:Int)).length=0:=(by rw[show replicate nf (0:Int)=[]from e];rfl);rw[Kn]at this;omega
 .obtain⟨b,n,e,_⟩:=z;cases e
 .show(replicate nf (0:Int)).sum+(replicate ns (0:Int)).sum=0;rw[G,G];rfl
def PA.nine (A:PA):List Addr:=[A.pg,A.fp,A.fo,A.fc,A.sp,A.so,A.sc,A.pd,A.il]
inductive qF (C CS:Addr) (vs:List V) (H:Hp) (Q:VK) (e3:XK):Prop
 |mk (p dx:Addr) (nf ns:Nat) (_:vs=[.ref p,.int nf,.int ns]) (_:nf<=60) (_:ns<=60) (_:H p=some (.ins C dx [])) (_:∀(H':Hp) (A:PA),A.pg=p->A.nine.Nodup->(∀b∈A.nine,b=p\/H b=none)->(∀M,bH C CS H' M A (s0 nf ns))->Off (· = p) H H'->Q .non H'):qF C CS vs H Q e3
inductive pS (c:CA) (vs:List V) (H:Hp) (Q:VK) (e3:XK):Prop
 |mk (p dx:Addr) (nf ns:Nat) (_:vs=[.ref p,.int nf,.int ns]) (_:nf<=60) (_:ns<=60) (_:0<nf) (_:H p=some (.ins c.C dx [])) (_:∀(H':Hp) (M:Addr->Prop) (a:RA),a.rp=p->aA c H' M a (s0 nf ns) []->(∀b,M b->H b=none)->Off (· = p) H H'->Q .non H'):pS c vs H Q e3
theorem cy {H:Hp}{a b:Addr}{o:HO}(h:upd H a o b=none):b≠a/\H b=none:=by
 by_cases z:b=a
 .rw[z,ae]at h;cases h
 .rw[ah z]at h;exact⟨z,h⟩
theorem hX {C p ow co:Addr}{B:Addr->Prop}{os:List Int}{pg:List (Option (List Int))}{H H':Hp}(S:∀M,aQ C H M p ow co os pg) (o:Off B H H') (G:¬ B p) (I:¬ B ow) (J:¬ B co):∀M,aQ C H' M p ow co os pg:=λM =>
 ((S λb=>M b\/B b).off o (λb z=>.inr z) G I J).less λb z=>.inl z
theorem gY {C CS p dx q ow co:Addr}{fs:List (Str×V)}{os:List Int}{pg:List (Option (List Int))}{H:Hp}(G:H p=some (.ins C dx fs)) (S:∀M,aQ CS H M q ow co os pg):∀b,b=p\/b=q\/b=ow\/b=co->H b≠none:=by
 intro b z e;have S:=S λ_=>False;obtain⟨J,h2⟩:=S.ob;obtain⟨_,I,_⟩:=S.hc;rcases z with z|z|z|z<;>rw[z]at e
 .rw[G]at e;cases e
 .rw[h2]at e;cases e
 .rw[S.hw]at e;cases e
 .rw[I]at e;cases e
theorem mI {C CS:Addr}{H:Hp}{M:Addr->Prop}{A:PA}{s:Pg.PS}(G:bH C CS H M A s):∀b∈A.nine,H b≠none:=by
 intro b z e;unfold PA.nine at z;simp only[E3,Km,or_false]at z;obtain⟨dx,h1⟩:=G.ob;obtain⟨_,J⟩:=G.fr.ob;obtain⟨_,L⟩:=G.sl.ob;obtain⟨_,I,_⟩:=G.fr.hc;obtain⟨_,O,_⟩:=G.sl.hc;obtain⟨l,N,_⟩:=G.pd;rcases z with z|z|z|z|z|z|z|z|z<;>rw[z]at e
 .rw[h1]at e;cases e
 .rw[J]at e;cases e
 .rw[G.fr.hw]at e;cases e
 .rw[I]at e;cases e
 .rw[L]at e;cases e
 .rw[G.sl.hw]at e;cases e
 .rw[O]at e;cases e
 .rw[N]at e;cases e
 .rw[G.il]at e;cases e
section
variable {P:ti}{w:Kl}{K:Kq}{mg:Str->Option Value}{base:Heap}
theorem Jb:aD ["self","frames","slots"] ["self","frames","slots"] (aw ue):=L2.bD
theorem zA {f C CS bE:Addr}{fd bx:rn}(F:cD K "__init__" "Paging.__init__" ue f fd) (T:nN K mg C) (MS:Mk K CS bE) (bl:mg "Store" = some (.ref CS))
  (bi:aZ P w K mg base aS 1 bE bx ["self","many"] (gU CS)) (bm:Binds K bx ["self","many"] []):aZ P w K mg base aS 3 f fd ["self","frames","slots"] (qF C CS):=by
 refine F.dg Jb (λcm A outer s H vs Q E hr h=>?_);obtain⟨p,dx,nf,ns,rfl,n1,n2,hp,k⟩:=h;refine⟨_,(ag (fb (pv 0) (lI MS bi (hr.mono av) (by rfl) bl bm .nil az (aa (pv 1) aj)) rfl)
  (ag (fb (pv 0) (lI MS bi (hr.mono av) (by rfl) bl bm .nil az (aa (pv 2) aj)) rfl)
  (ag (fb (pv 0) cY rfl)
  (ag (fb (pv 0) ak rfl)
  (ao (fb (pv 0) (bN aj) rfl)))))),?_⟩
 refine⟨_,rfl,λfp b6 aT bd b0=>⟨fp,b6,nf,rfl,n1,ae,λO U H1 Y ab b7 S1 o1=>⟨rfl,?_⟩⟩⟩;have m1:bg H H1:=λb u e=>o1 b u (by rw[ah (au e aT),ah (au e bd)];exact e) (au e aT);obtain⟨q1,Y⟩:=cy Y;obtain⟨q2,ab⟩:=cy ab;have Y:=(cy Y).2;have ab:=(cy ab).2;have ch:=m1 _ _ hp;have ap:fp≠p:=qw (au hp aT);have ai:O≠p:=qw (au hp Y);have am:U≠p:=qw (au hp ab);clear o1 bd b0;refine⟨_,rfl,p,C,dx,[],rfl,ch,T.cl,T.nF,av,?_⟩;have o2:Off (· = p) H1 (upd H1 p (.ins C dx (bj "frames" (.ref fp) []))):=Off.wr rfl;have bI:upd H1 p (.ins C dx (bj "frames" (.ref fp) [])) p=some (.ins C dx (bj "frames" (.ref fp) [])):=ae;generalize upd H1 p (.ins C dx (bj "frames" (.ref fp) []))=H2 at *;have S2:=hX S1 o2 ap ai am;have O2:Off (· = p) H H2:=λb o e z=>o2 b o (m1 b o e) z;refine⟨_,rfl,λsp cc a6 bz bY=>⟨sp,cc,ns,rfl,n2,ae,λso sc H3 aB ac b8 S3 o3=>⟨rfl,?_⟩⟩⟩;have m3:bg H2 H3:=λb u e=>o3 b u (by rw[ah (au e a6),ah (au e bz)];exact e) (au e a6);obtain⟨q3,aB⟩:=cy aB;obtain⟨q4,ac⟩:=cy ac;have aB:=(cy aB).2;have ac:=(cy ac).2;clear o3 bz bY;have as:∀b,b=p\/b=fp\/b=O\/b=U->H2 b≠none:=gY bI S2;have ce:=hX (B:=λ_=>False) S2 (λb o e _=>m3 b o e) id id id;have ca:=m3 _ _ bI;refine⟨_,rfl,p,C,dx,_,rfl,ca,T.cl,T.nS,by show 1<1000;decide,?_⟩;have a0:∀{b},H2 b=none->b≠p/\b≠fp/\b≠O/\b≠U/\H b=none:=λ{b} h=>⟨λz=>as b (.inl z) h,λz=>as b (.inr (.inl z)) h,λz=>as b (.inr (.inr (.inl z))) h,λz=>as b (.inr (.inr (.inr z))) h,by
  cases e:H b with
  |none=>rfl
  |some u=>rw[O2 b u e λz=>as b (.inl z) h]at h;cases h⟩
 obtain⟨a1,a2,a3,a4,a5⟩:=a0 a6;obtain⟨b1,b2,b3,b4,b5⟩:=a0 aB;obtain⟨c1,c2,c3,c4,c5⟩:=a0 ac;have o4:Off (· = p) H3 (upd H3 p (.ins C dx (bj "slots" (.ref sp) (bj "frames" (.ref fp) [])))):=Off.wr rfl;have ba:upd H3 p (.ins C dx (bj "slots" (.ref sp) (bj "frames" (.ref fp) []))) p=some (.ins C dx (bj "slots" (.ref sp) (bj "frames" (.ref fp) []))):=ae;generalize upd H3 p (.ins C dx (bj "slots" (.ref sp) (bj "frames" (.ref fp) [])))=R at *;have be:=hX ce o4 ap ai am;have bn:=hX S3 o4 a1 b1 c1;have O4:Off (· = p) H R:=λb o e z=>o4 b o (m3 b o (O2 b o e z)) z;have ci:∀{b},R b=none->b≠p/\b≠fp/\b≠O/\b≠U/\b≠sp/\b≠so/\b≠sc/\H b=none:=λ{b} h=>by
  have N:=gY ba be;have S:=gY ba bn;refine⟨λz=>N b (.inl z) h,λz=>N b (.inr (.inl z)) h,λz=>N b (.inr (.inr (.inl z))) h,λz=>N b (.inr (.inr (.inr z))) h,λz=>S b (.inr (.inl z)) h,λz=>S b (.inr (.inr (.inl z))) h,λz=>S b (.inr (.inr (.inr z))) h,?_⟩;cases e:H b with
  |none=>rfl
  |some u=>rw[O4 b u e λz=>N b (.inl z) h]at h;cases h
 intro I bA;obtain⟨d1,d2,d3,d4,d5,d6,d7,d8⟩:=ci bA;refine⟨_,rfl,p,C,dx,_,rfl,by rw[ah (qw d1)];exact ba,T.cl,T.nP,by show 2<1000;decide,?_⟩;refine⟨_,rfl,p,C,dx,_,rfl,ae,T.cl,T.nL,by show 3<1000;decide,?_⟩;have o7:Off (· = p) R (upd (upd (upd R I (.dK [])) p (.ins C dx (bj "places" (.ref I) (bj "slots" (.ref sp) (bj "frames" (.ref fp) []))))) p (.ins C dx (bj "last_sheet" (.int 0) (bj "places" (.ref I) (bj "slots" (.ref sp) (bj "frames" (.ref fp) [])))))):=λb o e z=>by
  rw[ah z,ah z,ah (au e bA)];exact e
 have a7:upd (upd (upd R I (.dK [])) p (.ins C dx (bj "places" (.ref I) (bj "slots" (.ref sp) (bj "frames" (.ref fp) []))))) p (.ins C dx (bj "last_sheet" (.int 0) (bj "places" (.ref I) (bj "slots" (.ref sp) (bj "frames" (.ref fp) []))))) p=some (.ins C dx (bj "last_sheet" (.int 0) (bj "places" (.ref I) (bj "slots" (.ref sp) (bj "frames" (.ref fp) []))))):=ae;have bv:upd (upd (upd R I (.dK [])) p (.ins C dx (bj "places" (.ref I) (bj "slots" (.ref sp) (bj "frames" (.ref fp) []))))) p (.ins C dx (bj "last_sheet" (.int 0) (bj "places" (.ref I) (bj "slots" (.ref sp) (bj "frames" (.ref fp) []))))) I=some (.dK []):=(by rw[ah d1,ah d1,ae]);generalize upd (upd (upd R I (.dK [])) p (.ins C dx (bj "places" (.ref I) (bj "slots" (.ref sp) (bj "frames" (.ref fp) []))))) p (.ins C dx (bj "last_sheet" (.int 0) (bj "places" (.ref I) (bj "slots" (.ref sp) (bj "frames" (.ref fp) [])))))=H7 at *;have bb:=hX be o7 ap ai am;have bc:=hX bn o7 a1 b1 c1;have O7:Off (· = p) H H7:=λb o e z=>o7 b o (O4 b o e z) z;refine⟨av,λG L=>?_⟩;have N:=gY a7 bb;have S:=gY a7 bc;have i1:G≠p:=λz=>N G (.inl z) L;have i2:G≠fp:=λz=>N G (.inr (.inl z)) L;have i3:G≠O:=λz=>N G (.inr (.inr (.inl z))) L;have i4:G≠U:=λz=>N G (.inr (.inr (.inr z))) L;have i5:G≠sp:=λz=>S G (.inr (.inl z)) L;have i6:G≠so:=λz=>S G (.inr (.inr (.inl z))) L;have i7:G≠sc:=λz=>S G (.inr (.inr (.inr z))) L;have i8:G≠I:=λz=>(by rw[z,bv]at L;cases L);have i9:H G=none:=by
  cases e:H G with
  |none=>rfl
  |some u=>rw[O7 G u e i1]at L;cases L
 refine⟨_,rfl,p,C,dx,_,rfl,by rw[ah (qw i1)];exact a7,T.cl,T.nI,by show 4<1000;decide,?_⟩;have o9:Off (· = p) H7 (upd (upd H7 G (.lst [])) p (.ins C dx (cH ⟨p,fp,O,U,sp,so,sc,I,G⟩ 0))):=λb o e z=>by
  rw[ah z,ah (au e L)];exact e
 refine k _ ⟨p,fp,O,U,sp,so,sc,I,G⟩ rfl ?_ ?_ (λM=>⟨⟨dx,ae⟩,hX bb o9 ap ai am M,hX bc o9 a1 b1 c1 M,?_,?_,[],?_,Ms,(λx hx=>by cases hx),λ_=>rfl,KI _⟩) (λb o e z=>o9 b o (O7 b o e z) z)
 .unfold PA.nine;simp only[Ky,E3,Km,or_false,not_or,not_false_eq_true,Ms,and_true];exact⟨⟨λh=>ap h.symm,λh=>ai h.symm,λh=>am h.symm,λh=>a1 h.symm,λh=>b1 h.symm,λh=>c1 h.symm,λh=>d1 h.symm,λh=>i1 h.symm⟩,⟨λh=>q1 h.symm,λh=>q2 h.symm,λh=>a2 h.symm,λh=>b2 h.symm,λh=>c2 h.symm,λh=>d2 h.symm,λh=>i2 h.symm⟩,⟨λh=>(qw b7) h.symm,λh=>a3 h.symm,λh=>b3 h.symm,λh=>c3 h.symm,λh=>d3 h.symm,λh=>i3 h.symm⟩,⟨λh=>a4 h.symm,λh=>b4 h.symm,λh=>c4 h.symm,λh=>d4 h.symm,λh=>i4 h.symm⟩,⟨λh=>q3 h.symm,λh=>q4 h.symm,λh=>d5 h.symm,λh=>i5 h.symm⟩,⟨λh=>(qw b8) h.symm,λh=>d6 h.symm,λh=>i6 h.symm⟩,⟨λh=>d7 h.symm,λh=>i7 h.symm⟩,λh=>i8 h.symm⟩
 .intro b J;unfold PA.nine at J;simp only[E3,Km,or_false]at J;rcases J with J|J|J|J|J|J|J|J|J<;>rw[J]
  .exact .inl rfl
  .exact .inr aT
  .exact .inr Y
  .exact .inr ab
  .exact .inr a5
  .exact .inr b5
  .exact .inr c5
  .exact .inr d8
  .exact .inr i9
 .show upd (upd H7 G (.lst [])) p _ G=_;rw[ah i1,ae];rfl
 .intro b;show(replicate _ _).length<=60;rw[Kn];cases b
  .exact n2
  .exact n1
 .show upd (upd H7 G (.lst [])) p _ I=_;rw[ah d1,ah (qw i8)];exact bv
theorem IZ:aD ["self","frames","slots"] ["self","frames","slots"] (aw vT):=L2.bD
theorem Bc {f ai:Addr}{fd aB:rn}{c:CA}(F:cD K "__init__" "Rooms.__init__" vT f fd) (T:oV K mg c) (MP:Mk K c.P ai) (a6:mg "Paging" = some (.ref c.P))
  (a0:aZ P w K mg base aS 3 ai aB ["self","frames","slots"] (qF c.P c.S)) (a2:Binds K aB ["self","frames","slots"] []):aZ P w K mg base aS 5 f fd ["self","frames","slots"] (pS c):=by
 refine F.dg IZ (λbc A outer s H vs Q E hr h=>?_);obtain⟨p,dx,nf,ns,rfl,n1,n2,n3,hp,k⟩:=h;refine⟨_,(ag (fb (pv 0) (lI MP a0 (hr.mono av) (by rfl) a6 a2 .nil az (aa (pv 1) (aa (pv 2) aj))) rfl)
  (ag (fb (pv 0) (ay aV (pv 1) (pv 2)) rfl)
  (ao (fb (pv 0) cY rfl)))),?_⟩
 refine⟨_,rfl,_,rfl,λpg bb ac a4 bd=>⟨pg,bb,nf,ns,rfl,n1,n2,ae,λH1 G eA ba am GA o1=>⟨rfl,?_⟩⟩⟩;have Y:bg H H1:=λb u e=>o1 b u (by rw[ah (au e ac),ah (au e a4)];exact e) (au e ac);have fr:∀b∈G.nine,H b=none:=λb N=>by
  rcases am b N with h|h
  .rw[h];exact ac
  .exact(cy (cy h).2).2
 have aT:=Y _ _ hp;clear o1 am;refine⟨_,rfl,p,c.C,dx,[],rfl,aT,T.cl,T.nP,av,?_⟩;refine⟨_,rfl,_,rfl,_,_,rfl,rfl,?_⟩;refine⟨_,rfl,p,c.C,dx,_,rfl,ae,T.cl,T.nT,by show 1<1000;decide,?_⟩;rw[<-eA];have R:Off (· = p) H1 (upd (upd H1 p (.ins c.C dx (bj "paging" (.ref G.pg) []))) p (.ins c.C dx (bj "total" (.int ((nf:Int)+ns)) (bj "paging" (.ref G.pg) [])))):=λb o e z=>(by rw[ah z,ah z];exact e);have as:upd (upd H1 p (.ins c.C dx (bj "paging" (.ref G.pg) []))) p (.ins c.C dx (bj "total" (.int ((nf:Int)+ns)) (bj "paging" (.ref G.pg) []))) p=some (.ins c.C dx (bj "total" (.int ((nf:Int)+ns)) (bj "paging" (.ref G.pg) []))):=ae;generalize upd (upd H1 p (.ins c.C dx (bj "paging" (.ref G.pg) []))) p (.ins c.C dx (bj "total" (.int ((nf:Int)+ns)) (bj "paging" (.ref G.pg) [])))=L at *;intro rd J;have O:rd≠p:=qw (au as J);refine⟨_,rfl,p,c.C,dx,_,rfl,by rw[ah (qw O)];exact as,T.cl,T.nR,by show 2<1000;decide,?_⟩;have o5:Off (· = p) H1 (upd (upd L rd (.dK [])) p (.ins c.C dx (dZ G.pg ((nf:Int)+ns) rd))):=λb o e z=>(by rw[ah z,ah (au (R b o e z) J)];exact R b o e z);have U:∀b∈G.nine,b≠p:=λb N z=>(by rw[z]at N;have:=fr p N;rw[hp]at this;cases this);have ab:∀b,G.own b->b∈G.nine:=λb h=>by
  unfold PA.own at h;unfold PA.nine;simp only[E3,Km,or_false]at h ⊢;rcases h with h|h|h|h|h|h|h<;>simp[h]
 have n9:∀i {b},G.nine[i]?=some b->b≠p:=λi b h=>U b (DD h);have G5:∀M,bH c.P c.S (upd (upd L rd (.dK [])) p (.ins c.C dx (dZ G.pg ((nf:Int)+ns) rd))) M G (s0 nf ns):=λM=>(GA λb=>M b\/b=p).move o5 (λb z=>.inr z) (λb z=>.inl (.inl z)) (λb z=>U b (ab b z)) (n9 1 rfl) (n9 4 rfl) (λb xs e z=>by rw[z,aT]at e;cases e);have a5:upd (upd L rd (.dK [])) p (.ins c.C dx (dZ G.pg ((nf:Int)+ns) rd)) p=some (.ins c.C dx (dZ G.pg ((nf:Int)+ns) rd)):=ae;have ap:upd (upd L rd (.dK [])) p (.ins c.C dx (dZ G.pg ((nf:Int)+ns) rd)) rd=some (.dK []):=(by rw[ah O,ae]);have Bx:¬ rd∈G.nine:=λz=>by
  have a3:=mI (GA λ_=>False) rd z;cases e:H1 rd with
  |none=>exact a3 e
  |some u=>rw[R _ _ e O]at J;cases J
 have a7:H rd=none:=by
  cases e:H rd with
  |none=>rfl
  |some u=>rw[R _ _ (Y _ _ e) O]at J;cases J
 have a1:Off (· = p) H (upd (upd L rd (.dK [])) p (.ins c.C dx (dZ G.pg ((nf:Int)+ns) rd))):=λb o e z=>o5 b o (Y b o e) z;refine k _ (λb=>b∈G.nine\/b=rd) ⟨G,p,rd⟩ rfl ⟨⟨dx,?_⟩,G5 _,⟨ba,λx I=>.inl I⟩,λb z=>?_,ap,Ms,(λx I=>by cases I),(λx I=>by cases I),(λx I=>by cases I),(λx I=>by cases I),.inr rfl,λz=>Bx (ab _ z),λz=>U _ (ab _ z) rfl⟩ (λb z=>z.elim (fr b) λz=>by rw[z];exact a7) a1
 .have e:bC (s0 nf ns)=(nf:Int)+ns:=by
   unfold bC;rw[show((s0 nf ns).ow true).length=nf from Kn,show((s0 nf ns).ow false).length=ns from Kn];omega
  rw[e];exact a5
 .rcases z with z|z
  .exact mI (G5 λ_=>False) b z
  .intro w;rw[z]at w;exact absurd (ap.symm.trans w) (by simp)
end
end St
namespace HT
open PySem PySem.Spec PyProof.Rows
section
variable {prog:ti}{w:Kl}{A:KA}{E:Value->mu->Prop}{s:mu}
theorem jA {t sl:Addr}{items:Array Value}{J L:Value}{lo hi:Option Int}{Q:Value->mu->Prop}(G:IsTup s.heap t items) (hs:s.heap.IsSliceOf sl J L .none) (pl:PM J lo) (O:PM L hi)
  (I:cR items.size 0 lo=0/\cR items.size items.size hi=items.size) (h:Q (.ref t) s):wpAny (model prog w) A (NY (.ref t) (.ref sl)) Q E s:=by
 obtain⟨os,S,R,Y⟩:=id hs;have U:s.TypeIs (.ref sl) "slice" := ⟨os,S,R⟩;unfold NY
 try with_reducible refine LS ?_
 first|refine oR (By ?_)|skip
 refine oR (Q0 G.typeIs av ?_);refine oR (Pl (name:=Str.ofString "__getitem__") G.typeIs K6
  (Nc K6 G.typeIs Qt ?_ (QF _ _)))
 show wpAny _ _ (Builtin.Tuple.tupleItemsOf (.ref t)>>=_) _ _ s;refine oR (tupleItemsOf_ G ?_);refine oR (PN U ?_);rw[Th av];refine oR (fW hs pl O ?_);have N:(((cR items.size 0 lo:Nat):Int)==0&&(1:Int)==1&&(cR items.size items.size hi-cR items.size 0 lo)==items.size)=true:=by
  rw[I.1,I.2];simp
 show wpAny _ _ (if (((cR items.size 0 lo:Nat):Int)==0&&(1:Int)==1&&(cR items.size items.size hi-cR items.size 0 lo)==items.size)=true then _ else _) _ _ s;rw[Th N];unfold Builtin.Tuple.tupleIsExact;refine oR (oR (PN G.typeIs (By ?_)));rw[Th av];refine oR (MX ?_);exact By ⟨_,rfl,By h⟩
end
end HT
namespace L2
open PySem PySem.Spec PyProof.Rows
inductive C1 (K:Kq) (x:V) (lo:Option Int) (hi:Option Int) (H:Hp) (Q:VK):Prop
 |mk (a:_) (xs:_) (_:x=.ref a) (_:bZ K H a xs) (_:((HT.cR xs.length 0 lo=0/\HT.cR xs.length xs.length hi=xs.length)->Q (.ref a) H)) (_:(¬ (HT.cR xs.length 0 lo=0/\HT.cR xs.length xs.length hi=xs.length)->∀p,H p=none->Q (.ref p) (upd H p (.tup (fg xs lo hi))))):C1 K x lo hi H Q
theorem lH {X:Cx}:FN X (C1 X.K):=by
 intro pins s σ H x v U R lo hi sl Q I L hs pl J h;obtain⟨a,xs,rfl,N,O,S⟩:=h;by_cases c:HT.cR xs.length 0 lo=0/\HT.cR xs.length xs.length hi=xs.length
 .cases L;obtain⟨its,r,G,hz⟩:=I.tuple N;have Y:its.toArray.size=xs.length:=(by rw[qj];exact r.length.symm);refine⟨"tuple",_,K6.lookup,G.typeIs,?_⟩;exact HT.jA G hs pl J (by rw[Y];exact c) ⟨.ref a,H,I,rfl,O c⟩
 .exact E9 pins s σ H (.ref a) v U R lo hi sl Q I L hs pl J ⟨a,xs,rfl,N,c,S c⟩
theorem ya {a:Addr}{o:Obj}{kvs:List (Key×V)}{g:TG}{tb:TS}{D:Ends}{σ:St}{H:Hp}(Pv:Nat->St->Hp->Prop) (Y:Pv 0 σ H) (S:∀i σ H,i<=kvs.length->Pv i σ H->H a=some (.frz o (.dK kvs)))
  (hs:∀i k v σ H T,kvs[i]?=some (k,v)->H T=none->Pv i σ H->g (.ref T) σ (upd H T (.tup [kV k,v])) λJ H2=>tb { D with nx:=Pv (i+1),ct:=Pv (i+1),bk:=D.nx } J H2) (hd:∀σ H,Pv kvs.length σ H->D.nx σ H) :
  ∃W:Nat->Nat->St->Hp->Prop,(∃m,W 0 m σ H)/\∀i m σ H,W i m σ H ->
   ((Fu a o kvs).stop i H/\D.nx σ H)\/((Fu a o kvs).go i H/\∃N:St->Hp->Prop,(∀I H',N I H'->∃L,L<m/\W (i+1) L I H')/\∀x H',(Fu a o kvs).Cg i H x H'->g x σ H' λJ H2=>tb { D with nx:=N,ct:=N,bk:=D.nx } J H2):=by
 refine⟨λi m σ H=>m=kvs.length-i/\i<=kvs.length/\Pv i σ H,⟨kvs.length,by simp,KI _,Y⟩,?_⟩;rintro i m σ H ⟨rfl,hi,p⟩;have q:=S i σ H hi p;by_cases G:i<kvs.length
 .refine .inr ⟨⟨q,G⟩,Pv (i+1),λI H' O=>⟨kvs.length-(i+1),Lf (LI kvs) i G,rfl,G,O⟩,?_⟩;rintro v H' ⟨T,k,x,rfl,R,U,rfl⟩;exact hs i k x σ H T U R p
 .have e:i=kvs.length:=af;subst e;exact .inl ⟨⟨q,sS _⟩,hd σ H p⟩
theorem vf {a:Addr}{o:Obj}{kvs:List (Key×V)}{caps:List (Str×Nat)}{te:TE}{σ:St}{H:Hp}{J:List V->Hp->Prop}(Pv:Nat->List V->Hp->Prop) (L:Pv 0 [] H)
  (R:∀i zs H,i<=kvs.length->Pv i zs H->H a=some (.frz o (.dK kvs)))
  (hs:∀i k v zs H,kvs[i]?=some (k,v)->Pv i zs H->te (fL caps σ (some v)) H (λz O=>zs.length<sizeLine/\Pv (i+1) (zs++[z]) O))
  (hd:∀zs H,Pv kvs.length zs H->J zs H):∃W:Nat->Nat->List V->Hp->Prop,(∃m,W 0 m [] H)/\ic caps nX te σ (HV a o kvs) J W:=by
 refine⟨λi m zs H=>m=kvs.length-i/\i<=kvs.length/\Pv i zs H,⟨kvs.length,by simp,KI _,L⟩,?_⟩;rintro i m zs H ⟨rfl,hi,p⟩;have I:=R i zs H hi p;by_cases G:i<kvs.length
 .refine .inr ⟨⟨I,G⟩,Pv (i+1),λU H' N=>⟨kvs.length-(i+1),Lf (LI kvs) i G,rfl,G,N⟩,?_⟩;rintro v H' ⟨rfl,k,S⟩;unfold nX;dsimp only;rw[Th rfl];exact hs i k v zs H' S p
 .have e:i=kvs.length:=af;subst e;exact .inl ⟨⟨I,sS _⟩,hd zs H p⟩
section
variable {X:Cx}
theorem vo:dt X (.type "dict") (λxs H Q=>∃(d:Addr) (kvs:List (Key×V)),xs=[.ref d]/\H d=some (.dK kvs)/\∀a,H a=none->Q (.ref a) (upd H a (.dK kvs))):=by
 intro pins s σ H xs us Q I r h;obtain⟨d,kvs,rfl,hd,q⟩:=h;obtain⟨u,rfl,S⟩:=vals1 r;obtain rfl:u=Value.ref d:=S;obtain⟨O,N,vs,G,R⟩:=fU I.bE hd;have U:=G.length;refine kt_call_dict (knd:=br X.prog X.w) N R af λh' L J=>?_;refine⟨.ref s.heap.objs.size,_,I.laid (t':=s.toks) (h':=h') (λb o e=>?_) (sS _) (mf O ?_ G L),rfl,q _ I.fresh⟩
 .exact(J.2 b (KN (Heap.lt_size e))).trans (Heap.get?_push_of_some _ e)
 .exact beq_false_of_ne (Pf I.big)
theorem range_any (bs:List Bool):((Kx bs.length).any λi=>(bs[i]?).getD true)=bs.any id:=by
 rw[MF,Pu,Pu];constructor
 .rintro⟨i,hi,e⟩;have G:=KZ.mp hi;rw[IF G,Rh]at e;exact⟨_,LK G,e⟩
 .rintro⟨b,I,e⟩;obtain⟨i,hi,J⟩:=Mc I;refine⟨i,KZ.mpr hi,?_⟩;rw[IF hi,Rh,J];exact e
theorem D9:KS "any" = some (.builtin "any"):=aq
theorem xY (hc:X.calm=true):dt X (.builtin "any") (λxs H Q=>∃(l:Addr) (bs:List Bool),xs=[.ref l]/\bq X.K H l (bs.map V.bl)/\Q (.bl (bs.any id)) H):=by
 intro pins s σ H xs us Q I r h;obtain⟨l,bs,rfl,Y,q⟩:=h;obtain⟨u,rfl,ru⟩:=vals1 r;obtain rfl:u=Value.ref l:=ru;obtain⟨its,rv,p,_⟩:=I.list Y;have S:=qW rv;subst S;have L:=p.isList;have ab:l<s.heap.objs.size:=let ⟨_,e,_⟩:=L;Heap.lt_size e;refine call_any_walk (OP L ?_);refine⟨s.heap.objs.size,[s.heap.objs.size,l],[s.heap.objs.size],(bs.map Value.bool).toArray.size,_,_,λi=>(bs[i]?).getD true,rfl,Te (A:=X.A.in1) (I.ok.hd hc) _ l (KN ab) (bs.map Value.bool).toArray,
  ⟨⟨_,Heap.get?_push_size _ rfl,rfl,rfl⟩,L.push _⟩,λi v s' Q' E' hP N=>?_,λh' tk O=>?_⟩
 .have R:(bs.map Value.bool).toArray[i]?=some v:=hP;have G:(bs.map Value.bool)[i]?=some v:=(by simpa using R);rw[wh]at G;cases J:bs[i]? with
  |none=>rw[J]at G;cases G
  |some b =>
   rw[J]at G;have U:Value.bool b=v:=ro G;subst U;simp only[J,Rh]at N;exact LF N
 .have e:((Kx (bs.map Value.bool).toArray.size).any λi=>(bs[i]?).getD true)=bs.any id:=by
   rw[qj,nq];exact range_any bs
  rw[e];exact⟨.bl _,H,I.kept (So O),rfl,q⟩
def Gi:yz:=λo i v H Q=>∃a H',o=.ref a/\fX H a i v H'/\Q H'
theorem set_dict (J:X.A.units+1<Mt):B6 X Gi:=by
 intro pins s σ H o i v ov R u Q I G L N h;obtain⟨a,H',rfl,g,q⟩:=h;obtain rfl:ov=Value.ref a:=G;exact o8 J I g L N λs' O=>⟨H',O,q⟩
end
end L2
namespace Lw
open PySem L2 St
abbrev vP:KO:=top 35
abbrev qM:KO:=top 36
abbrev vA:KO:=top 37
abbrev nG:KO:=top 38
abbrev vE:KO:=top 39
abbrev vg:KO:=top 40
abbrev lT:KO:=top 41
abbrev Ez:KO:=top 42
abbrev AH:KO:=top 43
abbrev pJ:KO:=top 44
abbrev vU:KO:=top 46
abbrev AY:KO:=top 47
abbrev uP:KO:=top 48
structure ke (mg:Str->Option Value):Prop where
 range:mg "range" = none
 enumerate:mg "enumerate" = none
 sum:mg "sum" = none
 int:mg "int" = none
 BB:mg "isinstance" = none
 min:mg "min" = none
 max:mg "max" = none
 list:mg "list" = none
 len:mg "len" = none
 dict:mg "dict" = none
 bool:mg "bool" = none
 tuple:mg "tuple" = none
 sorted:mg "sorted" = none
 all:mg "all" = none
 any:mg "any" = none
inductive pY (vs:List V) (H:Hp) (Q:VK) (e3:XK):Prop
 |mk (c k:Int) (_:vs=[.int c,.int k]) (_:∀v:Int,0<=v/\v<10^40->Q (.int v) H):pY vs H Q e3
inductive mD (K:Kq) (vs:List V) (H:Hp) (Q:VK) (e3:XK):Prop
 |mk (a:Addr) (ns:List Int) (k:Nat) (_:vs=[.ref a,.int k]) (_:bq K H a (ns.map V.int)) (_:ns.length<=100) (_:k<=100) (_:∀(v:Int) (H':Hp),bg H H'->0<=v/\v<10^40->Q (.int v) H'):mD K vs H Q e3
inductive pK (vs:List V) (H:Hp) (Q:VK) (e3:XK):Prop
 |mk (i:Int) (_:vs=[.int i]) (_:Q (.bl true) H):pK vs H Q e3
inductive jZ (vs:List V) (H:Hp) (Q:VK) (e3:XK):Prop
 |mk (m:Int) (n:Nat) (_:vs=[.int m,.int n]) (_:n<=100) (_:∀(cs:List Int) (H':Hp) (l:Addr),cs.length=n->bg H H'->H l=none->H' l=some (.lst (cs.map V.int))->Q (.ref l) H'):jZ vs H Q e3
def tH (m:Int):List Int:=[2,3,4,2+m/4%9]
def tM (m:Int):List Int:=[m/40%5,m/40%30,60]
def kW (m:Int):Nat:=((tH m).getD (m%4).toNat 0).toNat
def nQ (m:Int):Nat:=((tM m).getD (m/7%3).toNat 0).toNat
theorem at_of {xs:List Int}{i n:Int}(I:0<=i) (h1:i<n) (J:n=xs.length):BD (xs.map V.int) i=some (.int (xs.getD i.toNat 0))/\xs.getD i.toNat 0∈xs:=by
 obtain⟨j,rfl⟩:∃j:Nat,i=j:=⟨i.toNat,af⟩;have G:j<xs.length:=af;have e:xs.getD (Na (j:Int)) 0=xs[j]:=(by simp[G]);rw[e];exact⟨jv (by rw[wh,IF G];rfl),LK G⟩
theorem vZ (m:Int):BD ((tH m).map V.int) (m%4)=some (.int (kW m))/\2<=kW m/\kW m<=40:=by
 obtain⟨h1,h2⟩:=at_of (xs:=tH m) (i:=m%4) (n:=4) af af rfl;have G:2<=(tH m).getD (m%4).toNat 0/\(tH m).getD (m%4).toNat 0<=40:=by
  unfold tH at h2 ⊢;simp only[E3,Km,or_false]at h2;rcases h2 with h|h|h|h<;>rw[h]<;>omega
 have e:((kW m:Nat):Int)=(tH m).getD (m%4).toNat 0:=(by unfold kW;omega);rw[e];exact⟨h1,by unfold kW;omega,by unfold kW;omega⟩
theorem wm (m:Int):BD ((tM m).map V.int) (m/7%3)=some (.int (nQ m))/\nQ m<=60:=by
 obtain⟨h1,h2⟩:=at_of (xs:=tM m) (i:=m/7%3) (n:=3) af af rfl;have G:0<=(tM m).getD (m/7%3).toNat 0/\(tM m).getD (m/7%3).toNat 0<=60:=by
  unfold tM at h2 ⊢;simp only[E3,Km,or_false]at h2;rcases h2 with h|h|h<;>rw[h]<;>omega
 have e:((nQ m:Nat):Int)=(tM m).getD (m/7%3).toNat 0:=(by unfold nQ;omega);rw[e];exact⟨h1,by unfold nQ;omega⟩
inductive lG (vs:List V) (H:Hp) (Q:VK) (e3:XK):Prop
 |mk (m:Int) (_:vs=[.int m]) (_:∀(H':Hp) (t:Addr),bg H H'->H t=none->H' t=some (.tup [.int (kW m),.int (nQ m)])->Q (.ref t) H'):lG vs H Q e3
theorem Jj (x y:Int):ye (x%2305843009213693951) y:=by
 have:=Ld x (show(2305843009213693951:Int)≠0 by decide);have:=KQ x (show(0:Int)<2305843009213693951 by decide);exact .inl ⟨af,af⟩
theorem Hc (x y:Int):ye (x%2305843009213693907) y:=by
 have:=Ld x (show(2305843009213693907:Int)≠0 by decide);have:=KQ x (show(0:Int)<2305843009213693907 by decide);exact .inl ⟨af,af⟩
section
variable {P:ti}{w:Kl}{K:Kq}{mg:Str->Option Value}{base:Heap}
theorem Gj (x y:Int):0<=x%2305843009213693951*1000000000000000000+y%2305843009213693921/\x%2305843009213693951*1000000000000000000+y%2305843009213693921<10^40:=by
 have G:=Ld x (show(2305843009213693951:Int)≠0 by decide);have J:=KQ x (show(0:Int)<2305843009213693951 by decide);have L:=Ld y (show(2305843009213693921:Int)≠0 by decide);have I:=KQ y (show(0:Int)<2305843009213693921 by decide);generalize x%2305843009213693951=u at *;generalize y%2305843009213693921=v at *;rw[show(10:Int)^40=10000000000000000000000000000000000000000 by decide];constructor<;>omega
theorem HS:aD ["_law_cell","_law_k","_law_once","_law_twice"] ["_law_cell","_law_k"] (aw vP):=L2.bD
theorem zT {f:Addr}{fd:rn}(F:cD K "_law_mixed" "_law_mixed" vP f fd):aZ P w K mg base aS 1 f fd ["_law_cell","_law_k"] pY:=by
 refine F.dg HS (λG A outer s H vs Q E I h=>?_);obtain⟨c,j,rfl,k⟩:=h;refine⟨_,(ag (dA 2 HS.nd (ay bu (ay dR (ay aV (ay aV (ay bu (pv 0) ak) (ay dR ak (pv 1))) ak) ak) ak))
  (ag (dA 2 HS.nd (ay bu (ay dR (pv 2) (pv 2)) ak))
  (ag (dA 3 HS.nd (ay bu (ay dR (ay aV (ay aV (pv 2) (ay dR ak (pv 1))) ak) ak) ak))
  (ao (aG (ay aV (ay dR (ay bu (ay dR (pv 3) (pv 3)) ak) ak) (pv 2))))))),?_⟩
 refine⟨_,rfl,_,_,rfl,rfl,(by show(0:Int)<2305843009213693951;decide),_,rfl,_,_,rfl,rfl,.inl ⟨av,av⟩,_,_,rfl,rfl,_,_,rfl,rfl,_,_,rfl,rfl,.inr ⟨av,av⟩,_,_,rfl,rfl,(by show(0:Int)<2305843009213693951;decide),?_⟩;refine⟨_,rfl,_,rfl,_,_,rfl,rfl,Jj _ _,_,_,rfl,rfl,(by show(0:Int)<2305843009213693921;decide),?_⟩;refine⟨_,rfl,_,rfl,_,_,rfl,rfl,.inl ⟨av,av⟩,_,_,rfl,rfl,_,_,rfl,rfl,_,_,rfl,rfl,.inr ⟨av,av⟩,_,_,rfl,rfl,(by show(0:Int)<2305843009213693907;decide),?_⟩;exact⟨_,rfl,_,rfl,_,_,rfl,rfl,Hc _ _,_,_,rfl,rfl,(by show(0:Int)<2305843009213693951;decide),_,_,rfl,rfl,.inr ⟨av,av⟩,_,rfl,_,_,rfl,rfl,k _ (Gj _ _)⟩
theorem Fw:aD ["_law_script","_law_k","_law_cell"] ["_law_script","_law_k"] (aw qM):=L2.bD
theorem yl {f:Addr}{fd:rn}(F:cD K "_law_number" "_law_number" qM f fd) (T:ke mg) (GM:Df P w K mg base aS 1 "_law_mixed" pY):aZ P w K mg base aS 2 f fd ["_law_script","_law_k"] (mD K):=by
 refine F.dg Fw (λap A outer s H vs Q E Y h=>?_);obtain⟨a,ns,j,rfl,O,hn,hj,k⟩:=h;have hs:=BY;refine⟨_,(ag (dA 2 Fw.nd (a9 cz (ay pL (cZ gk (pv 0) (cW (pv 1)) (cW (ay aV (pv 1) ak))) (bN (aa (ay aV (ay dR (pv 1) (pv 1)) ak) aj))) ak cq))
  (ag (aU (aE bR (ay bu (aP (ie rfl) (by rfl) T.sum m4 (aa (cZ gk (pv 0) fB (cW ak)) aj)) ak) ak (aI _)) (ao (aG (ay bu (pv 2) (ay gQ ak ak)))) aH)
  (ao (aG (pc GM Y az (aa (pv 2) (aa (pv 1) aj))))))),?_⟩
 refine gn λ_ jt=>?_;have ec:fg (ns.map V.int) (some (j:Int)) (some ((j:Int)+1))=((ns.drop j).take 1).map V.int:=Rm.qD (n:=1);refine⟨_,rfl,_,rfl,_,rfl,_,rfl,_,_,rfl,rfl,_,rfl,a,_,rfl,O,λp hp=>?_⟩;show GW _ _ (upd H p (.lst (fg (ns.map V.int) (some (j:Int)) (some ((j:Int)+1))))) _;rw[ec];have S:=Tb.ar (X:=.lst (((ns.drop j).take 1).map V.int)) hp;have h1:upd H p (.lst (((ns.drop j).take 1).map V.int)) p=some (.lst (((ns.drop j).take 1).map V.int)):=ae;generalize upd H p (.lst (((ns.drop j).take 1).map V.int))=H1 at *;refine⟨_,rfl,_,rfl,_,_,rfl,rfl,.inl ⟨af,af⟩,_,_,rfl,rfl,ur,λp2 ai=>?_⟩;have J:=Tb.ar (X:=.lst [V.int ((j:Int)*j+3)]) ai;refine⟨p,p2,_,_,rfl,rfl,J _ _ h1,ae,?_,λI ac=>?_⟩
 .rw[nq,Kv];show min 1 _+1<=sizeLine;omega
 have s3:=Tb.ar (X:=.lst (((ns.drop j).take 1).map V.int++[V.int ((j:Int)*j+3)])) ac;have U:((ns.drop j).take 1).map V.int++[V.int ((j:Int)*j+3)]=((ns.drop j).take 1++[(j:Int)*j+3]).map V.int:=(by rw[Kr];rfl);have G:=S.trans (J.trans s3);obtain⟨R,_⟩:=at_of (xs:=(ns.drop j).take 1++[(j:Int)*j+3]) (i:=0) (n:=((ns.drop j).take 1++[(j:Int)*j+3]).length) (Lo _) (by rw[E2,Lr];omega) rfl;rw[<-U]at R;refine⟨I,_,0,_,rfl,rfl,bq.of ae,R,jt _ _ ?_⟩;generalize ((ns.drop j).take 1++[(j:Int)*j+3]).getD (Na 0) 0=cl;have ab:=Rm.er O (G _);show iZ _ _ _ _ (upd (upd H1 p2 (.lst [V.int ((j:Int)*j+3)])) I (.lst (((ns.drop j).take 1).map V.int++[V.int ((j:Int)*j+3)])));generalize upd (upd H1 p2 (.lst [V.int ((j:Int)*j+3)])) I (.lst (((ns.drop j).take 1).map V.int++[V.int ((j:Int)*j+3)]))=H3 at *;have N:fg (ns.map V.int) none (some (1:Int))=(ns.take 1).map V.int:=Rm.wy (s:=1);refine⟨_,rfl,_,rfl,a,_,rfl,ab,λp4 am=>?_⟩;have L:=Tb.ar (X:=.lst ((ns.take 1).map V.int)) am;refine⟨p4,ns.take 1,rfl,bq.of (by rw[<-N];exact ae),_,_,rfl,rfl,F7,rfl,_,rfl,?_⟩;rw[show fg (ns.map V.int) none (some (1:Int))=(ns.take 1).map V.int from N];refine iV (λ_=>?_) (λ_=>?_)
 .exact⟨_,rfl,_,_,rfl,rfl,⟨av,av,av⟩,_,_,rfl,rfl,(by show(0:Int)<10^40;decide),k _ _ (G.trans L) ⟨Ld cl (show(10:Int)^40≠0 by decide),KQ cl (show(0:Int)<10^40 by decide)⟩⟩
 .exact⟨_,rfl,_,rfl,cl,j,rfl,λv hv=>k v _ (G.trans L) hv⟩
theorem Jd:aD ["_law_found"] ["_law_found"] (aw vA):=L2.bD
theorem AR {f:Addr}{fd:rn}(F:cD K "_law_whole" "_law_whole" vA f fd) (T:ke mg):aZ P w K mg base aS 1 f fd ["_law_found"] pK:=by
 refine F.dg Jd (λG A outer s H vs Q E I h=>?_);obtain⟨i,rfl,k⟩:=h;refine⟨_,(ao (aG (zd (aP dU (by rfl) T.BB bW (aa (pv 0) (aa (eM (v:=.ty "int") (by rfl) T.int iW rfl) aj))) (vK (DN (aP dU (by rfl) T.BB bW (aa (pv 0) (aa (eM (v:=.ty "bool") (by rfl) T.bool BN rfl) aj)))))))),?_⟩;exact⟨_,rfl,.int i,"int",_,true,rfl,.int i,Fc _,true,rfl,eI ⟨_,rfl,.int i,"bool",_,false,rfl,.int i,Fb _,false,rfl,k⟩⟩
theorem B5:aD ["_law_m","_law_many","_law_cells_here","_law_k"] ["_law_m","_law_many"] (aw nG):=L2.bD
theorem uH {f:Addr}{fd:rn}(F:cD K "_law_cells" "_law_cells" nG f fd) (T:ke mg):aZ P w K mg base aS 1 f fd ["_law_m","_law_many"] jZ:=by
 refine F.dg B5 (λY A outer s H vs Q E hr h=>?_);obtain⟨m,n,rfl,hn,k⟩:=h;have hs:=BY;refine⟨_,(ag (dA 2 B5.nd (bN aj))
  (ag (cL Kt rfl (yq (by rfl) T.range (aa (pv 1) aj)) (gG 3 B5.nd) (ag (aL (ig Lq Nt Nu j9 (pv 2) (aa (ay bu (ay aV (pv 0) (ay dR (ay dR ak (pv 3)) (ay bu (ay bB (pv 0) ak) ak))) ak) aj)))
  (ao (aU (aE bR (ay bu (pv 3) ak) ak (aI _)) (ao (dA 0 B5.nd (ay bB (pv 0) ak))) aH))))
  (ao (aG (pv 2))))),?_⟩
 refine⟨av,λl I=>?_⟩;have s0:=Tb.ar (X:=.lst []) I;refine⟨_,rfl,_,rfl,af,af,?_⟩;refine eY (lo:=0) (n:=(n:Int).toNat) (λi σ H2=>Gm λ(G:Int) (L:Option V) (cs:List Int)=>Fq (σ=[some (.int G),some (.int n),some (.ref l),L]) (cs.length=i) (H2 l=some (.lst (cs.map V.int))) (bg H H2)) ⟨m,_,[],rfl,rfl,ae,s0⟩ ?_ ?_
 .rintro i σ H2 hi ⟨G,L,cs,rfl,U,h2,J⟩;refine⟨_,rfl,.inl ⟨rfl,_,bq.of h2⟩,_,rfl,_,rfl,_,_,rfl,rfl,.inl ⟨av,av⟩,_,rfl,_,_,rfl,rfl,⟨av,av⟩,_,_,rfl,rfl,(by show(0:Int)<7;decide),_,_,rfl,rfl,.inr ⟨?_,?_⟩,_,_,rfl,rfl,_,_,rfl,rfl,(by show(0:Int)<256;decide),l,_,_,rfl,rfl,h2,by rw[nq];omega,?_⟩
  .have:=Ld (G/256) (show(7:Int)≠0 by decide);omega
  .have:=KQ (G/256) (show(0:Int)<7 by decide);omega
  have N:=Rm.CP J I (X:=.lst ((cs++[(G+37*(0+(i:Int))*(G/256%7))%256]).map V.int));have O:cs.map V.int++[V.int ((G+37*(0+(i:Int))*(G/256%7))%256)]=(cs++[(G+37*(0+(i:Int))*(G/256%7))%256]).map V.int:=(by rw[Kr];rfl);refine⟨_,rfl,_,_,rfl,rfl,nV,rfl,_,rfl,?_⟩;have S:(cs++[(G+37*(0+(i:Int))*(G/256%7))%256]).length=i+1:=(by rw[E2,U];rfl);rw[<-O]at N;have R:upd H2 l (.lst (cs.map V.int++[V.int ((G+37*(0+(i:Int))*(G/256%7))%256)])) l=some (.lst ((cs++[(G+37*(0+(i:Int))*(G/256%7))%256]).map V.int)):=(by rw[<-O];exact ae);exact iV (λ_=>⟨_,rfl,_,_,rfl,rfl,⟨av,av⟩,_,_,_,rfl,S,R,N⟩) (λ_=>⟨_,_,_,rfl,S,R,N⟩)
 .rintro σ H2 ⟨G,L,cs,rfl,U,h2,J⟩;exact⟨_,rfl,k cs H2 l af J I h2⟩
theorem IH:aD ["_law_m"] ["_law_m"] (aw vU):=L2.bD
theorem zZ {f:Addr}{fd:rn}(F:cD K "_law_sizes" "_law_sizes" vU f fd):aZ P w K mg base aS 1 f fd ["_law_m"] lG:=by
 refine F.dg IH (λY A outer s H vs Q E hr h=>?_);obtain⟨m,rfl,k⟩:=h;refine⟨_,(ao (aG (cO (aa (a9 cz (bN (aa ak (aa ak (aa ak (aa (ay aV ak (ay bu (ay bB (pv 0) ak) ak)) aj))))) (ay bu (pv 0) ak) cq) (aa (a9 cz (bN (aa (ay bu (ay bB (pv 0) ak) ak) (aa (ay bu (ay bB (pv 0) ak) ak) (aa ak aj)))) (ay bu (ay bB (pv 0) ak) ak) cq) aj))))),?_⟩;obtain⟨N,_⟩:=vZ m;obtain⟨R,_⟩:=wm m;refine⟨_,rfl,_,_,rfl,rfl,⟨av,av⟩,_,_,rfl,rfl,(by show(0:Int)<9;decide),_,_,rfl,rfl,Aj,λU O=>⟨_,rfl,_,_,rfl,rfl,Jq,U,_,_,.int (kW m),rfl,rfl,bq.of ae,N,?_⟩⟩;have s0:=Tb.ar (X:=.lst ((tH m).map V.int)) O;refine⟨_,rfl,_,_,rfl,rfl,⟨av,av⟩,_,_,rfl,rfl,(by show(0:Int)<5;decide),_,rfl,_,_,rfl,rfl,⟨av,av⟩,_,_,rfl,rfl,(by show(0:Int)<30;decide),FG,λJ S=>⟨_,rfl,_,_,rfl,rfl,⟨av,av⟩,_,_,rfl,rfl,DB,J,_,_,.int (nQ m),rfl,rfl,bq.of ae,R,fE,λt G=>?_⟩⟩;have I:=Tb.ar (X:=.lst ((tM m).map V.int)) S;have L:=Tb.ar (X:=.tup [.int (kW m),.int (nQ m)]) G;exact k _ t (s0.trans (I.trans L)) (s0.free (I.free G)) ae
end
structure MT where
 ra:Addr
 sa:Addr
 pl:List (Int×Addr×Int)
abbrev Zs:=List (Int×MT)
def jb (z:MT):V:=.ref z.ra
def rJ (z:MT):V:=.ref z.sa
def gb (x:Addr×Int):V:=.ref x.1
def oi (x:Addr×Int):V:=.int x.2
def nW (G ls:Addr) (bC pk:Int):List (Key×V):=[(Ku "rooms",.ref G),(Ku "stands",.ref ls),(Ku "total",.int bC),(Ku "pokes",.int pk)]
structure MA where
 md:Addr
 lr:Addr
 ls:Addr
structure cp (H:Hp) (m:MA) (bC pk:Int) (Z:Zs):Prop where
 hm:H m.md=some (.dK (nW m.lr m.ls bC pk))
 hr:H m.lr=some (.dK (Tb.dk jb Z))
 hs:H m.ls=some (.dK (Tb.dk rJ Z))
 rm:∀x∈Z,H x.2.ra=some (.dK (Tb.dk gb x.2.pl))
 st:∀x∈Z,H x.2.sa=some (.dK (Tb.dk oi x.2.pl))
 cl:∀x∈Z,∀y∈x.2.pl,∃ns:List Int,H y.2.1=some (.lst (ns.map V.int))/\ns.length=8
 nd:(Z.map (·.1)).Nodup
 np:∀x∈Z,(x.2.pl.map (·.1)).Nodup
 rg:∀x∈Z,∀y∈x.2.pl,0<=y.1/\y.1<64
 da:∀x∈Z,∀y∈Z,x.1≠y.1->x.2.ra≠y.2.ra/\x.2.sa≠y.2.sa
 rs:∀x∈Z,∀y∈Z,x.2.ra≠y.2.sa
 d3:∀x∈Z,x.2.ra≠m.md/\x.2.ra≠m.lr/\x.2.ra≠m.ls/\x.2.sa≠m.md/\x.2.sa≠m.lr/\x.2.sa≠m.ls
 n3:m.md≠m.lr/\m.md≠m.ls/\m.lr≠m.ls
def cM (m:MA) (Z:Zs):Addr->Prop:=λb=>b=m.md\/b=m.lr\/b=m.ls\/∃x∈Z,b=x.2.ra\/b=x.2.sa\/∃y∈x.2.pl,b=y.2.1
theorem ks_ne {a b:Str}(h:a≠b):¬ V.str a=V.str b:=λe=>h (by injection e)
theorem xO (G ls:Addr) (bC pk:Int):dJ (nW G ls bC pk) (Ku "rooms")=some (.ref G):=eB rfl
theorem JQ:¬ ((Ku ("rooms" : Str):Key)=Ku ("stands" : Str)):=aq
theorem JH:¬ ((Ku ("rooms" : Str):Key)=Ku ("total" : Str)):=aq
theorem IV:¬ ((Ku ("rooms" : Str):Key)=Ku ("pokes" : Str)):=aq
theorem JI:¬ ((Ku ("stands" : Str):Key)=Ku ("total" : Str)):=aq
theorem IM:¬ ((Ku ("stands" : Str):Key)=Ku ("pokes" : Str)):=aq
theorem Iq:¬ ((Ku ("total" : Str):Key)=Ku ("pokes" : Str)):=aq
theorem Iu (G ls:Addr) (bC pk:Int):dJ (nW G ls bC pk) (Ku "stands")=some (.ref ls):=by
 unfold nW;rw[b9 JQ,eB rfl]
theorem EK (G ls:Addr) (bC pk:Int):dJ (nW G ls bC pk) (Ku "total")=some (.int bC):=by
 unfold nW;rw[b9 JH,b9 JI,eB rfl]
theorem HE (G ls:Addr) (bC pk:Int):dJ (nW G ls bC pk) (Ku "pokes")=some (.int pk):=by
 unfold nW;rw[b9 IV,b9 IM,b9 Iq,eB rfl]
theorem xI (G ls:Addr) (bC pk:Int):kf [] (nW G ls bC pk)=nW G ls bC pk:=by
 have I:putK ([(Ku "rooms",V.ref G)]:List (Key×V)) (Ku "stands") (V.ref ls)=([(Ku "rooms",V.ref G),(Ku "stands",V.ref ls)]:List (Key×V)):=jP _ (b9 JQ);have J:putK ([(Ku "rooms",V.ref G),(Ku "stands",V.ref ls)]:List (Key×V)) (Ku "total") (V.int bC)=([(Ku "rooms",V.ref G),(Ku "stands",V.ref ls),(Ku "total",V.int bC)]:List (Key×V)):=jP _ ((b9 JH).trans (b9 JI));have L:putK ([(Ku "rooms",V.ref G),(Ku "stands",V.ref ls),(Ku "total",V.int bC)]:List (Key×V)) (Ku "pokes") (V.int pk)=([(Ku "rooms",V.ref G),(Ku "stands",V.ref ls),(Ku "total",V.int bC),(Ku "pokes",V.int pk)]:List (Key×V)):=jP _ ((b9 IV).trans ((b9 IM).trans (b9 Iq)));show putK (putK (putK ([(Ku "rooms",V.ref G)]:List (Key×V)) (Ku "stands") (V.ref ls)) (Ku "total") (V.int bC)) (Ku "pokes") (V.int pk)=_;rw[I,J,L];rfl
theorem zL (G ls:Addr) (bC pk:Int):(nW G ls bC pk).map (λI=>(kV I.1,I.2))=[(.str "rooms",.ref G),(.str "stands",.ref ls),(.str "total",.int bC),(.str "pokes",.int pk)]:=rfl
section
variable {H H':Hp}{m:MA}{bC pk:Int}{Z:Zs}
theorem cp.g {k:Str}{v:V}(M:cp H m bC pk Z) (h:dJ (nW m.lr m.ls bC pk) (Ku k)=some v):dC H m.md (.str k) (some v):=by
 have q:=dC.k (k:=Ku k) M.hm;rw[h]at q;exact q
theorem cp.off {B:Addr->Prop}(M:cp H m bC pk Z) (o:Off B H H') (h:∀b,cM m Z b->¬ B b):cp H' m bC pk Z:=by
 refine⟨o _ _ M.hm (h _ (.inl rfl)),o _ _ M.hr (h _ (.inr (.inl rfl))),o _ _ M.hs (h _ (.inr (.inr (.inl rfl)))),λx G=>o _ _ (M.rm x G) (h _ (.inr (.inr (.inr ⟨x,G,.inl rfl⟩)))),λx G=>o _ _ (M.st x G) (h _ (.inr (.inr (.inr ⟨x,G,.inr (.inl rfl)⟩)))),λx G y I=>?_,M.nd,M.np,M.rg,M.da,M.rs,M.d3,M.n3⟩;obtain⟨ns,h1,h2⟩:=M.cl x G y I;exact⟨ns,o _ _ h1 (h _ (.inr (.inr (.inr ⟨x,G,.inr (.inr ⟨y,I,rfl⟩)⟩)))),h2⟩
theorem cp.same (M:cp H m bC pk Z) (s:bg H H'):cp H' m bC pk Z:=M.off (B:=λ_=>False) (λb o e _=>s b o e) λ_ _=>id
end
def ud (Z:Zs):Int:=(Z.map λx=>(x.2.pl.length:Int)).sum
inductive qV (vs:List V) (H:Hp) (Q:VK) (e3:XK):Prop
 |mk (bC:Int) (_:vs=[.int bC]) (_:∀(H':Hp) (m:MA),bg H H'->H m.md=none->H m.lr=none->H m.ls=none->cp H' m bC 0 []->Q (.ref m.md) H'):qV vs H Q e3
inductive k5 (vs:List V) (H:Hp) (Q:VK) (e3:XK):Prop
 |mk (m:MA) (bC pk:Int) (Z:Zs) (_:vs=[.ref m.md]) (_:cp H m bC pk Z) (_:Z.length<=1000) (_:∀H',bg H H'->Q (.int (ud Z)) H'):k5 vs H Q e3
def wQ (pl:List (Int×Addr×Int)) (ad:Int) (n:Nat):Prop:=ad+n<=512/\∀i:Nat,i<n->Tb.look pl ((ad+i)/8)≠none
inductive kK (vs:List V) (H:Hp) (Q:VK) (e3:XK):Prop
 |mk (ra:Addr) (pl:List (Int×Addr×Int)) (ad:Int) (n:Nat) (_:vs=[.ref ra,.int ad,.int n]) (_:H ra=some (.dK (Tb.dk gb pl))) (_:0<=ad) (_:ad<=1000) (_:1<=n) (_:n<=100) (_:∀(b:Bool) (H':Hp),bg H H'->(b=true->wQ pl ad n)->Q (.bl b) H'):kK vs H Q e3
section
variable {P:ti}{w:Kl}{K:Kq}{mg:Str->Option Value}{base:Heap}
theorem IJ:aD ["_law_total"] ["_law_total"] (aw vE):=L2.bD
theorem zf {f:Addr}{fd:rn}(F:cD K "_law_model" "_law_model" vE f fd):aZ P w K mg base aS 1 f fd ["_law_total"] qV:=by
 refine F.dg IJ (λac A outer s H vs Q E hr h=>?_);obtain⟨bC,rfl,k⟩:=h;refine⟨_,(ao (aG (CY (keys:=[some _,some _,some _,some _]) (values:=[_,_,_,_]) (jN aN cY (jN aN cY (jN aN (pv 0) (jN aN ak Co)))) rfl rfl (List.cons_ne_nil _ _) (P7 rfl)))),?_⟩;refine λmd ab I N ls J=>⟨_,rfl,?_⟩;have L:I≠md:=λe=>(by rw[e,ae]at N;cases N);have S:H I=none:=(by rw[ah L]at N;exact N);have R:ls≠I:=λe=>(by rw[e,ae]at J;cases J);rw[ah R]at J;have O:ls≠md:=λe=>(by rw[e,ae]at J;cases J);have Y:H ls=none:=(by rw[ah O]at J;exact J);refine⟨by rw[ah (qw O),ah (qw L),ae],nW I ls bC 0,(zL I ls bC 0).symm,by show 4<=15;decide,?_⟩;rw[xI];refine k _ ⟨md,I,ls⟩ (λb o e=>?_) ab S Y ⟨ae,?_,?_,(λx G=>by cases G),(λx G=>by cases G),(λx G=>by cases G),Ms,(λx G=>by cases G),(λx G=>by cases G),(λx G=>by cases G),(λx G=>by cases G),(λx G=>by cases G),⟨qw L,qw O,qw R⟩⟩
 .have U:b≠md:=au e ab;rw[ah U,ah (au e Y),ah (au e S),ah U];exact e
 .show upd _ md _ I=_;rw[ah L,ah (qw R),ae];rfl
 .show upd _ md _ ls=_;rw[ah O,ae];rfl
theorem IA:aD ["_law_model_here"] ["_law_model_here"] (aw vg):=L2.bD
theorem Be {f:Addr}{fd:rn}(F:cD K "_law_held" "_law_held" vg f fd) (T:ke mg):aZ P w K mg base aS 1 f fd ["_law_model_here"] k5:=by
 refine F.dg IA (λab A outer s H vs Q E hr h=>?_);obtain⟨m,bC,pk,Z,rfl,M,lz,k⟩:=h;have hs:=BY;refine⟨_,(ao (aG (aP (ie rfl) (by rfl) T.sum m4 (aa (xk (gD (cl:=[]) (caps:=[]) ⟨rfl,aq,aq,rfl,by kernel_rfl,by intro p N;simp at N,by kernel_rfl,by intro p N;simp at N,aq⟩ rfl (CN (bt (bf hr) (pv 0) aN cq)) (λ_ _ _ _=>fj) (λ_ _ _ _=>(aP kG (by rfl) T.len boot_len (aa (pv 0) aj))))) aj)))),?_⟩;have U:∀(o:Obj) S,H m.lr≠some (.frz o S):=λo S z=>(by rw[M.hr]at z;cases z);refine⟨_,rfl,m.md,.ref m.lr,rfl,M.g (xO _ _ _ _),m.lr,_,rfl,M.hr,U,λo=>?_⟩;have oF:Off (· = m.lr) H (upd H m.lr (.frz o (.dK (Tb.dk jb Z)))):=Off.wr rfl;have I:(upd H m.lr (.frz o (.dK (Tb.dk jb Z)))) m.lr=some (.frz o (.dK (Tb.dk jb Z))):=ae;refine vf (a:=m.lr) (o:=o) (kvs:=Tb.dk jb Z) (λi ys H2=>ys=((Z.take i).map λx=>(x.2.pl.length:Int)).map V.int/\H2=upd H m.lr (.frz o (.dK (Tb.dk jb Z)))) ⟨rfl,rfl⟩ (λi zs H2 _ ⟨_,e⟩=>by rw[e];exact I) ?_ ?_
 .rintro i kk v zs H2 Y ⟨rfl,rfl⟩;have O:(Z.map λx:Int×MT=>((vu x.1:Key),jb x.2))[i]?=some (kk,v):=Y;rw[wh]at O;obtain⟨x,J,e⟩:=vr.mp O;cases e;have R:=DD J;have hi:i<Z.length:=(j1.mp J).1;refine⟨_,rfl,x.2.ra,_,rfl,oF _ _ (M.rm x R) (M.d3 x R).2.1,?_,?_,rfl⟩
  .rw[nq,nq,Kv];omega
  .rw[Tb.cu,Lu,J,Kr,Kr];rfl
 .rintro zs H2 ⟨rfl,rfl⟩ l G;have L:l≠m.lr:=λz=>(by rw[z,I]at G;cases G);refine⟨m.lr,o,Tb.dk jb Z,by rw[ah (qw L)];exact I,U,l,(Z.map λx=>(x.2.pl.length:Int)),rfl,bq.of ?_,?_⟩
  .rw[ah L,ae,Tb.cu,LC]
  .refine k _ λb u e=>?_;by_cases z:b=m.lr
   .rw[z,ae, <-e,z,M.hr]
   .rw[ah z,ah (λy=>by rw[y]at e;rw[ah L,e]at G;cases G),ah z];exact e
theorem CZ:aD ["_law_room","_law_address","_law_many"] ["_law_room","_law_address","_law_many"] (aw lT):=L2.bD
theorem vm {f:Addr}{fd:rn}(F:cD K "_law_stretch" "_law_stretch" lT f fd) (T:ke mg):aZ P w K mg base aS 1 f fd ["_law_room","_law_address","_law_many"] kK:=by
 refine F.dg CZ (λR A outer s H vs Q E L h=>?_);obtain⟨I,pl,ad,n,rfl,N,O,U,Y,S,k⟩:=h;have hs:=BY;refine⟨_,(ag (aU (aE gH (pv 2) ak (aI _)) (ao (aG pA)) aH)
  (ag (aU (PW.pt (ug (aE ij (pv 2) ak (aI _)) (qE (PW.pt (gL (aE gH (pv 1) ak (aI _)) (fK (aE ij (ay aV (pv 1) (pv 2)) ak (aI _)))))))) (ao (aG pA)) aH)
  (ao (aG (Ga (jM bR (pv 2) ak (aI _)) (vK (aP (j6 rfl) (by rfl) T.all uq (aa (gD (cl:=[("_law_room",s.heap.objs.size+1)]) (caps:=[("_law_room",0)]) ⟨rfl,aq,aq,rfl,by kernel_rfl,by intro p G;simp only[E3,Km,or_false]at G;rcases G with rfl<;>first|rfl|exact⟨rfl,.inl rfl,.inl rfl⟩|exact⟨rfl,.inl rfl,.inr rfl⟩,by kernel_rfl,by intro p G;simp only[E3,Km,or_false]at G;rcases G with rfl<;>first|rfl|exact⟨rfl,.inl rfl,.inl rfl⟩|exact⟨rfl,.inl rfl,.inr rfl⟩,aq⟩ rfl (dH (by rfl) T.range (aa (pv 1) (aa (ay aV (pv 1) (pv 2)) aj))) (λ_ _ _ _=>fj) (λ_ _ _ _=>(vt (ny (bf L) (ay bB (pv 0) ak) (pv 1))))) aj)))))))),?_⟩
 refine⟨_,rfl,_,_,rfl,rfl,_,rfl,?_⟩;rw[decide_eq_false af];refine bU (z9 ?_);dsimp only;refine⟨_,rfl,_,_,rfl,rfl,_,rfl,?_⟩;rw[decide_eq_true af];refine eI ?_;refine⟨_,rfl,_,_,rfl,rfl,_,rfl,?_⟩;rw[decide_eq_false af];refine bU ?_;refine⟨_,rfl,_,rfl,_,_,rfl,rfl,_,_,rfl,rfl,_,rfl,?_⟩;by_cases c:(512:Int)<ad+n
 .rw[decide_eq_true c];exact eI (k false H (bg.refl H) (λz=>by cases z))
 .rw[decide_eq_false c];refine bU (z9 ?_);dsimp only;refine⟨_,rfl,rfl,_,rfl,?_⟩;refine iV (λz=>?_) (λ_=>?_)
  .exfalso;have:((n:Nat):Int)=0:=(by simpa using z);omega
  refine⟨_,rfl,_,rfl,_,rfl,_,_,rfl,rfl,_,_,rfl,⟨af,af,af,af⟩,?_⟩;refine fA (lo:=ad) (n:=(ad+(n:Int)-ad).toNat) (λi ys H2=>ys=((Kx i).map λj:Nat=>(Tb.look pl ((ad+j)/8)).isSome).map V.bl/\H2=H) ⟨rfl,rfl⟩ ?_ ?_
  .rintro i ys H2 hi ⟨rfl,rfl⟩;refine⟨_,rfl,_,_,rfl,rfl,⟨av,av⟩,_,rfl,I,_,rfl,fO N,?_,?_,rfl⟩
   .rw[nq,nq,Lg];omega
   .rw[QJ,Kr,Kr];show _++[V.bl ((Tb.look pl ((ad+(i:Int))/8)).map gb).isSome]=_;rw[OC];rfl
  .rintro ys H2 ⟨rfl,rfl⟩ l J;refine⟨l,_,rfl,bq.of ae,k _ _ (Tb.ar J) λz=>⟨af,λi hi=>?_⟩⟩;have e:=KH.mp z ((Tb.look pl ((ad+(i:Int))/8)).isSome) (rk.mpr ⟨i,KZ.mpr af,rfl⟩);intro w;rw[w]at e;cases e
end
inductive Dd where
 |begin (t:Int)
 |close (t:Int)
 |map (t p m:Int)
 |drop (t p m:Int)
 |peek (t ad:Int) (n:Nat)
 |poke (t ad:Int) (c:Addr) (cs:List Int)
 |copy (t o:Int)
def yn:Dd->List V
 |.begin t=>[.str "begin",.int t]
 |.close t=>[.str "close",.int t]
 |.map t p m=>[.str "map",.int t,.int p,.int m]
 |.drop t p m=>[.str "drop",.int t,.int p,.int m]
 |.peek t ad n=>[.str "peek",.int t,.int ad,.int n]
 |.poke t ad c _=>[.str "poke",.int t,.int ad,.ref c]
 |.copy t o=>[.str "copy",.int t,.int o]
def EB:Dd->Str
 |.begin _ => "begin" |.close _ => "close" |.map .. => "map" |.drop .. => "drop" |.peek .. => "peek" |.poke .. => "poke" |.copy .. => "copy"
def Dn:Dd->Int
 |.begin t=>t|.close t=>t|.map t _ _=>t|.drop t _ _=>t|.peek t _ _=>t|.poke t _ _ _=>t|.copy t _=>t
def rP (H:Hp) (d:Addr) (D:Dd):Prop:=H d=some (.tup (yn D))/\∀t ad c cs,D=.poke t ad c cs->H c=some (.lst (cs.map V.int))
def zD:Dd->Prop
 |.begin _=>False
 |.map _ p m=>0<=p/\p<64/\1<=m/\m<=64
 |.drop _ p m=>0<=p/\p<64/\1<=m/\m<=64
 |.peek _ ad n=>0<=ad/\ad<=1000/\1<=n/\n<=100
 |.poke _ ad _ cs=>0<=ad/\ad<=1000/\1<=cs.length/\cs.length<=100
 |_=>True
def CW (Z:Zs) (bC:Int):Dd->Prop
 |.begin t=>Tb.look Z t=none
 |.close t=>∃z,Tb.look Z t=some z
 |.map t p m=>∃z,Tb.look Z t=some z/\¬ Rm.cg p m/\(∀q∈Rm.aK p m,Tb.look z.pl q=none)/\ud Z+m<=bC
 |.drop t p m=>∃z,Tb.look Z t=some z/\¬ Rm.cg p m/\∀q∈Rm.aK p m,Tb.look z.pl q≠none
 |.peek t ad n=>∃z,Tb.look Z t=some z/\wQ z.pl ad n
 |.poke t ad _ cs=>∃z,Tb.look Z t=some z/\wQ z.pl ad cs.length
 |.copy t o=>∃z,Tb.look Z t=some z/\Tb.look Z o=none/\ud Z+z.pl.length<=bC
inductive Aw (vs:List V) (H:Hp) (Q:VK) (e3:XK):Prop
 |mk (m:MA) (bC pk:Int) (Z:Zs) (d:Addr) (D:Dd) (_:vs=[.ref m.md,.ref d]) (_:cp H m bC pk Z) (_:Z.length<=1000) (_:rP H d D) (_:zD D) (_:∀(r:Str) (H':Hp),bg H H'->(r = "" -> CW Z bC D)->Q (.str r) H'):Aw vs H Q e3
theorem at2 {a b:V}(k:Bool):BD [a,b] (if k=true then 1 else 0)=some (if k=true then b else a):=by cases k<;>rfl
theorem DM (D:Dd):fg (yn D) none (some 2)=[.str (EB D),.int (Dn D)]:=by cases D<;>rfl
theorem BC {D:Dd}(h:HT.cR (yn D).length 0 none=0/\HT.cR (yn D).length (yn D).length (some 2)=(yn D).length):yn D=[.str (EB D),.int (Dn D)]:=by
 obtain⟨_,h⟩:=h;cases D<;>first|rfl|(exact absurd (show HT.cR 4 4 (some 2)=4 from h) av)|(exact absurd (show HT.cR 3 3 (some 2)=3 from h) av)
section
variable {P:ti}{w:Kl}{K:Kq}{mg:Str->Option Value}{base:Heap}
theorem tP:aD ["_law_model_here","_law_deed","_law_rooms","_law_name","_law_task","_law_room","_law_page","_law_many","_law_there"] ["_law_model_here","_law_deed"] (aw Ez):=L2.bD
theorem bP {a b:Str}(h:a≠b:=by dsimp only[EB];decide +kernel):¬ V.str a=V.str b:=ks_ne h
section
variable {D:Ends}{σ:L2.St}{H:Hp}{t u:TS}{i:Nat}{x y:V}
theorem jT (h:σ[i]?=some (some x)) (s:tR x y=true) (n:¬ x=y) (k:u D σ H):iZ (lU (lW (Bw Eu (sJ i) (tC y))) t kP) u D σ H:=iK λ_ _ e=>yZ (iM h) iJ s n (e _ k)
theorem BL (h:σ[i]?=some (some x)) (s:tR x x=true) (k:t { D with nx:=u D } σ H):iZ (lU (lW (Bw Eu (sJ i) (tC x))) t kP) u D σ H:=iK λ_ e _=>eqT (iM h) iJ s (e _ k)
theorem ox (h:σ[i]?=some (some x)) (s:tR x y=true) (n:¬ x=y) (k:u D σ H):lU (lW (Bw Eu (sJ i) (tC y))) t u D σ H:=yZ (iM h) iJ s n (bU k)
theorem Fs (h:σ[i]?=some (some x)) (s:tR x x=true) (k:t D σ H):lU (lW (Bw Eu (sJ i) (tC x))) t u D σ H:=eqT (iM h) iJ s (eI k)
end
theorem ET {f:Addr}{fd:rn}(F:cD K "_law_due" "_law_due" Ez f fd) (T:ke mg) (a4:Df P w K mg base aS 1 "_law_held" k5) (a2:Df P w K mg base aS 1 "_law_stretch" kK) :
  aZ P w K mg base aS 2 f fd ["_law_model_here","_law_deed"] Aw:=by
 refine F.dg tP (λa7 A outer s H vs Q E S h=>?_);obtain⟨m,bC,pk,Z,d,D,rfl,M,lz,hd,ab,k⟩:=h;have hs:=BY;refine⟨_,(ag (dA 2 tP.nd (bt (bf S) (pv 0) aN cq))
  (ag (cK (cZ lH (pv 1) fB (cW ak)) (dS rfl (bo (gG 3 tP.nd) (bo (gG 4 tP.nd) cX))))
  (ag (aU (aE bR (pv 3) aN (aI _)) (ao (aG (a9 cz (bN (aa aN (aa aN aj))) (bG eV (by rfl) T.int iW (aa (vt (ny (bf S) (pv 4) (pv 2))) aj)) cq))) aH)
  (ag (aU (jd (fY (bf S) (pv 4) (pv 2))) (ao (aG aN)) aH)
  (ag (dA 5 tP.nd (bt (bf S) (pv 2) (pv 4) cq))
  (ag (aU (PW.pt (gL (aE bR (pv 3) aN (aI _)) (fK (aE bR (pv 3) aN (aI _))))) (ag (cK (cZ lH (pv 1) (cW ak) fB) (dS rfl (bo (gG 6 tP.nd) (bo (gG 7 tP.nd) cX))))
  (ag (aU (PW.pt (gL (aE gH (pv 7) ak (aI _)) (gL (aE gH (pv 6) ak (aI _)) (fK (aE ij (ay aV (pv 6) (pv 7)) ak (aI _)))))) (ao (aG aN)) aH)
  (ag (Ce (i:=8) (cl:=[("_law_room",s.heap.objs.size+1)]) (caps:=[("_law_room",5)]) tP.nd rfl (Tc rfl) ⟨rfl,aq,aq,rfl,by kernel_rfl,by intro p hp;simp only[E3,Km,or_false]at hp;rcases hp with rfl<;>first|rfl|exact⟨rfl,.inl rfl,.inl rfl⟩|exact⟨rfl,.inl rfl,.inr rfl⟩,by kernel_rfl,by intro p hp;simp only[E3,Km,or_false]at hp;rcases hp with rfl<;>first|rfl|exact⟨rfl,.inl rfl,.inl rfl⟩|exact⟨rfl,.inl rfl,.inr rfl⟩,aq⟩ rfl (dH (by rfl) T.range (aa (pv 6) (aa (ay aV (pv 6) (pv 7)) aj))) (λ_ _ _ _=>fj) (λ_ _ _ _=>(vt (ny (bf S) (pv 0) (pv 1)))))
  (ag (aU (aE bR (pv 3) aN (aI _)) (ao (aG (a9 cz (bN (aa aN (aa aN aj))) (bG eV (by rfl) T.int iW (aa (aP (j6 rfl) (by rfl) T.all uq (aa (pv 8) aj)) aj)) cq))) aH)
  (ag (aU (gA (aP (xY rfl) (by rfl) T.any D9 (aa (pv 8) aj))) (ao (aG aN)) aH)
  (ao (aG (a9 cz (bN (aa aN (aa aN aj))) (bG eV (by rfl) T.int iW (aa (jM ij (ay aV (pc a4 S az (aa (pv 0) aj)) (pv 7)) (bt (bf S) (pv 0) aN cq) (aI _)) aj)) cq)))))))) aH)
  (ag (aU (aE bR (pv 3) aN (aI _)) (ao (aG (a9 cz (bN (aa aN (aa aN aj))) (bG eV (by rfl) T.int iW (aa (pc a2 S az (aa (pv 5) (aa (a9 bh (pv 1) ak cq) (aa (a9 bh (pv 1) ak cq) aj)))) aj)) cq))) aH)
  (ag (aU (aE bR (pv 3) aN (aI _)) (ao (aG (a9 cz (bN (aa aN (aa aN aj))) (bG eV (by rfl) T.int iW (aa (pc a2 S az (aa (pv 5) (aa (a9 bh (pv 1) ak cq) (aa (aP bJ (by rfl) T.len boot_len (aa (a9 bh (pv 1) ak cq) aj)) aj)))) aj)) cq))) aH)
  (ag (aU (aE bR (pv 3) aN (aI _)) (ag (aU (jd (ny (bf S) (a9 bh (pv 1) ak cq) (pv 2))) (ao (aG aN)) aH)
  (ao (aG (a9 cz (bN (aa aN (aa aN aj))) (bG eV (by rfl) T.int iW (aa (jM ij (ay aV (pc a4 S az (aa (pv 0) aj)) (aP kG (by rfl) T.len boot_len (aa (pv 5) aj))) (bt (bf S) (pv 0) aN cq) (aI _)) aj)) cq)))) aH)
  (ao (aG aN))))))))))),?_⟩
 refine gn λ_ jt=>?_;refine⟨_,rfl,m.md,.ref m.lr,rfl,M.g (xO _ _ _ _),jt _ _ ?_⟩;refine share (λσ H1=>bg H H1/\σ=[some (.ref m.md),some (.ref d),some (.ref m.lr),some (.str (EB D)),some (.int (Dn D)),none,none,none,none]) (λu' a3=>?A) ?B
 case A =>
  refine⟨_,rfl,_,rfl,d,_,rfl,bZ.of hd.1,λc=>?_,λ_ p hp=>?_⟩
  .exact⟨d,_,rfl,bZ.of hd.1,by rw[BC c];rfl,by rw[BC c];exact⟨_,_,rfl,_,_,rfl,rfl,a3 _ _ ⟨bg.refl H,rfl⟩⟩⟩
  .rw[DM];exact⟨p,_,rfl,bZ.of ae,rfl,_,_,rfl,_,_,rfl,rfl,a3 _ _ ⟨Tb.ar hp,rfl⟩⟩
 case B =>
 rintro σ H1 ⟨R,rfl⟩;have M1:=M.same R;have U:H1 d=some (.tup (yn D)):=R _ _ hd.1;have a5:∀t ad c cs,D=.poke t ad c cs->H1 c=some (.lst (cs.map V.int)):=λt ad c cs e=>R _ _ (hd.2 t ad c cs e);have nb:EB D ≠ "begin" := by
  cases D with
  |begin t=>exact absurd ab id
  |close t=>exact(show ¬ (("close" : Str) = "begin")by decide +kernel)
  |map t p m=>exact(show ¬ (("map" : Str) = "begin")by decide +kernel)
  |drop t p m=>exact(show ¬ (("drop" : Str) = "begin")by decide +kernel)
  |peek t p m=>exact(show ¬ (("peek" : Str) = "begin")by decide +kernel)
  |poke t p m q=>exact(show ¬ (("poke" : Str) = "begin")by decide +kernel)
  |copy t p=>exact(show ¬ (("copy" : Str) = "begin")by decide +kernel)
 refine iK λ_ O L=>?_;refine yZ (iM rfl) iJ rfl (ks_ne nb) (L _ ?_);clear O L;refine iK λ_ O L=>?_;refine⟨_,rfl,_,rfl,m.lr,_,rfl,fO (t:=Dn D) M1.hr,?_⟩;cases ez:Tb.look Z (Dn D)with
 |none=>exact⟨true,rfl,O _ (k "NoTask" H1 R (λz=>absurd z aq))⟩
 |some z =>
 refine⟨false,rfl,L _ ?_⟩;clear O L;have hg:=fO (t:=Dn D) M1.hr;rw[ez]at hg;have am:=Tb.aC ez;refine gn λ_ jt=>?_;refine⟨_,rfl,_,rfl,m.lr,jb z,rfl,hg,jt _ _ ?_⟩;clear jt;cases D with
 |begin t=>exact absurd ab id
 |close t =>
  refine iK λ_ O L=>?_;refine yZ (iM rfl) iJ rfl bP (bU (yZ (iM rfl) iJ rfl bP (L _ ?_)));refine jT rfl rfl bP (jT rfl rfl bP ?_);refine jT rfl rfl bP ?_;exact k "" H1 R λ_=>⟨z,ez⟩
 |peek t ad n =>
  refine iK λ_ O L=>?_;refine yZ (iM rfl) iJ rfl bP (bU (yZ (iM rfl) iJ rfl bP (L _ ?_)));refine BL rfl rfl ?_;obtain⟨a0,a1,n0,n1⟩:=ab;refine⟨fE,λl Y=>?_⟩;have I:=Tb.ar (X:=.lst [.str "NoPage",.str ""]) Y;have h2:upd H1 l (.lst [.str "NoPage",.str ""]) l=some (.lst [.str "NoPage",.str ""]):=ae;refine⟨_,rfl,_,rfl,d,_,_,.int ad,rfl,rfl,bZ.of (I _ _ U),rfl,_,rfl,d,_,_,.int n,rfl,rfl,bZ.of (I _ _ U),rfl,z.ra,z.pl,ad,n,rfl,I _ _ (M1.rm _ am),a0,a1,n0,n1,λb J N hb=>?_⟩;refine .inr ⟨b,rfl,l,_,_,_,rfl,rfl,bq.of (N _ _ h2),at2 b,?_⟩;cases b
  .exact k "NoPage" J (R.trans (I.trans N)) (λw=>absurd w aq)
  .exact k "" J (R.trans (I.trans N)) (λ_=>⟨z,ez,hb rfl⟩)
 |poke t ad c cs =>
  refine iK λ_ O L=>?_;refine yZ (iM rfl) iJ rfl bP (bU (yZ (iM rfl) iJ rfl bP (L _ ?_)));refine jT rfl rfl bP (BL rfl rfl ?_);obtain⟨a0,a1,n0,n1⟩:=ab;refine⟨fE,λl Y=>?_⟩;have I:=Tb.ar (X:=.lst [.str "NoPage",.str ""]) Y;have h2:upd H1 l (.lst [.str "NoPage",.str ""]) l=some (.lst [.str "NoPage",.str ""]):=ae;refine⟨_,rfl,_,rfl,d,_,_,.int ad,rfl,rfl,bZ.of (I _ _ U),rfl,_,rfl,d,_,_,.ref c,rfl,rfl,bZ.of (I _ _ U),rfl,c,_,rfl,.inl (bq.of (I _ _ (a5 _ _ _ _ rfl))),z.ra,z.pl,ad,cs.length,by rw[nq];rfl,I _ _ (M1.rm _ am),a0,a1,n0,n1,λb J N hb=>?_⟩;refine .inr ⟨b,rfl,l,_,_,_,rfl,rfl,bq.of (N _ _ h2),at2 b,?_⟩;cases b
  .exact k "NoPage" J (R.trans (I.trans N)) (λw=>absurd w aq)
  .exact k "" J (R.trans (I.trans N)) (λ_=>⟨z,ez,hb rfl⟩)
 |copy t o =>
  refine iK λ_ O L=>?_;refine yZ (iM rfl) iJ rfl bP (bU (yZ (iM rfl) iJ rfl bP (L _ ?_)));refine jT rfl rfl bP (jT rfl rfl bP ?_);refine BL rfl rfl ?_;refine iK λ_ O L=>?_;refine⟨_,rfl,d,_,_,.int o,rfl,rfl,bZ.of U,rfl,_,rfl,m.lr,_,rfl,fO (t:=o) M1.hr,?_⟩;cases eo:Tb.look Z o with
  |some _=>exact⟨true,rfl,O _ (k "Taken" H1 R (λw=>absurd w aq))⟩
  |none =>
  refine⟨false,rfl,L _ ?_⟩;refine⟨fE,λl Y=>?_⟩;have I:=Tb.ar (X:=.lst [.str "",.str "NoRoom"]) Y;have h2:upd H1 l (.lst [.str "",.str "NoRoom"]) l=some (.lst [.str "",.str "NoRoom"]):=ae;refine⟨_,rfl,m,bC,pk,Z,rfl,M1.same I,lz,λJ N=>?_⟩;have M3:=(M1.same I).same N;refine⟨_,rfl,z.ra,_,rfl,M3.rm _ am,_,_,rfl,rfl,_,rfl,m.md,.int bC,rfl,M3.g (EK _ _ _ _),_,_,rfl,rfl,?_⟩;refine .inr ⟨_,rfl,l,_,_,_,rfl,rfl,bq.of (N _ _ h2),at2 _,?_⟩;rw[Tb.cu];by_cases c:bC<ud Z+z.pl.length
  .rw[decide_eq_true c];exact k "NoRoom" J (R.trans (I.trans N)) (λw=>absurd w aq)
  .rw[decide_eq_false c];exact k "" J (R.trans (I.trans N)) (λ_=>⟨z,ez,eo,af⟩)
 |map t p G =>
  refine iK λ_ O L=>?_;refine eqT (iM rfl) iJ rfl (eI (O _ ?_));obtain⟨p0,p1,m0,m1⟩:=ab;refine⟨_,rfl,_,rfl,d,_,rfl,bZ.of U,λc=>absurd c (by rintro⟨c,_⟩;exact absurd (show HT.cR 4 0 (some 2)=0 from c) av),λ_ p' aB=>?_⟩;have I:=Tb.ar (X:=.tup [.int p,.int G]) aB;have ec:∀x:Str,fg [V.str x,V.int t,V.int p,V.int G] (some 2) none=[V.int p,V.int G]:=λ_=>rfl;dsimp only[yn];rw[ec];refine⟨p',[.int p,.int G],rfl,bZ.of ae,rfl,_,_,rfl,_,_,rfl,rfl,?_⟩;have a6:=I _ _ U;have M2:=M1.same I;generalize upd H1 p' (.tup [.int p,.int G])=H2 at *;refine iK λ_ ac ai=>?_;refine⟨_,rfl,_,_,rfl,rfl,_,rfl,?_⟩;rw[decide_eq_false af];refine bU ?_;refine⟨_,rfl,_,_,rfl,rfl,_,rfl,?_⟩;rw[decide_eq_false af];refine bU ?_;refine⟨_,rfl,_,rfl,_,_,rfl,rfl,_,_,rfl,rfl,_,rfl,?_⟩;by_cases c:(64:Int)<p+G
  .rw[decide_eq_true c];exact ac _ (k "NoPage" H2 (R.trans I) (λw=>absurd w aq))
  rw[decide_eq_false c];refine ai _ ?_;clear ac ai;have ap:¬ Rm.cg p G:=λh=>by
   rcases h with h|h|h<;>omega
  refine⟨_,rfl,_,rfl,_,rfl,_,_,rfl,rfl,_,_,rfl,⟨af,af,af,af⟩,?_⟩;refine fA (lo:=p) (n:=(p+G-p).toNat) (λi ys J=>ys=((Kx i).map λj:Nat=>(Tb.look z.pl (p+j)).isSome).map V.bl/\J=H2) ⟨rfl,rfl⟩ ?_ ?_
  .rintro i ys J hi ⟨rfl,rfl⟩;refine⟨_,rfl,_,rfl,z.ra,_,rfl,fO (M2.rm _ am),?_,?_,rfl⟩
   .rw[nq,nq,Lg];omega
   .rw[QJ,Kr,Kr];show _++[V.bl ((Tb.look z.pl (p+(i:Int))).map gb).isSome]=_;rw[OC];rfl
  rintro ys J ⟨rfl,rfl⟩ l Y;have N:=Tb.ar (X:=.lst (((Kx (p+G-p).toNat).map λj:Nat=>(Tb.look z.pl (p+j)).isSome).map V.bl)) Y;have h3:upd J l (.lst (((Kx (p+G-p).toNat).map λj:Nat=>(Tb.look z.pl (p+j)).isSome).map V.bl)) l=some (.lst (((Kx (p+G-p).toNat).map λj:Nat=>(Tb.look z.pl (p+j)).isSome).map V.bl)):=ae;have as:Rm.aK p G=(Kx (p+G-p).toNat).map λj:Nat=>p+j:=(by unfold Rm.aK;rw[show p+G-p=G by omega]);generalize upd J l (.lst (((Kx (p+G-p).toNat).map λj:Nat=>(Tb.look z.pl (p+j)).isSome).map V.bl))=H4 at *;have M4:=M2.same N;have S4:=R.trans (I.trans N);refine nameQ ?_;dsimp only;refine jT rfl rfl bP ?_;refine iK λ_ O L=>?_;refine⟨_,rfl,l,_,rfl,bq.of h3,_,rfl,?_⟩;cases ea:(((Kx (p+G-p).toNat).map λj:Nat=>(Tb.look z.pl (p+j)).isSome)).any id with
  |true=>exact O _ (k "Taken" H4 S4 (λw=>absurd w aq))
  |false =>
  refine L _ ?_;refine⟨fE,λl2 aT=>?_⟩;have s5:=Tb.ar (X:=.lst [.str "",.str "NoRoom"]) aT;have h5:upd H4 l2 (.lst [.str "",.str "NoRoom"]) l2=some (.lst [.str "",.str "NoRoom"]):=ae;refine⟨_,rfl,m,bC,pk,Z,rfl,M4.same s5,lz,λH6 s6=>?_⟩;have M6:=(M4.same s5).same s6;refine⟨_,rfl,_,_,rfl,rfl,_,rfl,m.md,.int bC,rfl,M6.g (EK _ _ _ _),_,_,rfl,rfl,?_⟩;refine .inr ⟨_,rfl,l2,_,_,_,rfl,rfl,bq.of (s6 _ _ h5),at2 _,?_⟩;by_cases c2:bC<ud Z+G
  .rw[decide_eq_true c2];exact k "NoRoom" H6 (S4.trans (s5.trans s6)) (λw=>absurd w aq)
  .rw[decide_eq_false c2];refine k "" H6 (S4.trans (s5.trans s6)) (λ_=>⟨z,ez,ap,λq hq=>?_,af⟩);rw[as]at hq;obtain⟨j,hj,rfl⟩:=rk.mp hq;have e:=QU.mp ea ((Tb.look z.pl (p+(j:Int))).isSome) (rk.mpr ⟨j,hj,rfl⟩);cases w:Tb.look z.pl (p+(j:Int))with
   |none=>rfl
   |some _=>rw[w]at e;exact absurd rfl e
 |drop t p G =>
  refine iK λ_ O L=>?_;refine yZ (iM rfl) iJ rfl bP (bU (eqT (iM rfl) iJ rfl (O _ ?_)));obtain⟨p0,p1,m0,m1⟩:=ab;refine⟨_,rfl,_,rfl,d,_,rfl,bZ.of U,λc=>absurd c (by rintro⟨c,_⟩;exact absurd (show HT.cR 4 0 (some 2)=0 from c) av),λ_ p' aB=>?_⟩;have I:=Tb.ar (X:=.tup [.int p,.int G]) aB;have ec:∀x:Str,fg [V.str x,V.int t,V.int p,V.int G] (some 2) none=[V.int p,V.int G]:=λ_=>rfl;dsimp only[yn];rw[ec];refine⟨p',[.int p,.int G],rfl,bZ.of ae,rfl,_,_,rfl,_,_,rfl,rfl,?_⟩;have a6:=I _ _ U;have M2:=M1.same I;generalize upd H1 p' (.tup [.int p,.int G])=H2 at *;refine iK λ_ ac ai=>?_;refine⟨_,rfl,_,_,rfl,rfl,_,rfl,?_⟩;rw[decide_eq_false af];refine bU ?_;refine⟨_,rfl,_,_,rfl,rfl,_,rfl,?_⟩;rw[decide_eq_false af];refine bU ?_;refine⟨_,rfl,_,rfl,_,_,rfl,rfl,_,_,rfl,rfl,_,rfl,?_⟩;by_cases c:(64:Int)<p+G
  .rw[decide_eq_true c];exact ac _ (k "NoPage" H2 (R.trans I) (λw=>absurd w aq))
  rw[decide_eq_false c];refine ai _ ?_;clear ac ai;have ap:¬ Rm.cg p G:=λh=>by
   rcases h with h|h|h<;>omega
  refine⟨_,rfl,_,rfl,_,rfl,_,_,rfl,rfl,_,_,rfl,⟨af,af,af,af⟩,?_⟩;refine fA (lo:=p) (n:=(p+G-p).toNat) (λi ys J=>ys=((Kx i).map λj:Nat=>(Tb.look z.pl (p+j)).isSome).map V.bl/\J=H2) ⟨rfl,rfl⟩ ?_ ?_
  .rintro i ys J hi ⟨rfl,rfl⟩;refine⟨_,rfl,_,rfl,z.ra,_,rfl,fO (M2.rm _ am),?_,?_,rfl⟩
   .rw[nq,nq,Lg];omega
   .rw[QJ,Kr,Kr];show _++[V.bl ((Tb.look z.pl (p+(i:Int))).map gb).isSome]=_;rw[OC];rfl
  rintro ys J ⟨rfl,rfl⟩ l Y;have N:=Tb.ar (X:=.lst (((Kx (p+G-p).toNat).map λj:Nat=>(Tb.look z.pl (p+j)).isSome).map V.bl)) Y;have h3:upd J l (.lst (((Kx (p+G-p).toNat).map λj:Nat=>(Tb.look z.pl (p+j)).isSome).map V.bl)) l=some (.lst (((Kx (p+G-p).toNat).map λj:Nat=>(Tb.look z.pl (p+j)).isSome).map V.bl)):=ae;have as:Rm.aK p G=(Kx (p+G-p).toNat).map λj:Nat=>p+j:=(by unfold Rm.aK;rw[show p+G-p=G by omega]);generalize upd J l (.lst (((Kx (p+G-p).toNat).map λj:Nat=>(Tb.look z.pl (p+j)).isSome).map V.bl))=H4 at *;have M4:=M2.same N;have S4:=R.trans (I.trans N);refine nameQ ?_;dsimp only;refine BL rfl rfl ?_;refine⟨fE,λl2 aT=>?_⟩;have s5:=Tb.ar (X:=.lst [.str "NoPage",.str ""]) aT;have h5:upd H4 l2 (.lst [.str "NoPage",.str ""]) l2=some (.lst [.str "NoPage",.str ""]):=ae;refine⟨_,rfl,l,_,rfl,bq.of (s5 _ _ h3),?_⟩;refine .inr ⟨_,rfl,l2,_,_,_,rfl,rfl,bq.of h5,at2 _,?_⟩;cases ea:(((Kx (p+G-p).toNat).map λj:Nat=>(Tb.look z.pl (p+j)).isSome)).all id with
  |false=>exact k "NoPage" _ (S4.trans s5) (λw=>absurd w aq)
  |true =>
   refine k "" _ (S4.trans s5) (λ_=>⟨z,ez,ap,λq hq=>?_⟩);rw[as]at hq;obtain⟨j,hj,rfl⟩:=rk.mp hq;have e:=KH.mp ea ((Tb.look z.pl (p+(j:Int))).isSome) (rk.mpr ⟨j,hj,rfl⟩);intro w;rw[w]at e;cases e
end
def q8 (D:Dd) (h h':Int->Bool):Prop:=match D with
 |.begin t=>∀t',h' t'=(decide (t'=t)||h t')
 |.close t=>∀t',h' t'=(decide (t'≠t)&&h t')
 |.copy _ o=>∀t',h' t'=(decide (t'=o)||h t')
 |_=>∀t',h' t'=h t'
def vI {α:Type}(I:α) (ok:α->Prop) (D:Dd) (e G:Int->Int->Option α):Prop:=match D with
 |.begin t=>∀t' q,G t' q=if t'=t then none else e t' q
 |.close t=>∀t' q,G t' q=if t'=t then none else e t' q
 |.map t p m=>∀t' q,G t' q=if t'=t/\q∈Rm.aK p m then some I else e t' q
 |.drop t p m=>∀t' q,G t' q=if t'=t/\q∈Rm.aK p m then none else e t' q
 |.peek _ _ _=>∀t' q,G t' q=e t' q
 |.poke t ad _ cs=>∀t' q,if t'=t/\q∈Rm.ax ad cs.length then ∃k,G t' q=some k/\ok k else G t' q=e t' q
 |.copy t o=>∀t' q,G t' q=if t'=o then e t q else e t' q
def hW (W:di) (t:Int):Bool:=(Tb.look W t).isSome
def eW (W:di) (t q:Int):Option Pg.Ent:=(Tb.look W t).bind λx=>Tb.look x.t q
def hZ (Z:Zs) (t:Int):Bool:=(Tb.look Z t).isSome
def eZ (Z:Zs) (t q:Int):Option Int:=(Tb.look Z t).bind λz=>(Tb.look z.pl q).map (·.2)
structure Tw (W:di) (Z:Zs):Prop where
 h:∀t,hW W t=hZ Z t
 e:∀t q,(eW W t q).map isNone=(eZ Z t q).map λv=>decide (v=0)
theorem map_if {α G:Type}{c:Prop} [Decidable c] {f:α->G}{a b:Option α}:(if c then a else b).map f=if c then a.map f else b.map f:=by split<;>rfl
theorem Tw.next {W W':di}{Z Z':Zs}{D:Dd}(T:Tw W Z) (h1:q8 D (hW W) (hW W')) (h2:q8 D (hZ Z) (hZ Z')) (I:vI none (λx=>∃k,x=some k) D (eW W) (eW W')) (G:vI 0 (λv=>v≠0) D (eZ Z) (eZ Z')):Tw W' Z':=by
 refine⟨λt'=>?_,λt' q=>?_⟩
 .cases D with
  |begin t=>exact(h1 t').trans (by rw[T.h t'];exact(h2 t').symm)
  |close t=>exact(h1 t').trans (by rw[T.h t'];exact(h2 t').symm)
  |copy t o=>exact(h1 t').trans (by rw[T.h t'];exact(h2 t').symm)
  |map t p m=>exact(h1 t').trans ((T.h t').trans (h2 t').symm)
  |drop t p m=>exact(h1 t').trans ((T.h t').trans (h2 t').symm)
  |peek t ad n=>exact(h1 t').trans ((T.h t').trans (h2 t').symm)
  |poke t ad c cs=>exact(h1 t').trans ((T.h t').trans (h2 t').symm)
 .cases D with
  |begin t=>rw[I t' q,G t' q,map_if,map_if,T.e];rfl
  |close t=>rw[I t' q,G t' q,map_if,map_if,T.e];rfl
  |copy t o=>rw[I t' q,G t' q,map_if,map_if,T.e,T.e]
  |map t p m=>rw[I t' q,G t' q,map_if,map_if,T.e];rfl
  |drop t p m=>rw[I t' q,G t' q,map_if,map_if,T.e];rfl
  |peek t ad n=>rw[I t' q,G t' q,T.e]
  |poke t ad c cs =>
   have L:=I t' q;have J:=G t' q;by_cases z:t'=t/\q∈Rm.ax ad cs.length
   .rw[Th z]at L J;obtain⟨k,R,j,rfl⟩:=L;obtain⟨v,O,N⟩:=J;rw[R,O];show some (isNone (some j))=some (decide (v=0));rw[decide_eq_false N];rfl
   .rw[Tg z]at L J;rw[L,J];exact T.e t' q
theorem pZ {W:di}{t:Int}{x y:TD}(h:Tb.look W t=some x) (t':Int):hW (Tb.aY W t y) t'=hW W t':=by
 unfold hW;rw[Tb.bO t' h];by_cases z:t'=t
 .rw[Th z,z,h];rfl
 .rw[Tg z]
theorem rA {W:di}{t:Int}{x y:TD}(h:Tb.look W t=some x) (t' q:Int):eW (Tb.aY W t y) t' q=if t'=t then Tb.look y.t q else eW W t' q:=by
 unfold eW;rw[Tb.bO t' h];by_cases z:t'=t
 .rw[Th z,Th z];rfl
 .rw[Tg z,Tg z]
theorem nc {W:di}{t:Int}{x:TD}(h:Tb.look W t=some x) (q:Int):eW W t q=Tb.look x.t q:=by unfold eW;rw[h];rfl
def Dp (W:di) (tt:Int):Dd->Prop
 |.begin _=>False
 |.close t=>∃x,Tb.look W t=some x
 |.map t p m=>∃x,Tb.look W t=some x/\¬ Rm.cg p m/\(∀q∈Rm.aK p m,Tb.look x.t q=none)/\(ents W).length+m<=tt
 |.drop t p m=>∃x,Tb.look W t=some x/\¬ Rm.cg p m/\∀q∈Rm.aK p m,Tb.look x.t q≠none
 |.peek t ad n=>∃x,Tb.look W t=some x/\¬ Rm.cA ad n (x.t.map (·.1))/\0<=ad/\ad<=1000/\n<=100
 |.poke t ad _ cs=>∃x,Tb.look W t=some x/\¬ Rm.cA ad cs.length (x.t.map (·.1))/\0<=ad/\ad<=1000/\cs.length<=100
 |.copy t o=>∃x,Tb.look W t=some x/\Tb.look W o=none/\(ents W).length+x.t.length<=tt
structure Hv (P:ti) (w:Kl) (K:Kq) (mg:Str->Option Value) (base:Heap) (c:CA):Prop where
 Je:Md P w K mg base aS 3 c.C "begin" (nH c)
 JV:Md P w K mg base aS 6 c.C "close" (mF c)
 JW:Md P w K mg base aS 4 c.C "map" (vF c)
 JG:Md P w K mg base aS 6 c.C "drop" (uI c)
 Kf:Md P w K mg base aS 5 c.C "copy" (qO c)
 Gy:Md P w K mg base aS 8 c.C "peek" (pR c)
 JM:Md P w K mg base aS 10 c.C "poke" (qe K c)
 Dk:Md P w K mg base aS 4 c.C "place" (mh c)
inductive mz (c:CA) (vs:List V) (H:Hp) (Q:VK) (e3:XK):Prop
 |mk (M:Addr->Prop) (a:RA) (s:Pg.PS) (W:di) (cv:Int->Int->List Int) (d:Addr) (D:Dd) (_:vs=[.ref a.rp,.ref d]) (_:aA c H M a s W) (_:Pg.RI s (ents W)) (_:Cv s W cv) (_:W.length<=1000) (_:rP H d D) (_:Dp W (bC s) D) (_:∀(H':Hp) (M':Addr->Prop) (s':Pg.PS) (W':di) (cv':Int->Int->List Int) (v:V),aA c H' M' a s' W'->Pg.RI s' (ents W')->Cv s' W' cv'->Step H M (a.own W) H' M' (a.own W')->(∀b,(s'.ow b).length=(s.ow b).length)->W'.length<=W.length+1->q8 D (hW W) (hW W')->vI none (λx=>∃k,x=some k) D (eW W) (eW W')->Q v H'):mz c vs H Q e3
section
variable {P:ti}{w:Kl}{K:Kq}{mg:Str->Option Value}{base:Heap}
theorem EU:aD ["_law_kept","_law_deed","_law_name","_law_task"] ["_law_kept","_law_deed"] (aw pJ):=L2.bD
theorem yI {f:Addr}{fd:rn}{c:CA}(F:cD K "_law_called" "_law_called" pJ f fd) (T:oV K mg c) (M:Hv P w K mg base c):aZ P w K mg base aS 11 f fd ["_law_kept","_law_deed"] (mz c):=by
 refine F.dg EU (λap A outer s H vs Q E hr h=>?_);obtain⟨MM,a,s',W,cv,d,D,rfl,R,ri,ab,lw,hd,fi,q⟩:=h;refine⟨_,(ag (cK (cZ lH (pv 1) fB (cW ak)) (dS rfl (bo (gG 2 EU.nd) (bo (gG 3 EU.nd) cX))))
  (ag (aU (aE bR (pv 2) aN (aI _)) (ao (aG (pm (pv 0) T.cl M.Je hr az (aa (pv 3) aj)))) aH)
  (ag (aU (aE bR (pv 2) aN (aI _)) (ao (aG (pm (pv 0) T.cl M.JV hr az (aa (pv 3) aj)))) aH)
  (ag (aU (aE bR (pv 2) aN (aI _)) (ao (aG (pm (pv 0) T.cl M.JW hr az (aa (pv 3) (aa (a9 bh (pv 1) ak cq) (aa (a9 bh (pv 1) ak cq) aj)))))) aH)
  (ag (aU (aE bR (pv 2) aN (aI _)) (ao (aG (pm (pv 0) T.cl M.JG hr az (aa (pv 3) (aa (a9 bh (pv 1) ak cq) (aa (a9 bh (pv 1) ak cq) aj)))))) aH)
  (ag (aU (aE bR (pv 2) aN (aI _)) (ao (aG (pm (pv 0) T.cl M.Kf hr az (aa (pv 3) (aa (a9 bh (pv 1) ak cq) aj))))) aH)
  (ag (aU (aE bR (pv 2) aN (aI _)) (ao (aG (pm (pv 0) T.cl M.Gy hr az (aa (pv 3) (aa (a9 bh (pv 1) ak cq) (aa (a9 bh (pv 1) ak cq) aj)))))) aH)
  (ao (aG (pm (pv 0) T.cl M.JM hr az (aa (pv 3) (aa (a9 bh (pv 1) ak cq) (aa (a9 bh (pv 1) ak cq) aj))))))))))))),?_⟩
 refine share (λσ H1=>bg H H1/\σ=[some (.ref a.rp),some (.ref d),some (.str (EB D)),some (.int (Dn D))]) (λu' ac=>?A) ?B
 case A =>
  refine⟨_,rfl,_,rfl,d,_,rfl,bZ.of hd.1,λc=>?_,λ_ p hp=>?_⟩
  .exact⟨d,_,rfl,bZ.of hd.1,by rw[BC c];rfl,by rw[BC c];exact⟨_,_,rfl,_,_,rfl,rfl,ac _ _ ⟨bg.refl H,rfl⟩⟩⟩
  .rw[DM];exact⟨p,_,rfl,bZ.of ae,rfl,_,_,rfl,_,_,rfl,rfl,ac _ _ ⟨Tb.ar hp,rfl⟩⟩
 case B =>
 rintro σ H1 ⟨s1,rfl⟩;have R1:=R.same s1;have S1:=R.iO s1;have S:H1 d=some (.tup (yn D)):=s1 _ _ hd.1;obtain⟨dx,ho⟩:=R1.ob;have no:∀mm:Str,¬ mm = "rooms" -> ¬ mm = "total" -> ¬ mm = "paging" -> (dZ a.A.pg (bC s') a.rd).lookup mm=none:=λmm=>fV _ _ _;have l0:∀{t y},(Tb.aY W t y).length<=W.length+1:=λ{t y}=>(by rw[Tb.ed];omega);cases D with
 |begin t=>exact absurd fi id
 |close t =>
  obtain⟨x,G⟩:=fi;refine jT rfl rfl bP (BL rfl rfl ?_);refine⟨_,rfl,a.rp,dx,_,rfl,ho,no "close" aq aq aq,_,rfl,MM,a,s',W,cv,t,x,rfl,R1,ri,ab,G,λH2 M2 U R2 N L O Y=>q H2 M2 U _ cv _ R2 N L (S1.trans O) Y (Ko (Ng _ _) (Oi _)) ?_ ?_⟩
  .intro t';unfold hW;rw[Tb.cf];by_cases z:t'=t
   .rw[Th z,decide_eq_false (λy=>y z)];rfl
   .rw[Tg z,decide_eq_true z];rfl
  .intro t' q;unfold eW;rw[Tb.cf];by_cases z:t'=t
   .rw[Th z,Th z];rfl
   .rw[Tg z,Tg z]
 |map t p m =>
  obtain⟨x,G,J,f2,f3⟩:=fi;refine jT rfl rfl bP (jT rfl rfl bP ?_);refine BL rfl rfl ?_;refine⟨_,rfl,a.rp,dx,_,rfl,ho,no "map" aq aq aq,_,rfl,_,rfl,d,_,_,.int p,rfl,rfl,bZ.of S,rfl,_,rfl,d,_,_,.int m,rfl,rfl,bZ.of S,rfl,MM,a,s',W,cv,t,p,m,x,rfl,R1,ri,ab,lw,G,J,f2,f3,λH2 M2 y R2 N L hy O=>q H2 M2 s' _ _ _ R2 N L (S1.trans O) (λ_=>rfl) l0 (pZ G) λt' j=>?_⟩;rw[rA G];by_cases z:t'=t
  .rw[Th z,hy j];by_cases I:j∈Rm.aK p m
   .rw[Th I,Th ⟨z,I⟩]
   .rw[Tg I,Tg (λh=>I h.2),z,nc G]
  .rw[Tg z,Tg (λh=>z h.1)]
 |drop t p m =>
  obtain⟨x,G,J,f2⟩:=fi;refine jT rfl rfl bP (jT rfl rfl bP ?_);refine jT rfl rfl bP (BL rfl rfl ?_);refine⟨_,rfl,a.rp,dx,_,rfl,ho,no "drop" aq aq aq,_,rfl,_,rfl,d,_,_,.int p,rfl,rfl,bZ.of S,rfl,_,rfl,d,_,_,.int m,rfl,rfl,bZ.of S,rfl,MM,a,s',W,cv,t,p,m,x,rfl,R1,ri,ab,G,J,f2,λH2 M2 U y R2 N L hy O Y=>q H2 M2 U _ _ _ R2 N L (S1.trans O) Y l0 (pZ G) λt' j=>?_⟩;rw[rA G];by_cases z:t'=t
  .rw[Th z,hy j];by_cases I:j∈Rm.aK p m
   .rw[Th I,Th ⟨z,I⟩]
   .rw[Tg I,Tg (λh=>I h.2),z,nc G]
  .rw[Tg z,Tg (λh=>z h.1)]
 |copy t o =>
  obtain⟨x,G,J,f2⟩:=fi;refine jT rfl rfl bP (jT rfl rfl bP ?_);refine jT rfl rfl bP (jT rfl rfl bP ?_);refine BL rfl rfl ?_;refine⟨_,rfl,a.rp,dx,_,rfl,ho,no "copy" aq aq aq,_,rfl,_,rfl,d,_,_,.int o,rfl,rfl,bZ.of S,rfl,MM,a,s',W,cv,t,o,x,rfl,R1,ri,ab,lw,G,J,f2,λH2 M2 U y hy R2 N L O Y=>q H2 M2 U _ _ _ R2 N L (S1.trans O) Y (by rw[E2];exact sS _) ?_ ?_⟩
  .intro t';unfold hW;rw[Tb.bF t' J];by_cases z:t'=o
   .rw[Th z,decide_eq_true z];rfl
   .rw[Tg z,decide_eq_false z];rfl
  .intro t' j;unfold eW;rw[Tb.bF t' J];by_cases z:t'=o
   .rw[Th z,Th z,G];exact hy j
   .rw[Tg z,Tg z]
 |peek t ad n =>
  obtain⟨x,G,J,f2,f3,f4⟩:=fi;refine jT rfl rfl bP (jT rfl rfl bP ?_);refine jT rfl rfl bP (jT rfl rfl bP ?_);refine jT rfl rfl bP (BL rfl rfl ?_);refine⟨_,rfl,a.rp,dx,_,rfl,ho,no "peek" aq aq aq,_,rfl,_,rfl,d,_,_,.int ad,rfl,rfl,bZ.of S,rfl,_,rfl,d,_,_,.int n,rfl,rfl,bZ.of S,rfl,MM,a,s',W,cv,t,ad,n,x,rfl,R1,ri,ab,G,af,f2,f3,J,λH2 M2 U l R2 N L O Y _ _=>q H2 M2 U _ _ _ R2 N L (S1.trans O) Y (Oi _) (λ_=>rfl) λ_ _=>rfl⟩
 |poke t ad cc cs =>
  obtain⟨x,G,J,f2,f3,f4⟩:=fi;refine jT rfl rfl bP (jT rfl rfl bP ?_);refine jT rfl rfl bP (jT rfl rfl bP ?_);refine jT rfl rfl bP (jT rfl rfl bP ?_);refine⟨_,rfl,a.rp,dx,_,rfl,ho,no "poke" aq aq aq,_,rfl,_,rfl,d,_,_,.int ad,rfl,rfl,bZ.of S,rfl,_,rfl,d,_,_,.ref cc,rfl,rfl,bZ.of S,rfl,MM,a,s',W,cv,t,ad,cc,cs,x,rfl,R1,ri,ab,G,bq.of (s1 _ _ (hd.2 _ _ _ _ rfl)),af,f2,f3,J,λH2 M2 U y R2 N L am ai O Y=>q H2 M2 U _ _ _ R2 N L (S1.trans O) Y l0 (pZ G) λt' j=>?_⟩;rw[rA G];by_cases z:t'=t
  .by_cases I:j∈Rm.ax ad cs.length
   .rw[Th ⟨z,I⟩,Th z];obtain⟨k,hk⟩:=ai j I;exact⟨some k,hk,k,rfl⟩
   .rw[Tg (λh=>I h.2),Th z,am j I,z,nc G]
  .rw[Tg (λh=>z h.1),Tg z]
end
theorem dQ {α:Type}{f:α->V}{H:Hp}{a:Addr}{l:List (Int×α)}{t:Int}{x:α}(h:H a=some (.dK (Tb.dk f l))) (G:Tb.look l t=some x):dC H a (.int t) (some (f x)):=by
 have q:=fO (t:=t) h;rw[G]at q;exact q
section
variable {H H':Hp}{m:MA}{bC pk:Int}{Z:Zs}{t:Int}{z:MT}
theorem cp.alive (M:cp H m bC pk Z):∀b,cM m Z b->(∃xs,H b=some (.lst xs))\/∃kvs,H b=some (.dK kvs):=by
 intro b h;rcases h with h|h|h|⟨x,G,h|h|⟨y,I,h⟩⟩<;>rw[h]
 .exact .inr ⟨_,M.hm⟩
 .exact .inr ⟨_,M.hr⟩
 .exact .inr ⟨_,M.hs⟩
 .exact .inr ⟨_,M.rm x G⟩
 .exact .inr ⟨_,M.st x G⟩
 .obtain⟨ns,h1,_⟩:=M.cl x G y I;exact .inl ⟨_,h1⟩
theorem cp.add (M:cp H m bC pk Z) (hn:Tb.look Z t=none) (o:Off (λb=>b=m.lr\/b=m.ls) H H') (hr:H' m.lr=some (.dK (Tb.dk jb (Z++[(t,z)])))) (hs:H' m.ls=some (.dK (Tb.dk rJ (Z++[(t,z)])))) (h1:H' z.ra=some (.dK (Tb.dk gb z.pl))) (h2:H' z.sa=some (.dK (Tb.dk oi z.pl)))
  (h3:∀y∈z.pl,∃ns:List Int,H' y.2.1=some (.lst (ns.map V.int))/\ns.length=8) (np:(z.pl.map (·.1)).Nodup) (hg:∀y∈z.pl,0<=y.1/\y.1<64) (J:H z.ra=none) (L:H z.sa=none) (U:z.ra≠z.sa):cp H' m bC pk (Z++[(t,z)]):=by
 have Y:∀{b xs},H b=some (.lst xs)->¬ (b=m.lr\/b=m.ls):=λe w=>by
  rcases w with w|w
  .rw[w,M.hr]at e;cases e
  .rw[w,M.hs]at e;cases e
 have N:∀x∈Z,z.ra≠x.2.ra/\z.sa≠x.2.sa/\z.ra≠x.2.sa/\z.sa≠x.2.ra:=λx G=>⟨(λe=>by rw[e,M.rm x G]at J;cases J),(λe=>by rw[e,M.st x G]at L;cases L),(λe=>by rw[e,M.st x G]at J;cases J),(λe=>by rw[e,M.rm x G]at L;cases L)⟩;refine⟨o _ _ M.hm (gh M.n3.1 M.n3.2.1),hr,hs,λx G=>?_,λx G=>?_,λx G y I=>?_,?_,λx G=>?_,λx G=>?_,λx G y I O=>?_,λx G y I=>?_,λx G=>?_,M.n3⟩
 .rcases pa.mp G with G|G
  .exact o _ _ (M.rm x G) (gh (M.d3 x G).2.1 (M.d3 x G).2.2.1)
  .rw[kQ.mp G];exact h1
 .rcases pa.mp G with G|G
  .exact o _ _ (M.st x G) (gh (M.d3 x G).2.2.2.2.1 (M.d3 x G).2.2.2.2.2)
  .rw[kQ.mp G];exact h2
 .rcases pa.mp G with G|G
  .obtain⟨ns,R,S⟩:=M.cl x G y I;exact⟨ns,o _ _ R (Y R),S⟩
  .rw[kQ.mp G]at I;exact h3 y I
 .rw[Kr];exact gy M.nd (Tb.bV hn)
 .rcases pa.mp G with G|G
  .exact M.np x G
  .rw[kQ.mp G];exact np
 .rcases pa.mp G with G|G
  .exact M.rg x G
  .rw[kQ.mp G];exact hg
 .rcases pa.mp G with G|G<;>rcases pa.mp I with I|I
  .exact M.da x G y I O
  .rw[kQ.mp I];exact⟨qw (N x G).1,qw (N x G).2.1⟩
  .rw[kQ.mp G];exact⟨(N y I).1,(N y I).2.1⟩
  .exact absurd (by rw[kQ.mp G,kQ.mp I]) O
 .rcases pa.mp G with G|G<;>rcases pa.mp I with I|I
  .exact M.rs x G y I
  .rw[kQ.mp I];exact qw (N x G).2.2.2
  .rw[kQ.mp G];exact(N y I).2.2.1
  .rw[kQ.mp G,kQ.mp I];exact U
 .rcases pa.mp G with G|G
  .exact M.d3 x G
  .rw[kQ.mp G];exact⟨(λe=>by rw[e,M.hm]at J;cases J),(λe=>by rw[e,M.hr]at J;cases J),(λe=>by rw[e,M.hs]at J;cases J),(λe=>by rw[e,M.hm]at L;cases L),(λe=>by rw[e,M.hr]at L;cases L),(λe=>by rw[e,M.hs]at L;cases L)⟩
theorem cp.del (M:cp H m bC pk Z) (o:Off (λb=>b=m.lr\/b=m.ls) H H') (N:H' m.lr=some (.dK (Tb.dk jb (Tb.a8 Z t)))) (hs:H' m.ls=some (.dK (Tb.dk rJ (Tb.a8 Z t)))):cp H' m bC pk (Tb.a8 Z t):=by
 have O:∀{b xs},H b=some (.lst xs)->¬ (b=m.lr\/b=m.ls):=λe w=>by
  rcases w with w|w
  .rw[w,M.hr]at e;cases e
  .rw[w,M.hs]at e;cases e
 have sub:∀{x},x∈Tb.a8 Z t->x∈Z:=λh=>(Tb.bX h).1;refine⟨o _ _ M.hm (gh M.n3.1 M.n3.2.1),N,hs,λx G=>?_,λx G=>?_,λx G y I=>?_,Tb.nA M.nd,λx G=>M.np x (sub G),λx G=>M.rg x (sub G),λx G y I=>M.da x (sub G) y (sub I),λx G y I=>M.rs x (sub G) y (sub I),λx G=>M.d3 x (sub G),M.n3⟩
 .have G:=sub G;exact o _ _ (M.rm x G) (gh (M.d3 x G).2.1 (M.d3 x G).2.2.1)
 .have G:=sub G;exact o _ _ (M.st x G) (gh (M.d3 x G).2.2.2.2.1 (M.d3 x G).2.2.2.2.2)
 .obtain⟨ns,J,L⟩:=M.cl x (sub G) y I;exact⟨ns,o _ _ J (O J),L⟩
theorem cp.Fg (M:cp H m bC pk Z) (S:Tb.look Z t=some z) {pk':Int}{pl:List (Int×Addr×Int)}(o:Off (λb=>b=m.md\/b=z.ra\/b=z.sa) H H') (hm:H' m.md=some (.dK (nW m.lr m.ls bC pk'))) (h1:H' z.ra=some (.dK (Tb.dk gb pl))) (h2:H' z.sa=some (.dK (Tb.dk oi pl)))
  (h3:∀y∈pl,∃ns:List Int,H' y.2.1=some (.lst (ns.map V.int))/\ns.length=8) (np:(pl.map (·.1)).Nodup) (hg:∀y∈pl,0<=y.1/\y.1<64):cp H' m bC pk' (Tb.aY Z t ⟨z.ra,z.sa,pl⟩):=by
 have I:=Tb.aC S;have nl:∀{b xs},H b=some (.lst xs)->¬ (b=m.md\/b=z.ra\/b=z.sa):=λe w=>by
  rcases w with w|w|w
  .rw[w,M.hm]at e;cases e
  .rw[w,M.rm _ I]at e;cases e
  .rw[w,M.st _ I]at e;cases e
 have O:∀{b},b≠m.md->b≠z.ra->b≠z.sa->¬ (b=m.md\/b=z.ra\/b=z.sa):=λa b c w=>w.elim a λw=>w.elim b c;have N:=M.d3 _ I;refine⟨hm,?_,?_,λx G=>?_,λx G=>?_,λx G y J=>?_,by rw[Tb.fh];exact M.nd,λx G=>?_,λx G=>?_,λx G y J L=>?_,λx G y J=>?_,λx G=>?_,M.n3⟩
 .rw[Tb.qA (f:=jb) (a:=(⟨z.ra,z.sa,pl⟩:MT)) (b:=z) M.nd S rfl];exact o _ _ M.hr (O (qw M.n3.1) (qw N.2.1) (qw N.2.2.2.2.1))
 .rw[Tb.qA (f:=rJ) (a:=(⟨z.ra,z.sa,pl⟩:MT)) (b:=z) M.nd S rfl];exact o _ _ M.hs (O (qw M.n3.2.1) (qw N.2.2.1) (qw N.2.2.2.2.2))
 .rcases Tb.mem_set G with rfl|⟨G,L⟩
  .exact h1
  .exact o _ _ (M.rm x G) (O (M.d3 x G).1 (M.da x G _ I L).1 (M.rs x G _ I))
 .rcases Tb.mem_set G with rfl|⟨G,L⟩
  .exact h2
  .exact o _ _ (M.st x G) (O (M.d3 x G).2.2.2.1 (qw (M.rs _ I x G)) (M.da x G _ I L).2)
 .rcases Tb.mem_set G with rfl|⟨G,L⟩
  .exact h3 y J
  .obtain⟨ns,Y,e2⟩:=M.cl x G y J;exact⟨ns,o _ _ Y (nl Y),e2⟩
 .rcases Tb.mem_set G with rfl|⟨G,L⟩
  .exact np
  .exact M.np x G
 .rcases Tb.mem_set G with rfl|⟨G,L⟩
  .exact hg
  .exact M.rg x G
 .rcases Tb.mem_set G with rfl|⟨G,R⟩<;>rcases Tb.mem_set J with rfl|⟨J,U⟩
  .exact absurd rfl L
  .exact M.da (t,z) I y J (qw U)
  .exact M.da x G (t,z) I R
  .exact M.da x G y J L
 .rcases Tb.mem_set G with rfl|⟨G,R⟩<;>rcases Tb.mem_set J with rfl|⟨J,U⟩
  .exact M.rs (t,z) I (t,z) I
  .exact M.rs (t,z) I y J
  .exact M.rs x G (t,z) I
  .exact M.rs x G y J
 .rcases Tb.mem_set G with rfl|⟨G,R⟩
  .exact N
  .exact M.d3 x G
theorem cp.DA (M:cp H m bC pk Z) {l:Addr}{xs:List V}(J:H l=some (.lst xs)) {ns':List Int}(L:ns'.length=8):cp (upd H l (.lst (ns'.map V.int))) m bC pk Z:=by
 have o:Off (· = l) H (upd H l (.lst (ns'.map V.int))):=Off.wr rfl;have I:∀{b kvs},H b=some (.dK kvs)->¬ b=l:=λe w=>(by rw[w,J]at e;cases e);refine⟨o _ _ M.hm (I M.hm),o _ _ M.hr (I M.hr),o _ _ M.hs (I M.hs),λx G=>o _ _ (M.rm x G) (I (M.rm x G)),λx G=>o _ _ (M.st x G) (I (M.st x G)),λx G y N=>?_,M.nd,M.np,M.rg,M.da,M.rs,M.d3,M.n3⟩;by_cases w:y.2.1=l
 .exact⟨ns',by rw[w,ae],L⟩
 .obtain⟨ns,R,O⟩:=M.cl x G y N;exact⟨ns,o _ _ R w,O⟩
end
section
variable {Z:Zs}{t:Int}{z y:MT}
theorem vy (h:Tb.look Z t=some z) (t':Int):hZ (Tb.aY Z t y) t'=hZ Z t':=by
 unfold hZ;rw[Tb.bO t' h];by_cases c:t'=t
 .rw[Th c,c,h];rfl
 .rw[Tg c]
theorem wd (h:Tb.look Z t=some z) (t' q:Int):eZ (Tb.aY Z t y) t' q=if t'=t then(Tb.look y.pl q).map (·.2)else eZ Z t' q:=by
 unfold eZ;rw[Tb.bO t' h];by_cases c:t'=t
 .rw[Th c,Th c];rfl
 .rw[Tg c,Tg c]
theorem sW (h:Tb.look Z t=some z) (q:Int):eZ Z t q=(Tb.look z.pl q).map (·.2):=by unfold eZ;rw[h];rfl
end
theorem Jv {t u:TS}{D:Ends}{σ:L2.St}{H:Hp}(h:t { D with nx:=u D } σ H):iZ t u D σ H:=h
theorem AX {α:Type}{W:List (Int×α)}{t:Int}{x y:α}:Tb.aY (Tb.aY W t x) t y=Tb.aY W t y:=by
 unfold Tb.aY;rw[Lx];refine LX λz _=>?_;show(if (if z.1=t then(t,x)else z).1=t then(t,y)else(if z.1=t then(t,x)else z))=if z.1=t then(t,y)else z
 by_cases c:z.1=t
 .rw[Th c,Th rfl,Th c]
 .simp only[Tg c]
theorem Bb {α:Type}{W:List (Int×α)}{t:Int}{x y:α}(h:Tb.look W t=some x):Tb.look (Tb.aY W t y) t=some y:=by rw[Tb.bO t h,Th rfl]
theorem Ff {Z:Zs}{t:Int}{z:MT}(G:(Z.map (·.1)).Nodup) (h:Tb.look Z t=some z):Tb.aY Z t ⟨z.ra,z.sa,z.pl⟩=Z:=by
 unfold Tb.aY
 conv=>rhs;rw[<-SY Z]
 refine LX λy I=>?_;show(if y.1=t then(t,(⟨z.ra,z.sa,z.pl⟩:MT))else y)=y;by_cases c:y.1=t
 .have:=Tb.bL G I;rw[c,h]at this;rw[Th c,ro this, <-c]
 .rw[Tg c]
theorem cp.len {H:Hp}{m:MA}{bC pk:Int}{Z:Zs}(M:cp H m bC pk Z) {x:Int×MT}(G:x∈Z):x.2.pl.length<=64:=by
 have:=Tb.BE 64 0 (x.2.pl.map (·.1)) (M.np x G) λq J=>by
  obtain⟨y,I,rfl⟩:=rk.mp J;have:=M.rg x G y I;omega
 rwa [nq]at this
theorem lR {m:MA}{Z:Zs}{t:Int}{z:MT}{pl:List (Int×Addr×Int)}{H:Hp}(N:Tb.look Z t=some z) (h:∀y∈pl,(∃G∈z.pl,y.2.1=G.2.1)\/H y.2.1=none):∀b,cM m (Tb.aY Z t ⟨z.ra,z.sa,pl⟩) b->cM m Z b\/H b=none:=by
 intro b w;have J:=Tb.aC N;rcases w with w|w|w|⟨x,I,w⟩
 .exact .inl (.inl w)
 .exact .inl (.inr (.inl w))
 .exact .inl (.inr (.inr (.inl w)))
 .rcases Tb.mem_set I with rfl|⟨I,_⟩
  .rcases w with w|w|⟨y,L,w⟩
   .exact .inl (.inr (.inr (.inr ⟨_,J,.inl w⟩)))
   .exact .inl (.inr (.inr (.inr ⟨_,J,.inr (.inl w)⟩)))
   .rcases h y L with⟨G,h1,h2⟩|h
    .exact .inl (.inr (.inr (.inr ⟨_,J,.inr (.inr ⟨G,h1,w.trans h2⟩)⟩)))
    .rw[w];exact .inr h
  .exact .inl (.inr (.inr (.inr ⟨x,I,w⟩)))
theorem fJ {ad q:Int}{n:Nat}:q∈Rm.ax ad n↔∃j:Nat,j<n/\(ad+j)/8=q:=by
 unfold Rm.ax;by_cases e:((n:Nat):Int)=0
 .rw[Th e];exact⟨(λh=>nomatch h),(λ⟨j,h,_⟩=>by omega)⟩
 .rw[Tg e];unfold Rm.aK Rm.jK Rm.hV;rw[rk];constructor
  .rintro⟨k,G,rfl⟩;have G:=KZ.mp G;exact⟨(8*(ad/8+k)-ad).toNat,af,af⟩
  .rintro⟨j,I,rfl⟩;exact⟨((ad+j)/8-ad/8).toNat,KZ.mpr af,af⟩
theorem BU (G ls:Addr) (bC pk pk':Int):putK (nW G ls bC pk) (Ku "pokes") (.int pk')=nW G ls bC pk':=by
 unfold putK nW;rw[Th (by simp)];simp only[LU,Rx,Tg IV,Tg IM,Tg Iq,if_true,decide_eq_true_eq]
theorem yD {pl G:List (Int×Addr×Int)}(h:(G.map λy=>(y.1,y.2.1))=pl.map λy=>(y.1,y.2.1)) (q:Int):Tb.look G q=none↔Tb.look pl q=none:=by
 have J:G.map (·.1)=pl.map (·.1):=by
  have:=congrArg (S0 (·.1)) h;rw[Lx,Lx]at this;exact this
 have I:∀{l:List (Int×Addr×Int)},Tb.look l q=none↔¬ q∈l.map (·.1):=λ{l}=>⟨Tb.bV,λh=>by
  cases e:Tb.look l q with
  |none=>rfl
  |some a=>exact absurd (rk.mpr ⟨_,Tb.aC e,rfl⟩) h⟩
 rw[I,I,J]
theorem j7 {α G:Type}(g:α->G) (k:Int):∀l:List (Int×α),Tb.look (l.map λx=>(x.1,g x.2)) k=(Tb.look l k).map g
 | []=>rfl
 |x::l=>by
  rw[LU,Tb.aO,Tb.aO,j7 g k l];by_cases e:x.1=k
  .rw[Th e,Th e];rfl
  .rw[Tg e,Tg e]
theorem lL {α:Type}(f:α->V) (l:List (Int×α)) (o:Int) (a:α):Tb.dk f (l++[(o,a)])=Tb.dk f l++[(vu o,f a)]:=by
 unfold Tb.dk;rw[Kr];rfl
theorem GN {pl G:List (Int×Addr×Int)}(h:(G.map λy=>(y.1,y.2.2))=pl.map λy=>(y.1,y.2.2)):Tb.dk oi G=Tb.dk oi pl:=by
 have e:∀l:List (Int×Addr×Int),Tb.dk oi l=(l.map λy=>(y.1,y.2.2)).map λp=>((vu p.1:Key),V.int p.2):=λl=>by
  unfold Tb.dk;rw[Lx];rfl
 rw[e,e,h]
def tQ (m:MA) (H:Hp) (Z:Zs) (H':Hp) (Z':Zs):Prop:=Off (cM m Z) H H'/\∀b,cM m Z' b->cM m Z b\/H b=none
inductive qo (vs:List V) (H:Hp) (Q:VK) (e3:XK):Prop
 |mk (m:MA) (bC pk:Int) (Z:Zs) (d:Addr) (D:Dd) (_:vs=[.ref m.md,.ref d]) (_:cp H m bC pk Z) (_:0<=pk) (_:Z.length<=1000) (_:rP H d D) (_:CW Z bC D) (_:(∀t ad c cs,D=.poke t ad c cs->¬ cM m Z c/\0<=ad/\ad<=1000/\cs.length<=100)) (_:(∀t ad n,D=.peek t ad n->0<=ad/\ad<=1000/\n<=100)) (_:∀(H':Hp) (pk':Int) (Z':Zs) (v:V),cp H' m bC pk' Z'->0<=pk'->tQ m H Z H' Z'->Z'.length<=Z.length+1->q8 D (hZ Z) (hZ Z')->vI 0 (λv=>v≠0) D (eZ Z) (eZ Z')->Q v H'):qo vs H Q e3
section
variable {P:ti}{w:Kl}{K:Kq}{mg:Str->Option Value}{base:Heap}
theorem kZ:aD ["_law_model_here","_law_deed","_law_rooms","_law_stands","_law_name","_law_task","_law_page","_law_cells_here","_law_k","_law_cell","_law_at"] ["_law_model_here","_law_deed"] (aw AH):=L2.bD
theorem BX {f:Addr}{fd:rn}(F:cD K "_law_done" "_law_done" AH f fd) (T:ke mg):aZ P w K mg base aS 1 f fd ["_law_model_here","_law_deed"] qo:=by
 refine F.dg kZ (λey A outer s H vs Q E hr h=>?_);obtain⟨m,bC,pk,Z,d,D,rfl,M,p0,lz,hd,fi,dl,dj,k⟩:=h;have hs:=BY;refine⟨_,(ag (cK (cO (aa (bt (bf hr) (pv 0) aN cq) (aa (bt (bf hr) (pv 0) aN cq) aj))) (dS rfl (bo (gG 2 kZ.nd) (bo (gG 3 kZ.nd) cX))))
  (ag (cK (cZ lH (pv 1) fB (cW ak)) (dS rfl (bo (gG 4 kZ.nd) (bo (gG 5 kZ.nd) cX))))
  (ag (aU (aE bR (pv 4) aN (aI _)) (ao (cK (cO (aa cY (aa cY aj))) (dS rfl (bo (d0 (pv 2) (pv 5) (set_dict (bf hr))) (bo (d0 (pv 3) (pv 5) (set_dict (bf hr))) cX))))) (ao (aU (aE bR (pv 4) aN (aI _)) (ag (aL (eu (pv 2) (pv 5) ⟨rfl,rfl,rfl,rfl⟩))
  (ao (aL (eu (pv 3) (pv 5) ⟨rfl,rfl,rfl,rfl⟩)))) (ao (aU (aE bR (pv 4) aN (aI _)) (ao (cL Kt rfl (dH (by rfl) T.range (aa (a9 bh (pv 1) ak cq) (aa (ay aV (a9 bh (pv 1) ak cq) (a9 bh (pv 1) ak cq)) aj))) (gG 6 kZ.nd) (ao (cK (cO (aa (ay ff (bN (aa ak aj)) ak) (aa ak aj))) (dS rfl (bo (d0 (bt (bf hr) (pv 2) (pv 5) cq) (pv 6) (set_dict (bf hr))) (bo (d0 (bt (bf hr) (pv 3) (pv 5) cq) (pv 6) (set_dict (bf hr))) cX))))))) (ao (aU (aE bR (pv 4) aN (aI _)) (ao (cL Kt rfl (dH (by rfl) T.range (aa (a9 bh (pv 1) ak cq) (aa (ay aV (a9 bh (pv 1) ak cq) (a9 bh (pv 1) ak cq)) aj))) (gG 6 kZ.nd) (ag (aL (eu (bt (bf hr) (pv 2) (pv 5) cq) (pv 6) ⟨rfl,rfl,rfl,rfl⟩))
  (ao (aL (eu (bt (bf hr) (pv 3) (pv 5) cq) (pv 6) ⟨rfl,rfl,rfl,rfl⟩)))))) (ao (aU (aE bR (pv 4) aN (aI _)) (ag (cK (bG vo (by rfl) T.dict pO (aa (bt (bf hr) (pv 3) (pv 5) cq) aj)) (d0 (pv 3) (a9 bh (pv 1) ak cq) (set_dict (bf hr))))
  (ag (cK cY (d0 (pv 2) (a9 bh (pv 1) ak cq) (set_dict (bf hr))))
  (ao (xD (cL Kt rfl (AA (bt (bf hr) (pv 2) (pv 5) cq)) (dS rfl (bo (gG 6 kZ.nd) (bo (gG 7 kZ.nd) cX))) (ao (cK (bG cB (by rfl) T.list dv (aa (pv 7) aj)) (d0 (bt (bf hr) (pv 2) (a9 bh (pv 1) ak cq) cq) (pv 6) (set_dict (bf hr)))))))))) (ao (aU (aE bR (pv 4) aN (aI _)) (ao (aG (gD (cl:=[("_law_task",s.heap.objs.size+2),("_law_rooms",s.heap.objs.size+1)]) (caps:=[("_law_rooms",2),("_law_task",5)]) ⟨rfl,aq,aq,rfl,by kernel_rfl,by intro p hp;simp only[E3,Km,or_false]at hp;rcases hp with rfl|rfl<;>first|rfl|exact⟨rfl,.inl rfl,.inl rfl⟩|exact⟨rfl,.inl rfl,.inr rfl⟩,by kernel_rfl,by intro p hp;simp only[E3,Km,or_false]at hp;rcases hp with rfl|rfl<;>first|rfl|exact⟨rfl,.inl rfl,.inl rfl⟩|exact⟨rfl,.inl rfl,.inr rfl⟩,aq⟩ rfl (dH (by rfl) T.range (aa (a9 bh (pv 1) ak cq) (aa (ay aV (a9 bh (pv 1) ak cq) (a9 bh (pv 1) ak cq)) aj))) (λ_ _ _ _=>fj) (λ_ _ _ _=>(a9 (show Ig _ (Cw K)from cz) (bt (bf hr) (bt (bf hr) (pv 1) (pv 2) cq) (ay bB (pv 0) ak) cq) (ay bu (pv 0) ak) cq))))) (ao (cL Kt rfl (wG (by rfl) T.enumerate (aa (a9 bh (pv 1) ak cq) aj)) (dS rfl (bo (gG 8 kZ.nd) (bo (gG 9 kZ.nd) cX))) (ag (dA 10 kZ.nd (ay aV (a9 bh (pv 1) ak cq) (pv 8)))
  (ag (cK (pv 9) (d0 (bt (bf hr) (bt (bf hr) (pv 2) (pv 5) cq) (ay bB (pv 10) ak) cq) (ay bu (pv 10) ak) set_list))
  (ao (aU (PW.pt (gL (aE bR (pv 8) ak (aI _)) (fK (aE bR (ay bu (pv 10) ak) ak (aI _))))) (ag (cK (ay aV (bt (bf hr) (pv 0) aN cq) ak) (d0 (pv 0) aN (set_dict (bf hr))))
  (ao (cK (bt (bf hr) (pv 0) aN cq) (d0 (bt (bf hr) (pv 3) (pv 5) cq) (ay bB (pv 10) ak) (set_dict (bf hr)))))) aH)))))))))))))))))
  (ao (aG qN))))),?_⟩
 refine share (λσ H1=>bg H H1/\σ=[some (.ref m.md),some (.ref d),some (.ref m.lr),some (.ref m.ls),none,none,none,none,none,none,none]) (λu' am=>?A) ?B
 case A =>
  refine⟨_,rfl,m.md,.ref m.lr,rfl,M.g (xO _ _ _ _),_,rfl,m.md,.ref m.ls,rfl,M.g (Iu _ _ _ _),fE,λtp bi=>?_⟩;exact⟨tp,_,rfl,bZ.of ae,rfl,_,_,rfl,_,_,rfl,rfl,am _ _ ⟨Tb.ar bi,rfl⟩⟩
 case B =>
 rintro σ H0 ⟨s0,rfl⟩;have cS:H0 d=some (.tup (yn D)):=s0 _ _ hd.1;refine share (λσ H1=>bg H H1/\σ=[some (.ref m.md),some (.ref d),some (.ref m.lr),some (.ref m.ls),some (.str (EB D)),some (.int (Dn D)),none,none,none,none,none]) (λu' am=>?A2) ?B2
 case A2 =>
  refine⟨_,rfl,_,rfl,d,_,rfl,bZ.of cS,λc=>?_,λ_ p hp=>?_⟩
  .exact⟨d,_,rfl,bZ.of cS,by rw[BC c];rfl,by rw[BC c];exact⟨_,_,rfl,_,_,rfl,rfl,am _ _ ⟨s0,rfl⟩⟩⟩
  .rw[DM];exact⟨p,_,rfl,bZ.of ae,rfl,_,_,rfl,_,_,rfl,rfl,am _ _ ⟨s0.trans (Tb.ar hp),rfl⟩⟩
 case B2 =>
 rintro σ H1 ⟨s1,rfl⟩;have M1:=M.same s1;have ac:H1 d=some (.tup (yn D)):=s1 _ _ hd.1;refine share (λσ H2=>y7 λ(pk':Int) (Z':Zs)=>yk (cp H2 m bC pk' Z') (0<=pk') (tQ m H Z H2 Z') (Z'.length<=Z.length+1) (q8 D (hZ Z) (hZ Z')) (vI 0 (λv=>v≠0) D (eZ Z) (eZ Z'))) (λu' am=>?A3) ?B3
 case B3 =>
  rintro σ H2 ⟨pk',Z',a1,a2,a3,a4,a5,a6⟩;exact k H2 pk' Z' .non a1 a2 a3 a4 a5 a6
 case A3 =>
 refine Jv ?_;dsimp only;have zo:∀{b},H b=none->H1 b=none->True:=λ_ _=>trivial;cases D with
 |begin t =>
  refine Fs rfl rfl ?_;have fi:Tb.look Z t=none:=fi;intro I h1 J h2;have a7:J≠I:=λe=>(by rw[e,ae]at h2;cases h2);have db:H1 J=none:=(by rw[ah a7]at h2;exact h2);have sA:=(Tb.ar (X:=.dK []) h1).trans (Tb.ar (X:=.dK []) h2);have e1:upd (upd H1 I (.dK [])) J (.dK []) I=some (.dK []):=(by rw[ah (qw a7),ae]);have e2:upd (upd H1 I (.dK [])) J (.dK []) J=some (.dK []):=ae;generalize upd (upd H1 I (.dK [])) J (.dK [])=H2 at *;refine⟨fE,λtp bi=>?_⟩;have sB:=Tb.ar (X:=.tup [.ref I,.ref J]) bi;refine⟨tp,_,rfl,bZ.of ae,rfl,_,_,rfl,?_⟩;have M3:=(M1.same sA).same sB;have e1:=sB _ _ e1;have e2:=sB _ _ e2;have S3:=s1.trans (sA.trans sB);generalize upd H2 tp (.tup [.ref I,.ref J])=H3 at *;refine⟨_,rfl,_,rfl,m.lr,_,rfl,fX.k (k:=vu t) M3.hr (by rw[Tb.cu];omega),?_⟩;rw[show(V.ref I)=jb ⟨I,J,[]⟩from rfl,Tb.cw (f:=jb) fi];refine⟨_,_,rfl,_,rfl,_,rfl,m.ls,_,rfl,fX.k (k:=vu t) (by rw[ah (qw M3.n3.2.2)];exact M3.hs) (by rw[Tb.cu];omega),rfl,?_⟩;rw[show(V.ref J)=rJ ⟨I,J,[]⟩from rfl,Tb.cw (f:=rJ) fi];have oC:Off (λb=>b=m.lr\/b=m.ls) H3 (upd (upd H3 m.lr (.dK (Tb.dk jb (Z++[(t,⟨I,J,[]⟩)])))) m.ls (.dK (Tb.dk rJ (Z++[(t,⟨I,J,[]⟩)])))):=λb o e w=>(by rw[ah (λy=>w (.inr y)),ah (λy=>w (.inl y))];exact e);have bz:∀{b},H b=none->b≠m.lr/\b≠m.ls:=λh=>⟨(λe=>by rw[e,M.hr]at h;cases h),(λe=>by rw[e,M.hs]at h;cases h)⟩;have f1:H I=none:=s1.free h1;have f2:H J=none:=s1.free db;have U:cp (upd (upd H3 m.lr (.dK (Tb.dk jb (Z++[(t,⟨I,J,[]⟩)])))) m.ls (.dK (Tb.dk rJ (Z++[(t,⟨I,J,[]⟩)])))) m bC pk (Z++[(t,⟨I,J,[]⟩)]):=
   M.add fi (λb o e w=>oC b o (S3 b o e) w) (by rw[ah M.n3.2.2,ae]) ae (oC _ _ e1 λw=>w.elim (bz f1).1 (bz f1).2) (oC _ _ e2 λw=>w.elim (bz f2).1 (bz f2).2) (λy G=>by cases G) Ms (λy G=>by cases G) f1 f2 (qw a7)
  refine am _ _ ⟨pk,_,U,p0,⟨λb o e w=>oC b o (S3 b o e) λy=>w (y.elim (λy=>.inr (.inl y)) λy=>.inr (.inr (.inl y))),λb w=>?_⟩,by rw[E2];exact sS _,λt'=>?_,λt' q=>?_⟩
  .rcases w with w|w|w|⟨x,hx,w⟩
   .exact .inl (.inl w)
   .exact .inl (.inr (.inl w))
   .exact .inl (.inr (.inr (.inl w)))
   .rcases pa.mp hx with hx|hx
    .exact .inl (.inr (.inr (.inr ⟨x,hx,w⟩)))
    .rw[kQ.mp hx]at w;rcases w with w|w|⟨y,G,_⟩
     .rw[w];exact .inr f1
     .rw[w];exact .inr f2
     .cases G
  .unfold hZ;rw[Tb.bF t' fi];by_cases c:t'=t
   .rw[Th c,decide_eq_true c];rfl
   .rw[Tg c,decide_eq_false c];rfl
  .unfold eZ;rw[Tb.bF t' fi];by_cases c:t'=t
   .rw[Th c,Th c];rfl
   .rw[Tg c,Tg c]
 |close t =>
  refine ox rfl rfl bP (Fs rfl rfl ?_);obtain⟨z,N⟩:=fi;refine⟨_,rfl,m.lr,rfl,.inl ⟨_,.inl M1.hr⟩,_,rfl,_,vu t,jb z,M1.hr,rfl,by rw[Tb.cI,N];rfl,?_⟩;rw[Tb.eE];refine⟨_,rfl,m.ls,rfl,.inl ⟨_,.inl (by rw[ah (qw M1.n3.2.2)];exact M1.hs)⟩,_,rfl,_,vu t,rJ z,by rw[ah (qw M1.n3.2.2)];exact M1.hs,rfl,by rw[Tb.cI,N];rfl,?_⟩;rw[Tb.eE];have oC:Off (λb=>b=m.lr\/b=m.ls) H1 (upd (upd H1 m.lr (.dK (Tb.dk jb (Tb.a8 Z t)))) m.ls (.dK (Tb.dk rJ (Tb.a8 Z t)))):=λb o e w=>(by rw[ah (λy=>w (.inr y)),ah (λy=>w (.inl y))];exact e);have U:=M1.del (t:=t) oC (by rw[ah M.n3.2.2,ae]) ae;refine am _ _ ⟨pk,_,U,p0,⟨λb o e w=>oC b o (s1 b o e) λy=>w (y.elim (λy=>.inr (.inl y)) λy=>.inr (.inr (.inl y))),λb w=>.inl ?_⟩,Ko (Ng _ _) (Oi _),λt'=>?_,λt' q=>?_⟩
  .rcases w with w|w|w|⟨x,hx,w⟩
   .exact .inl w
   .exact .inr (.inl w)
   .exact .inr (.inr (.inl w))
   .exact .inr (.inr (.inr ⟨x,(Tb.bX hx).1,w⟩))
  .unfold hZ;rw[Tb.cf];by_cases c:t'=t
   .rw[Th c,decide_eq_false (λy=>y c)];rfl
   .rw[Tg c,decide_eq_true c];rfl
  .unfold eZ;rw[Tb.cf];by_cases c:t'=t
   .rw[Th c,Th c];rfl
   .rw[Tg c,Tg c]
 |map t p mm =>
  refine ox rfl rfl bP (ox rfl rfl bP ?_);refine Fs rfl rfl ?_;obtain⟨z,N,ba,et,_⟩:=fi;have L:=Tb.aC N;have b1:¬ mm<1:=λw=>ba (.inl w);have b2:¬ p<0:=λw=>ba (.inr (.inl w));have b3:¬ 64<p+mm:=λw=>ba (.inr (.inr w));refine⟨_,rfl,d,_,_,.int p,rfl,rfl,bZ.of ac,rfl,_,rfl,d,_,_,.int p,rfl,rfl,bZ.of ac,rfl,_,rfl,d,_,_,.int mm,rfl,rfl,bZ.of ac,rfl,_,_,rfl,rfl,_,_,rfl,⟨af,af,af,af⟩,?_⟩;refine eY (lo:=p) (n:=(p+mm-p).toNat) (λi σ H2=>y7 λ(v6:Option V) (pl:List (Int×Addr×Int))=>yk (σ=[some (.ref m.md),some (.ref d),some (.ref m.lr),some (.ref m.ls),some (.str "map"),some (.int t),v6,none,none,none,none]) (cp H2 m bC pk (Tb.aY Z t ⟨z.ra,z.sa,pl⟩)) ((∀q,(Tb.look pl q).map (·.2)=if p<=q/\q<p+(i:Int)then some 0 else(Tb.look z.pl q).map (·.2))) ((∀y∈pl,y∈z.pl\/H y.2.1=none)) (Off (cM m Z) H H2) (∀b,H2 b=none->H b=none)) ⟨_,z.pl,rfl,by rw[Ff M.nd N];exact M1,λq=>by rw[Tg af],λy G=>.inl G,λb o e _=>s1 b o e,λb e=>s1.free e⟩ ?_ ?_
  .rintro i σ H2 hi ⟨v6,pl,rfl,M2,ab,bb,o2,bI⟩;have ai:=Bb (y:=(⟨z.ra,z.sa,pl⟩:MT)) N;have R:=Tb.aC ai;have b5:p+(i:Int)∈Rm.aK p mm:=by
    unfold Rm.aK;exact rk.mpr ⟨i,KZ.mpr af,rfl⟩
   have bx:Tb.look pl (p+(i:Int))=none:=by
    have:=ab (p+(i:Int));rw[Tg af,et _ b5]at this;exact NM.mp this
   have b6:=M2.len R;refine⟨av,λl1 cC=>?_⟩;refine⟨l1,8,_,rfl,rfl,ae,af,af,by rw[Lr];omega,λl2 b0=>?_⟩;have sA:=(Tb.ar (X:=.lst [V.int 0]) cC).trans (Tb.ar (X:=.lst ((replicate (8:Int).toNat [V.int 0]).flatten)) b0);have f2:H2 l2=none:=(Tb.ar (X:=.lst [V.int 0]) cC).free b0;have e2:upd (upd H2 l1 (.lst [V.int 0])) l2 (.lst ((replicate (8:Int).toNat [V.int 0]).flatten)) l2=some (.lst ((replicate 8 (0:Int)).map V.int)):=ae;generalize upd (upd H2 l1 (.lst [V.int 0])) l2 (.lst ((replicate (8:Int).toNat [V.int 0]).flatten))=H3 at *;refine⟨fE,λtp bi=>?_⟩;have sB:=Tb.ar (X:=.tup [.ref l2,.int 0]) bi;refine⟨tp,_,rfl,bZ.of ae,rfl,_,_,rfl,?_⟩;have U:=(M2.same sA).same sB;have S4:=sA.trans sB;have e4:=sB _ _ e2;generalize upd H3 tp (.tup [.ref l2,.int 0])=H4 at *;refine⟨_,rfl,_,rfl,m.lr,_,rfl,dQ U.hr ai,_,rfl,z.ra,_,rfl,fX.k (k:=vu (p+(i:Int))) (U.rm _ R) (by rw[Tb.cu];have:pl.length<=64:=b6;show pl.length<_;omega),?_⟩;have e5:putK (Tb.dk gb pl) (vu (p+(i:Int))) (.ref l2)=Tb.dk gb (pl++[(p+(i:Int),(l2,0))]):=Tb.cw (f:=gb) (a:=(l2,0)) bx;have e6:putK (Tb.dk oi pl) (vu (p+(i:Int))) (.int 0)=Tb.dk oi (pl++[(p+(i:Int),(l2,0))]):=Tb.cw (f:=oi) (a:=(l2,0)) bx;have dz:=M.d3 _ L;have as:=M.rs _ L _ L;show z7 _ _ _ _ (upd H4 z.ra (.dK (putK (Tb.dk gb pl) (vu (p+(i:Int))) (.ref l2)))) _;rw[e5];have o5:Off (· = z.ra) H4 (upd H4 z.ra (.dK (Tb.dk gb (pl++[(p+(i:Int),(l2,0))])))):=Off.wr rfl;refine⟨_,_,rfl,_,rfl,_,rfl,m.ls,_,rfl,dQ (o5 _ _ U.hs (qw dz.2.2.1)) ai,_,rfl,z.sa,_,rfl,fX.k (k:=vu (p+(i:Int))) (o5 _ _ (U.st _ R) (qw as)) (by rw[Tb.cu];have:pl.length<=64:=b6;show pl.length<_;omega),rfl,?_⟩;have o6:Off (λb=>b=m.md\/b=z.ra\/b=z.sa) H4 (upd (upd H4 z.ra (.dK (Tb.dk gb (pl++[(p+(i:Int),(l2,0))])))) z.sa (.dK (putK (Tb.dk oi pl) (vu (p+(i:Int))) (.int 0)))):=λb o e w=>(by rw[ah (λy=>w (.inr (.inr y))),ah (λy=>w (.inr (.inl y)))];exact e);have M7:=U.Fg (pk':=pk) (pl:=pl++[(p+(i:Int),(l2,0))]) ai o6 (by rw[ah (qw dz.2.2.2.1),ah (qw dz.1)];exact U.hm) (by show upd _ z.sa _ z.ra=_;rw[ah as,ae]) (by show upd _ z.sa _ z.sa=_;rw[ae,e6]) (λy G=>by
     rcases pa.mp G with G|G
     .obtain⟨ns,O,S⟩:=U.cl _ R y G;exact⟨ns,o6 _ _ O (λw=>by
       rcases w with w|w|w
       .rw[w,U.hm]at O;cases O
       .rw[w,U.rm _ R]at O;cases O
       .rw[w,U.st _ R]at O;cases O),S⟩
     .rw[kQ.mp G];exact⟨replicate 8 0,o6 _ _ e4 (λw=>by
       have w:l2=m.md\/l2=z.ra\/l2=z.sa:=w;rcases w with w|w|w
       .rw[w,U.hm]at e4;cases e4
       .rw[w,U.rm _ R]at e4;cases e4
       .rw[w,U.st _ R]at e4;cases e4),by simp⟩) (by rw[Kr];exact gy (M2.np _ R) (Tb.bV bx)) (λy G=>by
     rcases pa.mp G with G|G
     .exact M2.rg _ R y G
     .rw[kQ.mp G];show 0<=p+(i:Int)/\p+(i:Int)<64;omega)
   rw[AX]at M7;refine⟨_,pl++[(p+(i:Int),(l2,0))],rfl,M7,λq=>?_,λy G=>?_,λb o e w=>o6 b o (S4 b o (o2 b o e w)) λy=>w ?_,λb e=>bI b (S4.free (cy (cy e).2).2)⟩
   .rw[Tb.bF q bx];by_cases c:q=p+(i:Int)
    .rw[Th c,Th (by rw[c];omega)];rfl
    .rw[Tg c,ab q];by_cases S:p<=q/\q<p+(i:Int)
     .rw[Th S,Th af]
     .rw[Tg S,Tg af]
   .rcases pa.mp G with G|G
    .exact bb y G
    .rw[kQ.mp G];exact .inr (bI l2 f2)
   .rcases y with y|y|y
    .exact .inl y
    .exact .inr (.inr (.inr ⟨_,L,.inl y⟩))
    .exact .inr (.inr (.inr ⟨_,L,.inr (.inl y)⟩))
  .rintro σ H2 ⟨v6,pl,rfl,M2,ab,bb,o2,bI⟩;refine am _ _ ⟨pk,_,M2,p0,⟨o2,lR N λy G=>(bb y G).imp (λh=>⟨y,h,rfl⟩) id⟩,by rw[Tb.ed];omega,vy N,λt' q=>?_⟩;rw[wd N];have be:q∈Rm.aK p mm↔(p<=q/\q<p+((p+mm-p).toNat:Int)):=by
    unfold Rm.aK;rw[rk];constructor
    .rintro⟨j,hj,rfl⟩;have:=KZ.mp hj;omega
    .intro h;exact⟨(q-p).toNat,KZ.mpr af,af⟩
   by_cases c:t'=t
   .rw[Th c,ab q];by_cases S:q∈Rm.aK p mm
    .rw[Th (be.mp S),Th ⟨c,S⟩]
    .rw[Tg (λh=>S (be.mpr h)),Tg (λh=>S h.2),c,sW N]
   .rw[Tg c,Tg (λh=>c h.1)]
 |drop t p mm =>
  refine ox rfl rfl bP (ox rfl rfl bP ?_);refine ox rfl rfl bP (Fs rfl rfl ?_);obtain⟨z,N,ba,ea⟩:=fi;have L:=Tb.aC N;have b1:¬ mm<1:=λw=>ba (.inl w);have b2:¬ p<0:=λw=>ba (.inr (.inl w));have b3:¬ 64<p+mm:=λw=>ba (.inr (.inr w));refine⟨_,rfl,d,_,_,.int p,rfl,rfl,bZ.of ac,rfl,_,rfl,d,_,_,.int p,rfl,rfl,bZ.of ac,rfl,_,rfl,d,_,_,.int mm,rfl,rfl,bZ.of ac,rfl,_,_,rfl,rfl,_,_,rfl,⟨af,af,af,af⟩,?_⟩;refine eY (lo:=p) (n:=(p+mm-p).toNat) (λi σ H2=>y7 λ(v6:Option V) (pl:List (Int×Addr×Int))=>yk (σ=[some (.ref m.md),some (.ref d),some (.ref m.lr),some (.ref m.ls),some (.str "drop"),some (.int t),v6,none,none,none,none]) (cp H2 m bC pk (Tb.aY Z t ⟨z.ra,z.sa,pl⟩)) ((∀q,(Tb.look pl q).map (·.2)=if p<=q/\q<p+(i:Int)then none else(Tb.look z.pl q).map (·.2))) ((∀y∈pl,y∈z.pl\/H y.2.1=none)) (Off (cM m Z) H H2) True) ⟨_,z.pl,rfl,by rw[Ff M.nd N];exact M1,λq=>by rw[Tg af],λy G=>.inl G,λb o e _=>s1 b o e,trivial⟩ ?_ ?_
  .rintro i σ H2 hi ⟨v6,pl,rfl,M2,ab,bb,o2,_⟩;have ai:=Bb (y:=(⟨z.ra,z.sa,pl⟩:MT)) N;have R:=Tb.aC ai;have b5:p+(i:Int)∈Rm.aK p mm:=by
    unfold Rm.aK;exact rk.mpr ⟨i,KZ.mpr af,rfl⟩
   obtain⟨y,G⟩:∃y,Tb.look pl (p+(i:Int))=some y:=by
    have h1:=ab (p+(i:Int));rw[Tg af]at h1;cases e:Tb.look pl (p+(i:Int))with
    |some y=>exact⟨y,rfl⟩
    |none =>
     rw[e]at h1;exact absurd (NM.mp h1.symm) (ea _ b5)
   have dz:=M.d3 _ L;have as:=M.rs _ L _ L;refine⟨_,rfl,_,rfl,m.lr,_,rfl,dQ M2.hr ai,z.ra,rfl,.inl ⟨_,.inl (M2.rm _ R)⟩,_,rfl,_,vu (p+(i:Int)),gb y,M2.rm _ R,rfl,by rw[Tb.cI,G];rfl,?_⟩;rw[Tb.eE];have o5:Off (· = z.ra) H2 (upd H2 z.ra (.dK (Tb.dk gb (Tb.a8 pl (p+(i:Int)))))):=Off.wr rfl;have h5:=o5 _ _ (M2.st _ R) (qw as);refine⟨_,rfl,_,rfl,m.ls,_,rfl,dQ (o5 _ _ M2.hs (qw dz.2.2.1)) ai,z.sa,rfl,.inl ⟨_,.inl h5⟩,_,rfl,_,vu (p+(i:Int)),oi y,h5,rfl,by rw[Tb.cI,G];rfl,?_⟩;rw[Tb.eE];have o6:Off (λb=>b=m.md\/b=z.ra\/b=z.sa) H2 (upd (upd H2 z.ra (.dK (Tb.dk gb (Tb.a8 pl (p+(i:Int)))))) z.sa (.dK (Tb.dk oi (Tb.a8 pl (p+(i:Int)))))):=λb o e w=>(by rw[ah (λy=>w (.inr (.inr y))),ah (λy=>w (.inr (.inl y)))];exact e);have M7:=M2.Fg (pk':=pk) (pl:=Tb.a8 pl (p+(i:Int))) ai o6 (by rw[ah (qw dz.2.2.2.1),ah (qw dz.1)];exact M2.hm) (by show upd _ z.sa _ z.ra=_;rw[ah as,ae]) (by show upd _ z.sa _ z.sa=_;rw[ae]) (λy G=>by
     obtain⟨ns,O,S⟩:=M2.cl _ R y (Tb.bX G).1;exact⟨ns,o6 _ _ O (λw=>by
       rcases w with w|w|w
       .rw[w,M2.hm]at O;cases O
       .rw[w,M2.rm _ R]at O;cases O
       .rw[w,M2.st _ R]at O;cases O),S⟩) (Tb.nA (M2.np _ R)) (λy G=>M2.rg _ R y (Tb.bX G).1)
   rw[AX]at M7;refine⟨_,Tb.a8 pl (p+(i:Int)),rfl,M7,λq=>?_,λy G=>bb y (Tb.bX G).1,λb o e w=>o6 b o (o2 b o e w) λy=>w ?_,trivial⟩
   .rw[Tb.cf];by_cases c:q=p+(i:Int)
    .rw[Th c,Th (by rw[c];omega)];rfl
    .rw[Tg c,ab q];by_cases S:p<=q/\q<p+(i:Int)
     .rw[Th S,Th af]
     .rw[Tg S,Tg af]
   .rcases y with y|y|y
    .exact .inl y
    .exact .inr (.inr (.inr ⟨_,L,.inl y⟩))
    .exact .inr (.inr (.inr ⟨_,L,.inr (.inl y)⟩))
  .rintro σ H2 ⟨v6,pl,rfl,M2,ab,bb,o2,bI⟩;refine am _ _ ⟨pk,_,M2,p0,⟨o2,lR N λy G=>(bb y G).imp (λh=>⟨y,h,rfl⟩) id⟩,by rw[Tb.ed];omega,vy N,λt' q=>?_⟩;rw[wd N];have be:q∈Rm.aK p mm↔(p<=q/\q<p+((p+mm-p).toNat:Int)):=by
    unfold Rm.aK;rw[rk];constructor
    .rintro⟨j,hj,rfl⟩;have:=KZ.mp hj;omega
    .intro h;exact⟨(q-p).toNat,KZ.mpr af,af⟩
   by_cases c:t'=t
   .rw[Th c,ab q];by_cases S:q∈Rm.aK p mm
    .rw[Th (be.mp S),Th ⟨c,S⟩]
    .rw[Tg (λh=>S (be.mpr h)),Tg (λh=>S h.2),c,sW N]
   .rw[Tg c,Tg (λh=>c h.1)]
 |copy t o =>
  refine ox rfl rfl bP (ox rfl rfl bP ?_);refine ox rfl rfl bP (ox rfl rfl bP ?_);refine Fs rfl rfl ?_;obtain⟨z,N,eo,_⟩:=fi;have L:=Tb.aC N;have dz:=M.d3 _ L;have as:=M.rs _ L _ L;have dO:t≠o:=λe=>(by rw[e,eo]at N;cases N);refine⟨_,rfl,_,rfl,m.ls,_,rfl,dQ M1.hs N,z.sa,_,rfl,M1.st _ L,λJ h2=>?_⟩;have f2:H J=none:=s1.free h2;have sA:=Tb.ar (X:=.dK (Tb.dk oi z.pl)) h2;have e2:upd H1 J (.dK (Tb.dk oi z.pl)) J=some (.dK (Tb.dk oi z.pl)):=ae;have M2:=M1.same sA;have S2:=s1.trans sA;have dy:=sA _ _ ac;generalize upd H1 J (.dK (Tb.dk oi z.pl))=H2 at *;refine⟨_,rfl,_,rfl,d,_,_,.int o,rfl,rfl,bZ.of dy,rfl,m.ls,_,rfl,fX.k (k:=vu o) M2.hs (by rw[Tb.cu];omega),?_⟩;rw[show(V.ref J)=rJ ⟨J,J,[]⟩from rfl,Tb.cw (f:=rJ) eo,lL];show iZ _ _ _ _ (upd H2 m.ls (.dK (Tb.dk rJ Z++[(vu o,V.ref J)])));have o3:Off (· = m.ls) H2 (upd H2 m.ls (.dK (Tb.dk rJ Z++[(vu o,V.ref J)]))):=Off.wr rfl;have c9:upd H2 m.ls (.dK (Tb.dk rJ Z++[(vu o,V.ref J)])) m.ls=some (.dK (Tb.dk rJ Z++[(vu o,V.ref J)])):=ae;generalize upd H2 m.ls (.dK (Tb.dk rJ Z++[(vu o,V.ref J)]))=H3 at *;have cP:J≠m.ls:=λe=>(by rw[e,M.hs]at f2;cases f2);have eq:J≠m.lr:=λe=>(by rw[e,M.hr]at f2;cases f2);have ec:∀{b kvs},H b=some (.dK kvs)->b≠m.ls->H3 b=some (.dK kvs):=λe n=>o3 _ _ (S2 _ _ e) n;have d4:∀{b xs},H b=some (.tup xs)->H3 b=some (.tup xs):=λe=>o3 _ _ (S2 _ _ e) (λw=>by rw[w,M.hs]at e;cases e);have eC:∀{b xs},H b=some (.lst xs)->H3 b=some (.lst xs):=λe=>o3 _ _ (S2 _ _ e) (λw=>by rw[w,M.hs]at e;cases e);intro I h1;have f1:H I=none:=by
   cases e:H I with
   |none=>rfl
   |some u =>
    by_cases w:I=m.ls
    .rw[w,c9]at h1;cases h1
    .rw[o3 _ _ (S2 _ _ e) w]at h1;cases h1
  have a7:I≠J:=λe=>(by rw[e,o3 _ _ e2 cP]at h1;cases h1);have bn:I≠m.lr:=λe=>(by rw[e,M.hr]at f1;cases f1);have cT:I≠m.ls:=λe=>(by rw[e,M.hs]at f1;cases f1);have ei:upd H3 I (.dK []) m.lr=some (.dK (Tb.dk jb Z)):=(by rw[ah (qw bn)];exact ec M.hr M.n3.2.2);refine⟨_,rfl,_,rfl,d,_,_,.int o,rfl,rfl,bZ.of (Tb.ar h1 _ _ (d4 hd.1)),rfl,m.lr,_,rfl,fX.k (k:=vu o) ei (by rw[Tb.cu];omega),?_⟩;rw[show(V.ref I)=jb ⟨I,J,[]⟩from rfl,Tb.cw (f:=jb) eo];have o5:Off (λb=>b=m.lr\/b=m.ls) H (upd (upd H3 I (.dK [])) m.lr (.dK (Tb.dk jb (Z++[(o,⟨I,J,[]⟩)])))):=λb u e w=>by
   rw[ah (λy=>w (.inl y)),ah (au e f1)];exact o3 _ _ (S2 _ _ e) λy=>w (.inr y)
  have cr:upd (upd H3 I (.dK [])) m.lr (.dK (Tb.dk jb (Z++[(o,⟨I,J,[]⟩)]))) m.lr=some (.dK (Tb.dk jb (Z++[(o,⟨I,J,[]⟩)]))):=ae;have dd:upd (upd H3 I (.dK [])) m.lr (.dK (Tb.dk jb (Z++[(o,⟨I,J,[]⟩)]))) m.ls=some (.dK (Tb.dk rJ Z++[(vu o,V.ref J)])):=(by rw[ah (qw M.n3.2.2),ah (qw cT)];exact c9);have d5:upd (upd H3 I (.dK [])) m.lr (.dK (Tb.dk jb (Z++[(o,⟨I,J,[]⟩)]))) I=some (.dK []):=(by rw[ah bn,ae]);have ej:upd (upd H3 I (.dK [])) m.lr (.dK (Tb.dk jb (Z++[(o,⟨I,J,[]⟩)]))) J=some (.dK (Tb.dk oi z.pl)):=(by rw[ah eq,ah (qw a7)];exact o3 _ _ e2 cP);generalize upd (upd H3 I (.dK [])) m.lr (.dK (Tb.dk jb (Z++[(o,⟨I,J,[]⟩)])))=H5 at *;have bd:∀{b},b≠m.lr->b≠m.ls->¬ (b=m.lr\/b=m.ls):=λa b w=>w.elim a b;have hn:∀(ob:Obj) u',H z.ra≠some (.frz ob u'):=λob u' w=>(by rw[M.rm _ L]at w;cases w);have ee:Tb.look (Z++[(o,(⟨I,J,[]⟩:MT))]) t=some z:=(by rw[Tb.bF t eo,Tg dO];exact N);have ef:Tb.look (Z++[(o,(⟨I,J,[]⟩:MT))]) o=some ⟨I,J,[]⟩:=(by rw[Tb.bF o eo,Th rfl]);have dm:=o5 _ _ (M.rm _ L) (bd dz.2.1 dz.2.2.1);refine⟨_,rfl,_,rfl,m.lr,_,rfl,dQ cr ee,z.ra,_,rfl,dm,hn,λob=>?_⟩;have bE:I≠z.ra:=λe=>(by rw[e,M.rm _ L]at f1;cases f1);have c5:J≠z.ra:=λe=>(by rw[e,M.rm _ L]at f2;cases f2);have oF:Off (· = z.ra) H5 (upd H5 z.ra (.frz ob (.dK (Tb.dk gb z.pl)))):=Off.wr rfl;have hF:upd H5 z.ra (.frz ob (.dK (Tb.dk gb z.pl))) z.ra=some (.frz ob (.dK (Tb.dk gb z.pl))):=ae;have bA:=oF _ _ d5 bE;have ek:=oF _ _ ej c5;have bY:=oF _ _ cr (qw dz.2.1);have cx:=oF _ _ dd (qw dz.2.2.1);have b8:=oF _ _ (o5 _ _ hd.1 (bd (λw=>by have:=hd.1;rw[w,M.hr]at this;cases this) (λw=>by have:=hd.1;rw[w,M.hs]at this;cases this))) (λw=>by have:=hd.1;rw[w,M.rm _ L]at this;cases this);have ev:∀{b},upd H5 z.ra (.frz ob (.dK (Tb.dk gb z.pl))) b=none->H b=none:=λ{b} e=>by
   cases e2:H b with
   |none=>rfl
   |some u =>
    exfalso;by_cases w1:b=z.ra
    .rw[w1,hF]at e;cases e
    .by_cases w2:b=m.lr
     .rw[w2,bY]at e;cases e
     .by_cases w3:b=m.ls
      .rw[w3,cx]at e;cases e
      .rw[oF _ _ (o5 _ _ e2 (bd w2 w3)) w1]at e;cases e
  have d8:∀y∈z.pl,∃ns:List Int,upd H5 z.ra (.frz ob (.dK (Tb.dk gb z.pl))) y.2.1=some (.lst (ns.map V.int))/\ns.length=8:=λy G=>by
   obtain⟨ns,O,S⟩:=M.cl _ L y G;exact⟨ns,oF _ _ (o5 _ _ O (bd (λw=>by rw[w,M.hr]at O;cases O) (λw=>by rw[w,M.hs]at O;cases O))) (λw=>by rw[w,M.rm _ L]at O;cases O),S⟩
  have OF:∀b u,H b=some u->b≠m.lr->b≠m.ls->b≠z.ra->upd H5 z.ra (.frz ob (.dK (Tb.dk gb z.pl))) b=some u:=λb u e a1 a2 a3=>oF _ _ (o5 _ _ e (bd a1 a2)) a3;generalize upd H5 z.ra (.frz ob (.dK (Tb.dk gb z.pl)))=HF at *;have bv:(z.pl.map (·.1)).Nodup:=M.np _ L;refine ya (a:=z.ra) (o:=ob) (kvs:=Tb.dk gb z.pl) (λi σ H6=>Gm λ(v6 v7:Option V) (pl:List (Int×Addr×Int))=>Ef (σ=[some (.ref m.md),some (.ref d),some (.ref m.lr),some (.ref m.ls),some (.str "copy"),some (.int t),v6,v7,none,none,none]) (H6 I=some (.dK (Tb.dk gb pl))) ((pl.map λy=>(y.1,y.2.2))=((z.pl.take i).map λy=>(y.1,y.2.2))) ((∀y∈pl,(∃ns:List Int,H6 y.2.1=some (.lst (ns.map V.int))/\ns.length=8)/\HF y.2.1=none)) (Off (· = I) HF H6))
   ⟨_,_,[],rfl,bA,rfl,(λy G=>by cases G),λ_ _ e _=>e⟩ (λi σ H6 _ z0=>by obtain⟨_,_,_,_,_,_,_,o6⟩:=z0;exact o6 _ _ hF (qw bE)) ?_ ?_
  .rintro i kk v σ H6 T' hk hT ⟨v6,v7,pl,rfl,ch,ap,bm,o6⟩;have cm:(z.pl.map λx:Int×Addr×Int=>((vu x.1:Key),gb x.2))[i]?=some (kk,v):=hk;rw[wh]at cm;obtain⟨y,G,e⟩:=vr.mp cm;cases e;have d6:=DD G;obtain⟨hi,ew⟩:=j1.mp G;have b6:z.pl.length<=64:=M.len L;have eA:pl.length=i:=by
    have:=congrArg LI ap;rw[nq,nq,Kv]at this;omega
   have dp:Tb.look pl y.1=none:=by
    cases e:Tb.look pl y.1 with
    |none=>rfl
    |some u =>
     exfalso;have h1:(y.1,u.2)∈pl.map λy=>(y.1,y.2.2):=rk.mpr ⟨_,Tb.aC e,rfl⟩;rw[ap]at h1;obtain⟨y',h2,h3⟩:=rk.mp h1;obtain⟨j,hj,e3⟩:=Mc h2;rw[NH]at e3;rw[Kv]at hj;refine pF bv j i (a:=y'.1) (b:=y.1) ?_ ?_ af (OX h3).1
     .rw[wh,IF af,e3];rfl
     .rw[wh,G];rfl
   obtain⟨ns,O,S⟩:=d8 y d6;have en:y.2.1≠I:=λw=>(by rw[w,bA]at O;cases O);have sT:=Tb.ar (X:=.tup [kV (vu y.1),gb y.2]) hT;refine⟨T',[.int y.1,.ref y.2.1],rfl,bZ.of ae,rfl,_,_,rfl,_,_,rfl,rfl,?_⟩;have c7:=sT _ _ (o6 _ _ O en);have b7:=sT _ _ ch;have d7:=sT _ _ (o6 _ _ bY (qw bn));have el:=sT _ _ (o6 _ _ b8 (λw=>by rw[w,bA]at b8;cases b8));have O7:Off (· = I) HF (upd H6 T' (.tup [kV (vu y.1),gb y.2])):=λb u e w=>sT _ _ (o6 _ _ e w);have C7:∀u∈pl,(∃ns:List Int,upd H6 T' (.tup [kV (vu y.1),gb y.2]) u.2.1=some (.lst (ns.map V.int))/\ns.length=8)/\HF u.2.1=none:=λu hu=>by
    obtain⟨⟨aB,a1,a2⟩,a3⟩:=bm u hu;exact⟨⟨aB,sT _ _ a1,a2⟩,a3⟩
   generalize upd H6 T' (.tup [kV (vu y.1),gb y.2])=H7 at *;refine⟨_,rfl,y.2.1,_,rfl,.inl (bq.of c7),λl hl=>?_⟩;have sL:=Tb.ar (X:=.lst (ns.map V.int)) hl;have ca:HF l=none:=by
    cases e:HF l with
    |none=>rfl
    |some u =>
     by_cases w:l=I
     .rw[w,b7]at hl;cases hl
     .rw[O7 _ _ e w]at hl;cases hl
   have dI:l≠I:=λw=>(by rw[w,bA]at ca;cases ca);refine⟨_,rfl,_,rfl,d,_,_,.int o,rfl,rfl,bZ.of (sL _ _ el),rfl,m.lr,_,rfl,dQ (sL _ _ d7) ef,_,rfl,I,_,rfl,fX.k (k:=vu y.1) (sL _ _ b7) (by rw[Tb.cu];omega),?_⟩;have e8:putK (Tb.dk gb pl) (vu y.1) (.ref l)=Tb.dk gb (pl++[(y.1,(l,y.2.2))]):=Tb.cw (f:=gb) (a:=(l,y.2.2)) dp;refine⟨_,_,pl++[(y.1,(l,y.2.2))],rfl,by rw[<-e8];exact ae,?_,λu hu=>?_,λb u e w=>by rw[ah w];exact sL _ _ (O7 _ _ e w)⟩
   .rw[Kr,ap,Lu,G,Kr];rfl
   .rcases pa.mp hu with hu|hu
    .obtain⟨⟨aB,a1,a2⟩,a3⟩:=C7 u hu;exact⟨⟨aB,by rw[ah (λw=>by rw[w,b7]at a1;cases a1)];exact sL _ _ a1,a2⟩,a3⟩
    .rw[kQ.mp hu];exact⟨⟨ns,by show upd _ I _ l=_;rw[ah dI,ae],S⟩,ca⟩
  .rintro σ H6 ⟨v6,v7,pl,rfl,ch,ap,bm,o6⟩;rw[Tb.cu,LC]at ap;refine⟨z.ra,ob,_,o6 _ _ hF (qw bE),hn,?_⟩;have o7:Off (λb=>b=m.lr\/b=m.ls) H (upd H6 z.ra (.dK (Tb.dk gb z.pl))):=λb u e w=>by
    by_cases w1:b=z.ra
    .rw[w1,ae, <-e,w1,M.rm _ L]
    .rw[ah w1];exact o6 _ _ (OF b u e (λy=>w (.inl y)) (λy=>w (.inr y)) w1) (au e f1)
   have da:(pl.map (·.1))=z.pl.map (·.1):=by
    have:=congrArg (S0 (·.1)) ap;rw[Lx,Lx]at this;exact this
   have M8:cp (upd H6 z.ra (.dK (Tb.dk gb z.pl))) m bC pk (Z++[(o,⟨I,J,pl⟩)]):=M.add (z:=⟨I,J,pl⟩) eo o7
    (by rw[ah (qw dz.2.1),lL];rw[lL]at bY;exact o6 _ _ bY (qw bn))
    (by rw[ah (qw dz.2.2.1),lL];exact o6 _ _ cx (qw cT))
    (by show upd H6 z.ra _ I=_;rw[ah bE];exact ch)
    (by show upd H6 z.ra _ J=_;rw[ah c5,o6 _ _ ek (qw a7),GN ap])
    (λy G=>by
     obtain⟨⟨aB,a1,a2⟩,a3⟩:=bm y G;exact⟨aB,by rw[ah (λw=>by rw[w,hF]at a3;cases a3)];exact a1,a2⟩)
    (by rw[da];exact bv)
    (λy G=>by
     have h1:y.1∈pl.map (·.1):=rk.mpr ⟨y,G,rfl⟩;rw[da]at h1;obtain⟨y',h2,h3⟩:=rk.mp h1;rw[<-h3];exact M.rg _ L y' h2) f1 f2 a7
   refine am _ _ ⟨pk,_,M8,p0,⟨λb u e w=>o7 b u e λy=>w (y.elim (λy=>.inr (.inl y)) λy=>.inr (.inr (.inl y))),λb w=>?_⟩,by rw[E2];exact sS _,λt'=>?_,λt' q=>?_⟩
   .rcases w with w|w|w|⟨x,hx,w⟩
    .exact .inl (.inl w)
    .exact .inl (.inr (.inl w))
    .exact .inl (.inr (.inr (.inl w)))
    .rcases pa.mp hx with hx|hx
     .exact .inl (.inr (.inr (.inr ⟨x,hx,w⟩)))
     .rw[kQ.mp hx]at w;rcases w with w|w|⟨y,G,w⟩
      .rw[w];exact .inr f1
      .rw[w];exact .inr f2
      .rw[w];exact .inr (ev (bm y G).2)
   .unfold hZ;rw[Tb.bF t' eo];by_cases c:t'=o
    .rw[Th c,decide_eq_true c];rfl
    .rw[Tg c,decide_eq_false c];rfl
   .unfold eZ;rw[Tb.bF t' eo];by_cases c:t'=o
    .rw[Th c,Th c,N];show(Tb.look pl q).map (·.2)=(Tb.look z.pl q).map (·.2);have h1:=j7 (λx:Addr×Int=>x.2) q pl;have h2:=j7 (λx:Addr×Int=>x.2) q z.pl;rw[<-h1, <-h2];show Tb.look (pl.map λy=>(y.1,y.2.2)) q=Tb.look (z.pl.map λy=>(y.1,y.2.2)) q;rw[ap]
    .rw[Tg c,Tg c]
 |peek t ad n =>
  refine ox rfl rfl bP (ox rfl rfl bP ?_);refine ox rfl rfl bP (ox rfl rfl bP ?_);refine ox rfl rfl bP (Fs rfl rfl ?_);obtain⟨z,N,em,ci⟩:=fi;obtain⟨a0,a1,n1⟩:=dj _ _ _ rfl;have L:=Tb.aC N;refine⟨_,rfl,d,_,_,.int ad,rfl,rfl,bZ.of ac,rfl,_,rfl,d,_,_,.int ad,rfl,rfl,bZ.of ac,rfl,_,rfl,d,_,_,.int n,rfl,rfl,bZ.of ac,rfl,_,_,rfl,rfl,_,_,rfl,⟨af,af,af,af⟩,?_⟩;refine fA (lo:=ad) (n:=(ad+(n:Int)-ad).toNat) (λi ys H2=>ys.length=i/\H2=H1) ⟨rfl,rfl⟩ ?_ ?_
  .rintro i ys H2 hi ⟨hl,rfl⟩;obtain⟨y,G⟩:∃y,Tb.look z.pl ((ad+(i:Int))/8)=some y:=by
    cases e:Tb.look z.pl ((ad+(i:Int))/8)with
    |some y=>exact⟨y,rfl⟩
    |none=>exact absurd e (ci i af)
   obtain⟨ns,O,S⟩:=M1.cl _ L _ (Tb.aC G);obtain⟨b1,_⟩:=at_of (xs:=ns) (i:=(ad+(i:Int))%8) (n:=8) af af af;exact⟨_,rfl,_,rfl,m.lr,jb z,rfl,dQ M1.hr N,_,rfl,_,_,rfl,rfl,⟨av,av⟩,z.ra,gb y,rfl,dQ (M1.rm _ L) G,_,rfl,_,_,rfl,rfl,nV,y.1,_,_,_,rfl,rfl,bq.of O,b1,af,by rw[E2,hl];rfl,rfl⟩
  .rintro ys H2 ⟨hl,rfl⟩ l b0;have s2:=Tb.ar (X:=.lst ys) b0;exact k _ pk Z (.ref l) (M1.same s2) p0 ⟨λb o e _=>s2 _ _ (s1 _ _ e),λb w=>.inl w⟩ (Oi _) (λ_=>rfl) λ_ _=>rfl
 |poke t ad c cs =>
  refine ox rfl rfl bP (ox rfl rfl bP ?_);refine ox rfl rfl bP (ox rfl rfl bP ?_);refine ox rfl rfl bP (ox rfl rfl bP ?_);obtain⟨z,N,em,ci⟩:=fi;obtain⟨dM,a0,a1,n1⟩:=dl _ _ _ _ rfl;have L:=Tb.aC N;have c4:=s1 _ _ (hd.2 _ _ _ _ rfl);have dz:=M.d3 _ L;have as:=M.rs _ L _ L;have bv:¬ cM m Z d:=λw=>by
   rcases M1.alive d w with⟨_,e⟩|⟨_,e⟩
   .rw[ac]at e;cases e
   .rw[ac]at e;cases e
  refine⟨_,rfl,d,_,_,.ref c,rfl,rfl,bZ.of ac,rfl,c,rfl,⟨_,bq.of c4⟩,?_⟩;refine tL (K:=K) (a:=c) (xs:=cs.map V.int) (λi σ H2=>BF λ(v8 v9 ce:Option V) (Y:Int) (pl:List (Int×Addr×Int))=>Ic (σ=[some (.ref m.md),some (.ref d),some (.ref m.lr),some (.ref m.ls),some (.str "poke"),some (.int t),none,none,v8,v9,ce]) (cp H2 m bC Y (Tb.aY Z t ⟨z.ra,z.sa,pl⟩)) (0<=Y) ((pl.map λy=>(y.1,y.2.1))=(z.pl.map λy=>(y.1,y.2.1))) ((∀q,(∃j:Nat,j<i/\(ad+j)/8=q)->∃v,(Tb.look pl q).map (·.2)=some v/\v≠0)) ((∀q,(¬ ∃j:Nat,j<i/\(ad+j)/8=q)->(Tb.look pl q).map (·.2)=(Tb.look z.pl q).map (·.2))) (Off (cM m Z) H1 H2))
   ⟨_,_,_,pk,z.pl,rfl,by rw[Ff M.nd N];exact M1,p0,rfl,λq ⟨j,h,_⟩=>af,λ_ _=>rfl,λ_ _ e _=>e⟩ (λi σ H2 _ z0=>by obtain⟨_,_,_,_,_,_,_,_,_,_,_,o2⟩:=z0;exact bq.of (o2 _ _ c4 dM)) ?_ ?_
  .rintro i x σ H2 T' hx hT ⟨v8,v9,ce,Y,pl,rfl,M2,p2,bc,ab,bl,o2⟩;have hi:i<cs.length:=(by simpa using(j1.mp hx).1);rw[wh]at hx;obtain⟨aT,_,rfl⟩:=vr.mp hx;have ai:=Bb (y:=(⟨z.ra,z.sa,pl⟩:MT)) N;have R:=Tb.aC ai;have sT:=Tb.ar (X:=.tup [.int i,.int aT]) hT;have M3:=M2.same sT;refine⟨T',[.int i,.int aT],rfl,bZ.of ae,rfl,_,_,rfl,_,_,rfl,rfl,?_⟩;have dT:=sT _ _ (o2 _ _ ac bv);have O3:Off (cM m Z) H1 (upd H2 T' (.tup [.int i,.int aT])):=λb o e w=>sT _ _ (o2 _ _ e w);generalize upd H2 T' (.tup [.int i,.int aT])=H3 at *;refine⟨_,rfl,d,_,_,.int ad,rfl,rfl,bZ.of dT,rfl,_,rfl,_,_,rfl,rfl,?_⟩;obtain⟨y,G⟩:∃y,Tb.look pl ((ad+(i:Int))/8)=some y:=by
    cases e:Tb.look pl ((ad+(i:Int))/8)with
    |some y=>exact⟨y,rfl⟩
    |none=>exact absurd ((yD bc _).mp e) (ci i hi)
   obtain⟨ns,O,S⟩:=M3.cl _ R _ (Tb.aC G);have O:H3 y.1=some (.lst (ns.map V.int)):=O;have hj:xw (ns.map V.int).length ((ad+(i:Int))%8)=some ((ad+(i:Int))%8).toNat:=by
    unfold xw;rw[nq,Th af,Th af]
   refine⟨_,rfl,_,rfl,_,rfl,m.lr,_,rfl,dQ M3.hr ai,_,rfl,_,_,rfl,rfl,⟨av,av⟩,z.ra,_,rfl,dQ (M3.rm _ R) G,_,rfl,_,_,rfl,rfl,nV,y.1,_,_,_,rfl,rfl,O,hj,?_⟩;rw[<-SG];have U:=M3.DA O (ns':=ns.set ((ad+(i:Int))%8).toNat aT) (by rw[K9];exact S);obtain⟨y',ep,eb⟩:∃y'∈z.pl,y'.2.1=y.1:=by
    have h1:((ad+(i:Int))/8,y.1)∈pl.map λy=>(y.1,y.2.1):=rk.mpr ⟨_,Tb.aC G,rfl⟩;rw[bc]at h1;obtain⟨y',h2,h3⟩:=rk.mp h1;exact⟨y',h2,(OX h3).2⟩
   have O4:Off (cM m Z) H1 (upd H3 y.1 (.lst ((ns.set ((ad+(i:Int))%8).toNat aT).map V.int))):=λb o e w=>by
    rw[ah (λh=>w (.inr (.inr (.inr ⟨_,L,.inr (.inr ⟨y',ep,h.trans eb.symm⟩)⟩))))];exact O3 b o e w
   generalize upd H3 y.1 (.lst ((ns.set ((ad+(i:Int))%8).toNat aT).map V.int))=H4 at *;dsimp only;refine wC λQ jt je=>?_;refine⟨_,rfl,rfl,_,rfl,?_⟩;have c3:∀Hx,Hx=H4->Q true Hx:=λHx ex=>by
    subst ex;refine jt _ ?_;refine⟨_,rfl,m.md,.int Y,rfl,U.g (HE _ _ _ _),_,_,rfl,rfl,_,rfl,m.md,_,rfl,fX.k (k:=Ku "pokes") U.hm (by show 4<sizeLine;omega),?_⟩;dsimp only;rw[BU];have o5:Off (· = m.md) Hx (upd Hx m.md (.dK (nW m.lr m.ls bC (Y+1)))):=Off.wr rfl;have g5:dC (upd Hx m.md (.dK (nW m.lr m.ls bC (Y+1)))) m.md (.str "pokes") (some (.int (Y+1))):=by
     have q:=dC.k (k:=Ku "pokes") (H:=upd Hx m.md (.dK (nW m.lr m.ls bC (Y+1)))) ae;rw[HE]at q;exact q
    refine⟨_,rfl,m.md,.int (Y+1),rfl,g5,_,rfl,_,rfl,m.ls,_,rfl,dQ (o5 _ _ U.hs (qw M.n3.2.1)) ai,_,rfl,_,_,rfl,rfl,⟨av,av⟩,z.sa,_,rfl,fX.k (k:=vu ((ad+(i:Int))/8)) (o5 _ _ (U.st _ R) dz.2.2.2.1) (by rw[Tb.cu];have:pl.length<=64:=M2.len R;show pl.length<_;omega),?_⟩;have e6:putK (Tb.dk oi pl) (vu ((ad+(i:Int))/8)) (.int (Y+1))=Tb.dk oi (Tb.aY pl ((ad+(i:Int))/8) (y.1,Y+1)):=Tb.gS (f:=oi) (a:=(y.1,Y+1)) G;have e7:Tb.dk gb (Tb.aY pl ((ad+(i:Int))/8) (y.1,Y+1))=Tb.dk gb pl:=Tb.qA (f:=gb) (a:=(y.1,Y+1)) (b:=y) (M2.np _ R) G rfl;have o6:Off (λb=>b=m.md\/b=z.ra\/b=z.sa) Hx (upd (upd Hx m.md (.dK (nW m.lr m.ls bC (Y+1)))) z.sa (.dK (putK (Tb.dk oi pl) (vu ((ad+(i:Int))/8)) (.int (Y+1))))):=λb o e w=>(by rw[ah (λy=>w (.inr (.inr y))),ah (λy=>w (.inl y))];exact e);have M7:=U.Fg (pk':=Y+1) (pl:=Tb.aY pl ((ad+(i:Int))/8) (y.1,Y+1)) ai o6 (by rw[ah (qw dz.2.2.2.1),ae]) (by show upd _ z.sa _ z.ra=_;rw[ah as,ah dz.1,e7];exact U.rm _ R) (by show upd _ z.sa _ z.sa=_;rw[ae,e6]) (λu hu=>by
      have dL:∃u'∈pl,u'.2.1=u.2.1:=by
       rcases Tb.mem_set hu with rfl|⟨hu,_⟩
       .exact⟨_,Tb.aC G,rfl⟩
       .exact⟨u,hu,rfl⟩
      obtain⟨u',h1,h2⟩:=dL;obtain⟨aB,I,J⟩:=U.cl _ R u' h1;rw[<-h2];exact⟨aB,o6 _ _ I (λw=>by
       rcases w with w|w|w
       .rw[w,U.hm]at I;cases I
       .rw[w,U.rm _ R]at I;cases I
       .rw[w,U.st _ R]at I;cases I),J⟩) (by rw[Tb.fh];exact M2.np _ R) (λu hu=>by
      rcases Tb.mem_set hu with rfl|⟨hu,_⟩
      .have h9:=M2.rg _ R ((ad+(i:Int))/8,y) (Tb.aC G);exact h9
      .exact M2.rg _ R u hu)
    rw[AX]at M7;refine⟨_,_,_,Y+1,Tb.aY pl ((ad+(i:Int))/8) (y.1,Y+1),rfl,M7,af,?_,λq hq=>?_,λq hq=>?_,λb o e w=>o6 b o (O4 b o e w) λu=>w ?_⟩
    .rw[<-bc];unfold Tb.aY;rw[Lx];refine LX λu hu=>?_;show((if u.1=(ad+(i:Int))/8 then((ad+(i:Int))/8,(y.1,Y+1))else u).1,(if u.1=(ad+(i:Int))/8 then((ad+(i:Int))/8,(y.1,Y+1))else u).2.1)=(u.1,u.2.1);by_cases cc:u.1=(ad+(i:Int))/8
     .have h1:=Tb.bL (M2.np _ R) hu;rw[cc,G]at h1;rw[Th cc, <-cc,ro h1]
     .rw[Tg cc]
    .rw[Tb.bO q G];by_cases cc:q=(ad+(i:Int))/8
     .rw[Th cc];exact⟨Y+1,rfl,af⟩
     .rw[Tg cc];obtain⟨j,h1,h2⟩:=hq;refine ab q ⟨j,?_,h2⟩;by_cases b4:j=i
      .subst b4;exact absurd h2.symm cc
      .omega
    .rw[Tb.bO q G,Tg (λcc=>hq ⟨i,NS _,cc.symm⟩)];exact bl q λ⟨j,h1,h2⟩=>hq ⟨j,N1 h1,h2⟩
    .rcases u with u|u|u
     .exact .inl u
     .exact .inr (.inr (.inr ⟨_,L,.inl u⟩))
     .exact .inr (.inr (.inr ⟨_,L,.inr (.inl u)⟩))
   refine iV (λ_=>c3 _ rfl) (λc0=>?_);refine⟨_,rfl,_,_,rfl,rfl,nV,rfl,_,rfl,?_⟩;refine vD (λ_=>c3 _ rfl) (λc8=>je _ ?_);have c0:¬ ((i:Nat):Int)=0:=λh=>c0 (by rw[h];simp);have c8:¬ (ad+(i:Int))%8=0:=λh=>c8 (decide_eq_true (show V.int ((ad+(i:Int))%8)=V.int 0 by rw[h]));refine⟨_,_,_,Y,pl,rfl,U,p2,bc,λq ⟨j,h1,h2⟩=>?_,λq hq=>bl q λ⟨j,h1,h2⟩=>hq ⟨j,N1 h1,h2⟩,O4⟩;by_cases b4:j=i
   .subst b4;exact ab q ⟨j-1,af,af⟩
   .exact ab q ⟨j,af,h2⟩
  .rintro σ H2 ⟨v8,v9,ce,Y,pl,rfl,M2,p2,bc,ab,bl,o2⟩;rw[nq]at ab bl;have dV:∀y∈pl,(∃y'∈z.pl,y.2.1=y'.2.1)\/H y.2.1=none:=λy G=>by
    have h1:(y.1,y.2.1)∈pl.map λy=>(y.1,y.2.1):=rk.mpr ⟨y,G,rfl⟩;rw[bc]at h1;obtain⟨y',h2,h3⟩:=rk.mp h1;exact .inl ⟨y',h2,(OX h3).2.symm⟩
   refine am _ _ ⟨Y,_,M2,p2,⟨λb o e w=>o2 b o (s1 b o e) w,lR N dV⟩,by rw[Tb.ed];omega,vy N,λt' q=>?_⟩;rw[wd N];by_cases cc:t'=t
   .by_cases S:q∈Rm.ax ad cs.length
    .rw[Th ⟨cc,S⟩,Th cc];exact ab q (fJ.mp S)
    .rw[Tg (λh=>S h.2),Th cc,bl q (λh=>S (fJ.mpr h)),cc,sW N]
   .rw[Tg (λh=>cc h.1),Tg cc]
end
inductive ui (vs:List V) (H:Hp) (Q:VK) (e3:XK):Prop
 |mk (n:Int) (m:MA) (bC pk:Int) (Z:Zs) (tl:Addr) (ts:List Int) (_:vs=[.int n,.ref m.md,.ref tl]) (_:cp H m bC pk Z) (_:Z≠[]) (_:Z.length<=1000) (_:H tl=some (.lst (ts.map V.int))) (_:ts.length=5) (_:∀(H':Hp) (d:Addr) (D:Dd),bg H H'->rP H' d D->zD D->(∀t ad c cs,D=.poke t ad c cs->H c=none)->((∀o,D=.close o->∃t,t≠o/\∃z,Tb.look Z t=some z)/\∀t o,D=.copy t o->o∈ts)->Q (.ref d) H'):ui vs H Q e3
section
variable {P:ti}{w:Kl}{K:Kq}{mg:Str->Option Value}{base:Heap}
theorem oz:aD ["_law_m","_law_model_here","_law_tasks","_law_rooms","_law_there","_law_kind","_law_rest","_law_task","_law_pages","_law_other","_law_left","_law_at","_law_address"] ["_law_m","_law_model_here","_law_tasks"] (aw AY):=L2.bD
theorem BH {f:Addr}{fd:rn}(F:cD K "_law_busy" "_law_busy" AY f fd) (T:ke mg) (be:Df P w K mg base aS 1 "_law_held" k5) (a7:Df P w K mg base aS 1 "_law_cells" jZ):aZ P w K mg base aS 2 f fd ["_law_m","_law_model_here","_law_tasks"] ui:=by
 refine F.dg oz (λbm A outer s H vs Q E hr h=>?_);obtain⟨n,m,bC,pk,Z,tl,ts,rfl,M,zn,lz,a5,l5,k⟩:=h;have hs:=BY;refine⟨_,(ag (dA 3 oz.nd (bt (bf hr) (pv 1) aN cq))
  (ag (dA 4 oz.nd (aP (gB rfl) (by rfl) T.sorted gc (aa (pv 3) aj)))
  (ag (Fl (i:=5) (j:=6) rfl oz.nd rfl rfl av rfl rfl (aa (ay bu (pv 0) ak) (aa (ay bB (pv 0) ak) aj)) rfl)
  (ag (dA 7 oz.nd (a9 cz (pv 4) (ay bu (ay bB (pv 0) ak) (aP bJ (by rfl) T.len boot_len (aa (pv 4) aj))) cq))
  (ag (dA 8 oz.nd (aP (gB rfl) (by rfl) T.sorted gc (aa (bt (bf hr) (pv 3) (pv 7) cq) aj)))
  (ag (dA 9 oz.nd (a9 cz (pv 2) (ay bu (pv 6) (aP bJ (by rfl) T.len boot_len (aa (pv 2) aj))) cq))
  (ag (aU (PW.pt (gL (aE gH (pv 5) ak (aI _)) (fK (aE (EH hr.gv) (pv 8) (bN aj) (aI _))))) (ag (dA 10 oz.nd (ay kl (bt (bf hr) (pv 1) aN cq) (pc be hr az (aa (pv 1) aj))))
  (ao (aG (cO (aa aN (aa (pv 7) (aa (ay bu (pv 6) ak) (aa (ay aV ak (ay bu (ay bB (pv 6) ak) (aP (pB rfl) (by rfl) T.max Ak (aa ak (aa (aP (pb rfl) (by rfl) T.min zc (aa ak (aa (pv 10) aj))) aj))))) aj)))))))) aH)
  (ag (aU (PW.pt (ug (aE gH (pv 5) ak (aI _)) (qE (jd (fY (bf hr) (pv 9) (pv 3)))))) (ao (aG (cO (aa aN (aa (pv 7) (aa (pv 9) aj)))))) aH)
  (ag (aU (PW.pt (ug (aE bR (pv 5) ak (aI _)) (qE (aE C9 (pv 9) (pv 7) (aI _))))) (ao (aG (cO (aa aN (aa (pv 9) aj))))) aH)
  (ag (dA 11 oz.nd (ay bu (pv 6) (aP bJ (by rfl) T.len boot_len (aa (pv 8) aj))))
  (ag (aU (aE bR (pv 5) ak (aI _)) (ao (aG (cO (aa aN (aa (pv 7) (aa (a9 cz (pv 8) (pv 11) cq) (aa ak aj))))))) aH)
  (ag (dA 12 oz.nd (ay aV (ay dR ak (a9 cz (pv 8) (pv 11) cq)) (ay bu (ay bB (pv 6) ak) ak)))
  (ag (aU (aE gH (pv 5) ak (aI _)) (ao (aG (cO (aa aN (aa (pv 7) (aa (pv 12) (aa (ay aV ak (ay bu (ay bB (pv 6) ak) ak)) aj))))))) aH)
  (ao (aG (cO (aa aN (aa (pv 7) (aa (pv 12) (aa (pc a7 hr az (aa (ay bB (pv 6) ak) (aa (ay aV ak (ay bu (ay bB (pv 6) ak) ak)) aj))) aj)))))))))))))))))))),?_⟩
 have aT:(Tb.dk jb Z).map (·.1)=(Z.map (·.1)).map vu:=(by unfold Tb.dk;rw[Lx,Lx];rfl);refine gn λ_ I=>?_;refine⟨_,rfl,m.md,.ref m.lr,rfl,M.g (xO _ _ _ _),I _ _ ?_⟩;clear I;refine gn λ_ I=>?_;refine⟨_,rfl,m.lr,_,Z.map (·.1),rfl,M.hr,aT,M.nd,by rw[nq];exact lz,λR ks a6 aB _=>I _ _ ?_⟩;clear I;have s1:=Tb.ar (X:=.lst (ks.map V.int)) a6;have h1:upd H R (.lst (ks.map V.int)) R=some (.lst (ks.map V.int)):=ae;have M1:=M.same s1;generalize upd H R (.lst (ks.map V.int))=H1 at *;have bA:0<ks.length:=by
  rw[aB.length_eq,nq];exact Ni.mpr zn
 refine⟨_,rfl,_,_,rfl,rfl,(by show(0:Int)<16;decide),_,rfl,_,_,rfl,rfl,⟨av,av⟩,_,_,rfl,?_⟩;have bv:=Ld n (show(16:Int)≠0 by decide);have bx:=KQ n (show(0:Int)<16 by decide);dsimp only;generalize n%16=kd at *;generalize n/96=G;refine gn λ_ I=>?_;obtain⟨b1,b2⟩:=at_of (xs:=ks) (i:=n/16%(ks.length:Int)) (n:=ks.length) (Ld _ af) (KQ _ af) rfl;generalize ks.getD (n/16%(ks.length:Int)).toNat 0=tk at b1 b2;refine⟨_,rfl,_,rfl,_,_,rfl,rfl,⟨av,av⟩,_,rfl,R,_,rfl,.inl (bq.of h1),_,_,rfl,rfl,by show(0:Int)<((ks.map V.int).length:Nat);rw[nq];omega,R,_,_,.int tk,rfl,rfl,bq.of h1,by rw[nq];exact b1,I _ _ ?_⟩;clear I;obtain⟨z,ez⟩:∃z,Tb.look Z tk=some z:=by
  have h2:=aB.mem_iff.mp b2;cases e:Tb.look Z tk with
  |some z=>exact⟨z,rfl⟩
  |none=>exact absurd h2 (Tb.bV e)
 have ac:=Tb.aC ez;have bd:(Tb.dk gb z.pl).map (·.1)=(z.pl.map (·.1)).map vu:=(by unfold Tb.dk;rw[Lx,Lx];rfl);refine gn λ_ I=>?_;refine⟨_,rfl,_,rfl,m.lr,_,rfl,dQ M1.hr ez,z.ra,_,z.pl.map (·.1),rfl,M1.rm _ ac,bd,M1.np _ ac,by rw[nq];have:z.pl.length<=64:=M1.len ac;omega,λL ps bi bc _=>I _ _ ?_⟩;clear I;have s2:=Tb.ar (X:=.lst (ps.map V.int)) bi;have h2:upd H1 L (.lst (ps.map V.int)) L=some (.lst (ps.map V.int)):=ae;have M2:=M1.same s2;have S2:=s1.trans s2;generalize upd H1 L (.lst (ps.map V.int))=H2 at *;have am:=S2 _ _ a5;refine gn λ_ I=>?_;obtain⟨b3,mo⟩:=at_of (xs:=ts) (i:=G%5) (n:=5) af af af;generalize ts.getD (G%5).toNat 0=O at b3 mo;refine⟨_,rfl,_,rfl,_,rfl,tl,_,rfl,.inl (bq.of am),_,_,rfl,rfl,by show(0:Int)<((ts.map V.int).length:Nat);rw[nq,l5];decide,tl,_,_,.int O,rfl,rfl,bq.of am,by rw[nq,l5];exact b3,I _ _ ?_⟩;clear I;have bz:∀q∈ps,0<=q/\q<64:=λq hq=>by
  obtain⟨y,hy,e⟩:=rk.mp (bc.mem_iff.mp hq);rw[<-e];exact M.rg _ ac y hy
 have ab:∀{Y d} (D:Dd),bg H2 Y->rP Y d D->zD D->(∀t ad c cs,D=.poke t ad c cs->H c=none)->((∀o,D=.close o->∃t,t≠o/\∃z,Tb.look Z t=some z)/\∀t o,D=.copy t o->o∈ts)->Q (.ref d) Y:=λ{Y d} D sx a1 a2 a3 a4=>k Y d D (S2.trans sx) a1 a2 a3 a4;refine mK (λσ H9=>bg H2 H9/\ps≠[]/\σ=[some (.int n),some (.ref m.md),some (.ref tl),some (.ref m.lr),some (.ref R),some (.int kd),some (.int G),some (.int tk),some (.ref L),some (.int O),none,none,none]) (λ_ QQ U N=>?A) ?B
 case A =>
  have mp:∀Y,bg H2 Y->QQ true Y:=λY sx=>by
   have Mx:=M2.same sx;refine U _ ?_;refine⟨_,rfl,m.md,.int bC,rfl,Mx.g (EK _ _ _ _),_,rfl,m,bC,pk,Z,rfl,Mx,lz,λH4 s4=>?_⟩;refine⟨_,_,rfl,rfl,?_⟩;have mx:∀S:Int,0<(if (if S<9 then S else 9)>1 then(if S<9 then S else 9)else 1)/\(if (if S<9 then S else 9)>1 then(if S<9 then S else 9)else 1)<=(9:Int):=λS=>(by split<;>split<;>omega);obtain⟨x1,x2⟩:=mx (bC-ud Z);have r0:=Ld G (show(64:Int)≠0 by decide);have r1:=KQ G (show(0:Int)<64 by decide);have q0:=Ld (G/64) (show(if (if bC-ud Z<9 then bC-ud Z else 9)>1 then(if bC-ud Z<9 then bC-ud Z else 9)else 1)≠0 by omega);have q1:=KQ (G/64) x1;refine⟨_,rfl,_,rfl,_,_,rfl,rfl,(by show(0:Int)<64;decide),_,rfl,_,_,rfl,rfl,⟨av,av⟩,_,rfl,_,_,rfl,_,_,rfl,_,_,rfl,rfl,x1,_,_,rfl,rfl,Aj,λd hd=>?_⟩;refine ab (.map tk (G%64) (1+G/64%(if (if bC-ud Z<9 then bC-ud Z else 9)>1 then(if bC-ud Z<9 then bC-ud Z else 9)else 1))) (sx.trans (s4.trans (Tb.ar hd))) ⟨ae,λ_ _ _ _ e=>by cases e⟩ ⟨r0,r1,af,af⟩ (λ_ _ _ _ e=>by cases e) ⟨(λ_ e=>by cases e),λ_ _ e=>by cases e⟩
  refine⟨_,rfl,_,_,rfl,rfl,_,rfl,?_⟩;by_cases c2:kd<2
  .rw[decide_eq_true c2];exact eI (mp _ (bg.refl H2))
  .rw[decide_eq_false c2];refine bU ?_;refine⟨_,rfl,av,λl3 bl=>?_⟩;have J:=Tb.ar (X:=.lst []) bl;refine⟨L,l3,_,_,rfl,rfl,bq.of (J _ _ h2),bq.of ae,dF _,rfl,_,rfl,?_⟩;cases ps with
   |nil=>exact mp _ J
   |cons q r=>exact N _ ⟨J,(λe=>by cases e),rfl⟩
 case B =>
 rintro σ H3 ⟨J,pn,rfl⟩;have M3:=M2.same J;have bn:0<ps.length:=Ni.mpr pn;refine mK (λσ H9=>H9=H3/\σ=[some (.int n),some (.ref m.md),some (.ref tl),some (.ref m.lr),some (.ref R),some (.int kd),some (.int G),some (.int tk),some (.ref L),some (.int O),none,none,none]) (λ_ QQ U N=>?A2) ?B2
 case A2 =>
  refine⟨_,rfl,_,_,rfl,rfl,_,rfl,?_⟩;by_cases c2:kd<5
  .rw[decide_eq_true c2];refine eI ?_;refine⟨_,rfl,_,rfl,m.lr,_,rfl,fO (t:=O) M3.hr,?_⟩;cases eo:Tb.look Z O with
   |some _=>exact⟨false,rfl,N _ ⟨rfl,rfl⟩⟩
   |none =>
    refine⟨true,rfl,U _ ?_⟩;exact⟨_,rfl,_,rfl,FG,λd hd=>ab (.copy tk O) (J.trans (Tb.ar hd)) ⟨ae,λ_ _ _ _ e=>by cases e⟩ trivial (λ_ _ _ _ e=>by cases e) ⟨(λ_ e=>by cases e),λ_ _ e=>by cases e;exact mo⟩⟩
  .rw[decide_eq_false c2];exact bU (N _ ⟨rfl,rfl⟩)
 case B2 =>
 rintro σ bb ⟨e3,rfl⟩;subst e3;refine mK (λσ H9=>H9=bb/\σ=[some (.int n),some (.ref m.md),some (.ref tl),some (.ref m.lr),some (.ref R),some (.int kd),some (.int G),some (.int tk),some (.ref L),some (.int O),none,none,none]) (λ_ QQ U N=>?A3) ?B3
 case A3 =>
  refine⟨_,rfl,rfl,_,rfl,?_⟩;refine iV (λ_=>?_) (λ_=>N _ ⟨rfl,rfl⟩);refine⟨_,rfl,_,rfl,rfl,_,rfl,?_⟩;refine vD (λc3=>U _ ?_) (λ_=>N _ ⟨rfl,rfl⟩);have c3:O≠tk:=λe=>(by rw[e]at c3;simp at c3);exact⟨_,rfl,fE,λd hd=>ab (.close O) (J.trans (Tb.ar hd)) ⟨ae,λ_ _ _ _ e=>by cases e⟩ trivial (λ_ _ _ _ e=>by cases e) ⟨λo e=>by cases e;exact⟨tk,qw c3,z,ez⟩,λ_ _ e=>by cases e⟩⟩
 case B3 =>
 rintro σ H4 ⟨e4,rfl⟩;subst e4;have ai:=J _ _ h2;have p0:0<=G%(ps.length:Int):=Ld _ af;have p1:G%(ps.length:Int)<ps.length:=KQ _ af;obtain⟨b5,b6⟩:=at_of (xs:=ps) (i:=G%(ps.length:Int)) (n:=ps.length) p0 p1 rfl;generalize ps.getD (G%(ps.length:Int)).toNat 0=pq at b5 b6;obtain⟨z0,z1⟩:=bz pq b6;refine gn λ_ I=>?_;refine⟨_,rfl,_,rfl,L,_,rfl,.inl (bq.of ai),_,_,rfl,rfl,by show(0:Int)<((ps.map V.int).length:Nat);rw[nq];omega,I _ _ ?_⟩;clear I;rw[nq];refine mK (λσ H9=>H9=H4/\σ=[some (.int n),some (.ref m.md),some (.ref tl),some (.ref m.lr),some (.ref R),some (.int kd),some (.int G),some (.int tk),some (.ref L),some (.int O),none,some (.int (G%(ps.length:Int))),none]) (λ_ QQ U N=>?A4) ?B4
 case A4 =>
  refine⟨_,rfl,rfl,_,rfl,?_⟩;refine vD (λ_=>U _ ?_) (λ_=>N _ ⟨rfl,rfl⟩);exact⟨_,rfl,_,rfl,_,rfl,L,_,_,.int pq,rfl,rfl,bq.of ai,b5,Aj,λd hd=>ab (.drop tk pq 1) (J.trans (Tb.ar hd)) ⟨ae,λ_ _ _ _ e=>by cases e⟩ ⟨z0,z1,av,av⟩ (λ_ _ _ _ e=>by cases e) ⟨(λ_ e=>by cases e),λ_ _ e=>by cases e⟩⟩
 case B4 =>
 rintro σ H5 ⟨e5,rfl⟩;subst e5;have a0:=Ld (G/64) (show(8:Int)≠0 by decide);have a1:=KQ (G/64) (show(0:Int)<8 by decide);have m0:=Ld (G/512) (show(11:Int)≠0 by decide);have m1:=KQ (G/512) (show(0:Int)<11 by decide);obtain⟨nn,as⟩:∃nn:Nat,(nn:Int)=1+G/512%11:=⟨(1+G/512%11).toNat,af⟩;refine gn λ_ I=>?_;refine⟨_,rfl,_,rfl,L,_,_,.int pq,rfl,rfl,bq.of ai,b5,_,_,rfl,rfl,.inl ⟨av,av⟩,_,rfl,_,_,rfl,rfl,⟨av,av⟩,_,_,rfl,rfl,nV,_,_,rfl,rfl,I _ _ ?_⟩;clear I
 try dsimp only
 refine iK λQQ U N=>?_;refine⟨_,rfl,_,_,rfl,rfl,_,rfl,?_⟩;by_cases ap:kd<10
 .rw[decide_eq_true ap];refine U _ ?_;refine⟨_,rfl,_,rfl,_,rfl,_,_,rfl,rfl,⟨av,av⟩,_,_,rfl,rfl,(by show(0:Int)<11;decide),_,_,rfl,rfl,Aj,λd hd=>?_⟩;dsimp only at *;refine ab (.peek tk (8*pq+G/64%8) nn) (J.trans (Tb.ar hd)) ⟨?_,λ_ _ _ _ e=>by cases e⟩ ⟨af,af,af,af⟩ (λ_ _ _ _ e=>by cases e) ⟨(λ_ e=>by cases e),λ_ _ e=>by cases e⟩;show upd H5 d _ d=some (.tup [.str "peek",.int tk,.int (8*pq+G/64%8),.int nn]);rw[ae,as]
 .rw[decide_eq_false ap];refine N _ ?_;refine⟨_,rfl,_,rfl,_,rfl,_,_,rfl,rfl,⟨av,av⟩,_,rfl,_,_,rfl,rfl,⟨av,av⟩,_,_,rfl,rfl,(by show(0:Int)<11;decide),_,_,rfl,rfl,G/4096,nn,by rw[as];rfl,af,λcs H6 cl lc s6 ba h6=>?_⟩;refine⟨Aj,λd hd=>?_⟩;have s7:=Tb.ar (X:=.tup [V.str "poke",V.int tk,V.int (8*pq+G/64%8),V.ref cl]) hd;refine ab (.poke tk (8*pq+G/64%8) cl cs) (J.trans (s6.trans s7)) ⟨ae,λ_ _ _ _ e=>by cases e;exact s7 _ _ h6⟩ ⟨af,af,af,af⟩ (λ_ _ _ _ e=>by cases e;exact S2.free (J.free ba)) ⟨(λ_ e=>by cases e),λ_ _ e=>by cases e⟩
end
structure BA (c:CA) (H:Hp) (M:Addr->Prop) (a:RA) (m:MA) (nf ns k:Nat) (s:Pg.PS) (cv:Int->Int->List Int) (pk:Int) (W:di) (Z:Zs):Prop where
 R:aA c H M a s W
 ri:Pg.RI s (ents W)
 cv:Cv s W cv
 D:cp H m (bC s) pk Z
 p0:0<=pk
 sp:∀b,cM m Z b->M b/\¬ a.own W b
 tw:Tw W Z
 lf:(s.ow true).length=nf
 ls:(s.ow false).length=ns
 zn:Z≠[]
 lw:W.length<=k
 lz:Z.length<=k
section
variable {c:CA}{H H' H2:Hp}{M M':Addr->Prop}{a:RA}{m:MA}{nf ns k:Nat}{s s':Pg.PS}{cv:Int->Int->List Int}{pk tt:Int}{W W':di}{Z Z':Zs}
theorem BA.same (S:BA c H M a m nf ns k s cv pk W Z) (e:bg H H'):BA c H' M a m nf ns k s cv pk W Z:=⟨S.R.same e,S.ri,S.cv,S.D.same e,S.p0,S.sp,S.tw,S.lf,S.ls,S.zn,S.lw,S.lz⟩
theorem wo (R:aA c H M a s W) (D:cp H m tt pk Z) (sp:∀b,cM m Z b->M b/\¬ a.own W b) {pk':Int}(I:cp H' m tt pk' Z') (st:tQ m H Z H' Z') :
  aA c H' (λb=>(M b/\¬ cM m Z b)\/cM m Z' b) a s W/\∀b,cM m Z' b->((M b/\¬ cM m Z b)\/cM m Z' b)/\¬ a.own W b:=by
 refine⟨R.D8 (B:=cM m Z) st.1 sp D.alive (λb z=>z.elim (λz=>.inl z.1) λz=>(st.2 b z).elim (λz=>.inl (sp b z).1) .inr) (λb z w=>.inl ⟨z,w⟩) (λb z e=>?_),λb z=>⟨.inr z,?_⟩⟩
 .rcases z with z|z
  .cases G:H b with
   |none=>exact R.mt b z.1 G
   |some u=>rw[st.1 b u G z.2]at e;cases e
  .rcases I.alive b z with⟨_,h⟩|⟨_,h⟩
   .rw[e]at h;cases h
   .rw[e]at h;cases h
 .rcases st.2 b z with z|z
  .exact(sp b z).2
  .exact λw=>R.mt b (R.dB b w) z
theorem m5 (D:cp H m tt pk Z) (sp:∀b,cM m Z b->M b/\¬ a.own W b) (st:Step H M (a.own W) H' M' (a.own W')):cp H' m tt pk Z/\∀b,cM m Z b->M' b/\¬ a.own W' b:=by
 refine⟨D.off st.off λb z=>(sp b z).2,λb z=>⟨st.mm b (sp b z).1 (sp b z).2,λw=>?_⟩⟩;rcases st.on b w with w|w
 .exact(sp b z).2 w
 .rcases D.alive b z with⟨_,h⟩|⟨_,h⟩
  .rw[w]at h;cases h
  .rw[w]at h;cases h
theorem tO {α L:Type}{l:List (Int×α)}{G:List (Int×L)}(N:(l.map (·.1)).Nodup) (O:(G.map (·.1)).Nodup) (h:∀q,Tb.look l q=none↔Tb.look G q=none):(l.map (·.1)).Perm (G.map (·.1)):=by
 have I:∀{J:Type}{l:List (Int×J)}{q:Int},q∈l.map (·.1)↔¬ Tb.look l q=none:=λ{J l q}=>⟨λh e=>Tb.bV e h,λh=>by
  cases e:Tb.look l q with
  |none=>exact absurd e h
  |some a=>exact rk.mpr ⟨_,Tb.aC e,rfl⟩⟩
 rw[MZ N O];intro q;rw[I,I,h q]
theorem Tw.look (T:Tw W Z) (t:Int):Tb.look W t=none↔Tb.look Z t=none:=by
 have h:=T.h t;unfold hW hZ at h;cases I:Tb.look W t with
 |none=>cases G:Tb.look Z t with
  |none=>exact⟨λ_=>rfl,λ_=>rfl⟩
  |some z=>rw[I,G]at h;cases h
 |some x=>cases G:Tb.look Z t with
  |none=>rw[I,G]at h;cases h
  |some z=>exact⟨nofun,nofun⟩
theorem Tw.AF (T:Tw W Z) {t:Int}{x:TD}{z:MT}(J:Tb.look W t=some x) (L:Tb.look Z t=some z) (q:Int):Tb.look x.t q=none↔Tb.look z.pl q=none:=by
 have h:=T.e t q;rw[nc J,sW L]at h;cases I:Tb.look x.t q with
 |none=>cases G:Tb.look z.pl q with
  |none=>exact⟨λ_=>rfl,λ_=>rfl⟩
  |some z=>rw[I,G]at h;cases h
 |some x=>cases G:Tb.look z.pl q with
  |none=>rw[I,G]at h;cases h
  |some z=>exact⟨nofun,nofun⟩
theorem Tw.get (T:Tw W Z) {t:Int}{z:MT}(G:Tb.look Z t=some z):∃x,Tb.look W t=some x:=by
 cases e:Tb.look W t with
 |some x=>exact⟨x,rfl⟩
 |none=>rw[(T.look t).mp e]at G;cases G
theorem zz {l G:List Int}(p:l.Perm G):l.sum=G.sum:=by
 induction p with
 |nil=>rfl
 |cons x _ I=>rw[MJ,MJ,I]
 |swap x y l=>rw[MJ,MJ,MJ,MJ];omega
 |trans _ _ L J=>exact L.trans J
theorem Tw.len (T:Tw W Z) (R:aA c H M a s W) (D:cp H m tt pk Z) {t:Int}{x:TD}{z:MT}(G:Tb.look W t=some x) (I:Tb.look Z t=some z):x.t.length=z.pl.length:=by
 have:=(tO (R.tb _ (Tb.aC G)).nd (D.np _ (Tb.aC I)) (T.AF G I)).length_eq;rw[nq,nq]at this;exact this
theorem Tw.held (T:Tw W Z) (R:aA c H M a s W) (D:cp H m tt pk Z):ud Z=((ents W).length:Int):=by
 rw[<-lP];have p:=(tO R.nd D.nd T.look).symm;have q:=zz (p.map λt:Int=>(((Tb.look W t).map λx=>(x.t.length:Int)).getD 0));rw[Lx,Lx]at q;unfold ud heldW;rw[show(Z.map λx=>(x.2.pl.length:Int))=Z.map ((λt:Int=>(((Tb.look W t).map λx=>(x.t.length:Int)).getD 0))∘(·.1))from LX λx G=>by
  have J:=Tb.bL D.nd G;obtain⟨y,I⟩:=T.get J;show((x.2.pl.length:Nat):Int)=(((Tb.look W x.1).map λx=>(x.t.length:Int)).getD 0);rw[I, <-T.len R D I J];rfl]
 rw[q];refine congrArg List.sum (LX λx G=>?_);show(((Tb.look W x.1).map λx=>(x.t.length:Int)).getD 0)=(x.2.t.length:Int);rw[Tb.bL R.nd G];rfl
theorem wV {x:TD}{z:MT}{ad:Int}{n:Nat}(R:∀q,Tb.look x.t q=none↔Tb.look z.pl q=none) (S:0<=ad) (h:wQ z.pl ad n):¬ Rm.cA ad n (x.t.map (·.1)):=by
 obtain⟨h1,h2⟩:=h;rintro(w|⟨w,G⟩)
 .omega
 .rcases G with G|G
  .unfold Rm.cg Rm.jK Rm.hV at G;omega
  .refine G λq N=>?_;have L:q∈Rm.ax ad n:=by
    unfold Rm.ax;rw[Tg af];exact N
   obtain⟨j,O,e⟩:=fJ.mp L;have J:=h2 j O;rw[e]at J;cases I:Tb.look x.t q with
   |none=>exact absurd ((R q).mp I) J
   |some v=>exact rk.mpr ⟨_,Tb.aC I,rfl⟩
theorem F5 (T:Tw W Z) (R:aA c H M a s W) (D:cp H m tt pk Z) {Dd:Dd}(ok:zD Dd) (f:CW Z (bC s) Dd):Dp W (bC s) Dd:=by
 have O:=T.held R D;cases Dd with
 |begin t=>exact ok
 |close t=>obtain⟨z,G⟩:=f;exact T.get G
 |map t p S =>
  obtain⟨z,G,J,L,U⟩:=f;obtain⟨x,I⟩:=T.get G;exact⟨x,I,J,λq N=>(T.AF I G q).mpr (L q N),by rw[<-O];exact U⟩
 |drop t p S =>
  obtain⟨z,G,J,L⟩:=f;obtain⟨x,I⟩:=T.get G;exact⟨x,I,J,λq N w=>L q N ((T.AF I G q).mp w)⟩
 |peek t ad n =>
  obtain⟨z,G,J⟩:=f;obtain⟨x,I⟩:=T.get G;exact⟨x,I,wV (T.AF I G) ok.1 J,ok.1,ok.2.1,ok.2.2.2⟩
 |poke t ad cc cs =>
  obtain⟨z,G,J⟩:=f;obtain⟨x,I⟩:=T.get G;exact⟨x,I,wV (T.AF I G) ok.1 J,ok.1,ok.2.1,ok.2.2.2⟩
 |copy t o =>
  obtain⟨z,G,J,L⟩:=f;obtain⟨x,I⟩:=T.get G;exact⟨x,I,(T.look o).mpr J,by rw[<-O,T.len R D I G];exact L⟩
end
inductive qg (c:CA) (vs:List V) (H:Hp) (Q:VK) (e3:XK):Prop
 |mk (n:Int) (_:vs=[.int n]) (_:∀(H':Hp) (t:Addr) (M:Addr->Prop) (a:RA) (m:MA) (s:Pg.PS) (cv:Int->Int->List Int) (pk:Int) (W:di) (Z:Zs),bg H H'->BA c H' M a m (kW n) (nQ n) 1 s cv pk W Z->(∀t,hZ Z t=decide (t=1))->(∀b,M b->H b=none)->H' t=some (.tup [.ref a.rp,.ref m.md])->Q (.ref t) H'):qg c vs H Q e3
section
variable {P:ti}{w:Kl}{K:Kq}{mg:Str->Option Value}{base:Heap}
theorem Bn:aD ["_law_m","_law_frames","_law_slots","_law_kept","_law_model_here"] ["_law_m"] (aw uP):=L2.bD
theorem Ac {f ap:Addr}{fd am:rn}{c:CA}(F:cD K "_law_begun" "_law_begun" uP f fd) (TR:oV K mg c) (MK:Hv P w K mg base c) (MR:Mk K c.C ap) (be:mg "Rooms" = some (.ref c.C)) (a6:Df P w K mg base aS 1 "_law_sizes" lG) (bc:aZ P w K mg base aS 5 ap am ["self","frames","slots"] (pS c)) (a4:Binds K am ["self","frames","slots"] []) (a2:Df P w K mg base aS 1 "_law_model" qV) (bb:Df P w K mg base aS 1 "_law_done" qo):aZ P w K mg base aS 7 f fd ["_law_m"] (qg c):=by
 refine F.dg Bn (λbn A outer s H vs Q E I h=>?_);obtain⟨n,rfl,k⟩:=h;have hs:=BY;obtain⟨_,f2,bm⟩:=vZ n;obtain⟨_,bx⟩:=wm n;refine⟨_,(ag (cK (pc a6 I az (aa (pv 0) aj)) (dS rfl (bo (gG 1 Bn.nd) (bo (gG 2 Bn.nd) cX))))
  (ag (dA 3 Bn.nd (lI MR bc (I.mono av) (by rfl) be a4 .nil az (aa (pv 1) (aa (pv 2) aj))))
  (ag (dA 4 Bn.nd (pc a2 I az (aa (ay aV (pv 1) (pv 2)) aj)))
  (ag (aL (pm (pv 3) TR.cl MK.Je I az (aa ak aj)))
  (ag (aL (pc bb I az (aa (pv 4) (aa (cO (aa aN (aa ak aj))) aj))))
  (ao (aG (cO (aa (pv 3) (aa (pv 4) aj)))))))))),?_⟩
 refine⟨_,rfl,n,rfl,λH1 t1 s1 bz bi=>⟨t1,_,rfl,bZ.of bi,rfl,_,_,rfl,_,_,rfl,rfl,?_⟩⟩;refine⟨_,rfl,_,rfl,λrp dx np a0 bv=>⟨rp,dx,kW n,nQ n,rfl,af,af,af,ae,λH2 M a ea R fr o2=>⟨rfl,?_⟩⟩⟩;have s2:bg H1 H2:=λb u e=>o2 b u (by rw[ah (au e np),ah (au e a0)];exact e) (au e np);have as:∀b,M b->H b=none:=λb z=>s1.free (cy (cy (fr b z)).2).2;clear o2 fr;rw[<-ea];have et:bC (s0 (kW n) (nQ n))=((kW n:Nat):Int)+((nQ n:Nat):Int):=by
  unfold bC;rw[show((s0 (kW n) (nQ n)).ow true).length=kW n from Kn,show((s0 (kW n) (nQ n)).ow false).length=nQ n from Kn];omega
 refine⟨_,rfl,_,rfl,_,_,rfl,rfl,_,rfl,λH3 m O g1 g2 g3 D3=>?_⟩;rw[<-et]at D3;have N:=s1.trans s2;have bd:∀b,cM m [] b->H3 b≠none:=λb z e=>by
  rcases D3.alive b z with⟨_,h⟩|⟨_,h⟩
  .rw[e]at h;cases h
  .rw[e]at h;cases h
 have L:∀b,cM m [] b->H2 b=none:=λb z=>by
  rcases z with z|z|z|⟨x,G,_⟩
  .rw[z];exact g1
  .rw[z];exact g2
  .rw[z];exact g3
  .cases G
 have U:=R.D8 (H':=H3) (B:=λ_=>False) (M':=λb=>M b\/cM m [] b) (λb o e _=>O b o e) (λb z=>z.elim) (λb z=>z.elim) (λb z=>z.elim .inl λz=>.inr (L b z)) (λb z _=>.inl z) (λb z e=>z.elim (λz=>(R.same O).mt b z e) λz=>bd b z e);have a5:∀b,cM m [] b->(M b\/cM m [] b)/\¬ a.own [] b:=λb z=>⟨.inr z,λw=>R.mt b (R.dB b w) (L b z)⟩;obtain⟨a1,ho⟩:=U.ob;refine⟨_,rfl,a.rp,a1,_,rfl,ho,fV _ _ _ aq aq aq,_,a,_,[],1,rfl,U,rfl,KI _,λH4 M4 y Y R4 ai=>?_⟩;obtain⟨D4,ac⟩:=m5 D3 a5 ai;have ab:∀b,M4 b->H b=none:=λb z=>by
  rcases ai.mn b z with z|z
  .exact z.elim (as b) λz=>N.free (L b z)
  .exact N.free (O.free z)
 have S4:bg H H4:=λb u e=>ai.off b u (O _ _ (N _ _ e)) λw=>by
  have:=U.dB b w;rcases this with h|h
  .rw[as b h]at e;cases e
  .rw[N.free (L b h)]at e;cases e
 refine⟨_,rfl,fE,λd hd=>?_⟩;have J:=Tb.ar (X:=.tup [V.str "begin",V.int 1]) hd;refine⟨m,_,0,[],d,.begin 1,rfl,D4.same J,Lo _,KI _,⟨ae,λ_ _ _ _ e=>by cases e⟩,rfl,(λ_ _ _ _ e=>by cases e),(λ_ _ _ e=>by cases e),λH6 bl S v D6 p6 z6 l6 h6 e6=>?_⟩;have R5:=R4.same J;obtain⟨R6,a7⟩:=wo R5 (D4.same J) ac D6 z6;have aT:∀b,((M4 b/\¬ cM m [] b)\/cM m S b)->H b=none:=λb z=>by
  rcases z with z|z
  .exact ab b z.1
  .rcases z6.2 b z with z|z
   .exact ab b (ac b z).1
   .exact S4.free (J.free z)
 have S6:bg H H6:=λb u e=>z6.1 b u (J _ _ (S4 _ _ e)) λw=>(by rw[ab b (ac b w).1]at e;cases e);refine⟨_,rfl,_,rfl,fE,λtp a3=>?_⟩;have st:=Tb.ar (X:=.tup [.ref a.rp,.ref m.md]) a3;have aB:Pg.RI (s0 (kW n) (nQ n)) (ents ([]++[(1,y)])):=by
  rw[nJ,Y];exact Ge af
 have T0:Tw [] []:=⟨λ_=>rfl,λ_ _=>rfl⟩;have T6:Tw ([]++[(1,y)]) S:=T0.next (D:=.begin 1) (λt'=>by
   unfold hW;rw[Tb.bF t' rfl];by_cases z:t'=1
   .rw[Th z,decide_eq_true z];rfl
   .rw[Tg z,decide_eq_false z];rfl) h6 (λt' q=>by
   unfold eW;rw[Tb.bF t' rfl];by_cases z:t'=1
   .rw[Th z,Th z,NC,Y];rfl
   .rw[Tg z,Tg z]) e6
 have ba:S≠[]:=λe=>by
  have:=T6.h 1;rw[e]at this;unfold hW hZ at this;rw[Tb.bF 1 rfl,Th rfl]at this;cases this
 refine k _ tp _ a m _ (λ_ _=>[]) bl _ S (S6.trans st) (BA.same ⟨R6,aB,λt x G q e he=>?_,D6,p6,a7,T6,Kn,Kn,ba,sS _,l6⟩ st) (λt=>(h6 t).trans (Sn _)) aT ae;rw[Tb.bF t rfl]at G;by_cases z:t=1
 .rw[Th z]at G;cases G;rw[Y]at he;cases he
 .rw[Tg z]at G;cases G
end
end Lw
namespace L2
open PySem PySem.Spec PyProof.Rows
abbrev tY (o y:Str) (a b:Int) (O I:Nat) (S p2 R N J L G:Nj):KJ :=
 .BinOp (.BinOp (.BinOp (.Name o S) .Mult (.Constant (.int a) O p2) R) .Add (.Name y N) J) .Mod (.Constant (.int b) I L) G
section
variable {prog:ti}{w:Kl}{A:KA}{E:Value->mu->Prop}{s:mu}
theorem Cj {o y name L:Str}{a b n m:Int}{S i2:Nat}{p1 p2 p3 Y p5 R p7:Nj}{U:Qp}{scope:N3}{q c cm:Addr}{pm a2:Value}{t tm:SK}{Q:Value->mu->Prop}
  (ho:s.heap.get? q=some (RB name L U (tY o y a b S i2 p1 p2 p3 Y p5 R p7) scope [(y,cm)] pm c a2)) (a5:s.heap.CodeRec (.ref c) L) (ap:s.heap.NoLimit) (ac:A.depth<Ox)
  (aB:scope.isCoroutine=false) (as:scope.isGenerator=false) (J:scope.kind=.function) (O:scope.names=[(o,.local),(y,.free)]) (a0:o≠y)
  (hb:∀pm a1 ct u,Pj (kla_fn name L U (tY o y a b S i2 p1 p2 p3 Y p5 R p7) scope [(y,cm)] pm a1 ct) ⟨[u],[]⟩=pure [(o,u)])
  (am:(o==("__debug__" : Str))=false) (ai:(y==("__debug__" : Str))=false) (a3:(y==("__classdict__" : Str))=false)
  (a6:s.heap.IsCell cm (some (.int m tm))) (ha:ye n a) (a7:0<b)
  (k:∀h' tk t',(∀x G,s.heap.get? x=some G->h'.get? x=some G)->Q (.int ((n*a+m)%b) t') { s with heap:=h',toks:=tk }) :
  wpAny (model prog w) A (call (.ref q) [.int n t]) Q E s:=by
 refine QD (PySem.W.kla_callFunE ac ho rfl aB as rfl a5 ?_);rw[hb];have lo:scope.names.lookup o=some .local:=(by rw[O];simp);have ly:scope.names.lookup y=some .free:=(by rw[O];simp[Mi,beq_false_of_ne (qw a0)]);refine By (Ql (λx I=>?_) (λx I=>?_) (λab aT a4=>?_) J)
 .rw[O]at I;simp only[E3,Km,or_false]at I;rcases I with rfl|rfl<;>exact λz=>by cases z
 .obtain rfl:x=(o,Value.int n t):=(by simpa using I);exact lo
 have N:∀x G,s.heap.get? x=some G->ab.get? x=some G:=λx G e=>a4.extBut x G (KN (Heap.lt_size e)) (Heap.get?_push_of_some _ e);refine⟨ap.keeps N,PySem.W.kla_codeExpr ?_⟩;refine Qd (Qd (Qd (PB (Qb (v:=.int n t) J lo aT (by show Mi o [(o,Value.int n t)]=_;simp) ?_) am)));refine Oo (mul_int ?_ ha.ok);refine PB (Qs J ly (by show Mi y [(y,cm)]=_;simp) (a6.keeps N) ?_ a3) ai;refine add_int (Oo (mod_int' af ?_));rw[Ov _ af];exact k ab _ _ N
end
end L2
namespace Srt
open PySem PySem.Spec PyProof.Rows
section
variable {prog:ti}{w:Kl}{A:KA}{E:Value->mu->Prop}{s:mu}{T:String}{r d:Addr}{n:Nat}{P:Nat->Value->Prop}{OK:Heap->Prop}
theorem yJ:∀{vs:List Value}{ns:List Int},LY vs ns->∀{ps:List (Int×Value)}(g:Int->Int),ps.Perm ((ns.map g).zip vs)->∃ns',LY (ps.map Prod.snd) ns'/\ns'.Perm ns:=by
 intro vs ns h ps g p;have I:∀(l:List Value),l.Perm vs->∃ns',LY l ns'/\ns'.Perm ns:=by
  intro l q;clear p
  induction q generalizing ns with
  |nil=>exact⟨ns,h,.refl _⟩
  |cons x _ G =>
   cases h with
   |cons m t h =>
    obtain⟨ns',a,b⟩:=G h;exact⟨_,.cons m t a,b.cons m⟩
  |swap x y l =>
   cases h with
   |cons m t h =>
    cases h with
    |cons L U h=>exact⟨_,.cons L U (.cons m t h),.swap _ _ _⟩
  |trans _ _ N O =>
   obtain⟨n2,R,b2⟩:=O h;obtain⟨J,Y,S⟩:=N R;exact⟨J,Y,S.trans b2⟩
 refine I _ ((p.map Prod.snd).trans ?_);rw[List.map_snd_zip (by rw[nq,h.length];exact sS _)]
theorem wJ:∀{vs:List Value}{ns:List Int},LY vs ns->∀(i:Nat) {v:Value}{m:Int},vs[i]?=some v->ns[i]?=some m->∃t,v=.int m t
 |_,_,.cons n t h,0,_,_,a,b=>by cases a;cases b;exact⟨t,rfl⟩
 |_,_,.cons n t h,i+1,_,_,a,b=>wJ h i a b
 |_,_,.nil,_,_,_,a,_=>by cases a
theorem uM {ns:List Int}{g:Int->Int}{f L:Addr}{mL:Str->Option Value}{Q:Value->mu->Prop}(S:KdlSrc prog w T r d n P OK) (hh:A.handled=none) (bE:OK s.heap) (hP:∀(i:Nat) (v:Value),P i v->∃(m:Int) (t:SK),ns[i]?=some m/\v=.int m t) (hl:ns.length=n) (hz:n<64) (hL:s.heap.Ns L mL)
  (am:∀(h:Heap) (tk:Nat) (m:Int) (t:SK) (Q':Value->mu->Prop),m∈ns->(∀b o,b≠L->s.heap.get? b=some o->h.get? b=some o)->h.Ns L mL->(∀h' U t',(∀b o,h.get? b=some o->h'.get? b=some o)->Q' (.int (g m) t') { s with heap:=h',toks:=U })->wpAny (model prog w) A.in1.in1 (call (.ref f) [.int m t]) Q' (λ_ _=>False) { s with heap:=h,toks:=tk })
  (k:∀(h1 h':Heap) (tk:Nat) (out:Array Value) (ns':List Int) (e:Nat),(∀b o,s.heap.get? b=some o->h1.get? b=some o)->(∀b o,b≠L->h1.get? b=some o->h'.get? b=some o)->h'.Ns L mL->h'.get? h1.objs.size=some (seqObj "list" out e)->LY out.toList ns'->ns'.Perm ns->Q (.ref h1.objs.size) { s with heap:=h',toks:=tk }) :
  wpAny (model prog w) A (call (.builtin "sorted") [.ref r] [(Str.ofString "key",.ref f)]) Q E s:=by
 have lz:sizeLine=16777216:=BY;refine call_function_entry_kw Ro Q6 Q7 (ksk_s1 _ _) ?_;unfold Builtin.«sorted»;refine oR (m:=R0 "sorted" 1 1 _) (By (oR (kdu_collect (A:=A.in1) S hh bE af λh1 tk G I ai=>?_)));have ln:G.toList.length=n:=(by rw[Ly];exact ai.1);refine oR (O8 ?_ af);have hI:LY G.toList ns:=qG af λj v e=>hP j v (ai.2 j v (by rw[<-LJ];exact e));have Y:=Heap.get?_push_size h1 (o:=seqObj "list" G.toList.toArray 0) rfl;have kp:∀b o,s.heap.get? b=some o->(h1.push (seqObj "list" G.toList.toArray 0)).get? b=some o:=λb o e=>Heap.get?_push_of_some _ (I b o e);show wpAny _ _ _ _ _ { s with heap:=h1.push (seqObj "list" G.toList.toArray 0),toks:=tk };have LD:L≠h1.objs.size:=by
  obtain⟨o,_,_,e,_⟩:=hL;exact KN (Heap.lt_size (I _ _ e))
 refine oR (LS (wpAny_call_entry_kw Qk ⟨_,Y,rfl⟩ P1 ?_ (ksk_l1 _ _)));rw[ksk_t1];have F0:Fr (Att.kM (h1.push (seqObj "list" G.toList.toArray 0))) L (h1.push (seqObj "list" G.toList.toArray 0)) mL:=Att.Fj (hL.keeps kp);have N0:News (Att.kM (h1.push (seqObj "list" G.toList.toArray 0))) L (h1.push (seqObj "list" G.toList.toArray 0)) (Att.ledger (h1.push (seqObj "list" G.toList.toArray 0)) L h1.objs.size):=λp hp=>Att.tF (qw LD) Y p (KD _ hp);generalize hH:h1.push (seqObj "list" G.toList.toArray 0)=H at *;refine ksk_sort (s:={ s with heap:=H,toks:=tk }) (kz:=ns.map g) (b:=false) F0 N0 Y (qw LD) (Att.gq _ _) (λp hp=>(Att.gC.mp (show(p.1,p.2)∈_ from hp)).2.1) (by rw[nq];omega) af ?_ ?_
 .intro i v kk hv ac h R own F N;rw[wh]at ac;obtain⟨m,hm,rfl⟩:=vr.mp ac;obtain⟨t,rfl⟩:=wJ hI i hv hm;refine am h R m t _ (DD hm) (λb o nb e=>?_) F.ns λh' U t' ab=>⟨h',U,t',rfl,rfl,F.kept ab,N.grown ab⟩;by_cases J:b=h1.objs.size
  .exfalso;rw[J]at e;exact absurd (Heap.lt_size (I _ _ e)) (ML _)
  .exact(N (b,o) (Lp _ (Att.gC.mpr ⟨nb,J,kp b o e⟩))).1
 .intro h' R out c F N O;refine⟨_,rfl,By ⟨_,rfl,?_⟩⟩;obtain⟨ps,p1,p2,_⟩:=O;obtain⟨ns',i1,i2⟩:=yJ hI g p1;refine k h1 h' R out ns' c I (λb o nb e=>?_) F.ns (N _ (.head _)).1 (by rw[p2];exact i1) i2;have J:b≠h1.objs.size:=KN (Heap.lt_size e);exact(N (b,o) (KD _ (Att.gC.mpr ⟨nb,J,by rw[<-hH];exact Heap.get?_push_of_some _ e⟩))).1
end
end Srt
namespace L2
open PySem PySem.Spec PyProof.Rows
section
variable {X:Cx}{pins:List (Addr×Obj)}{σ:St}{H:Hp}{s:mu}{h':Heap}
theorem Inv.grow {p:Addr}{ps J:Array Value}{t':Nat}(I:Inv X pins σ H s) (e:H p=some (.tbl ps)) (k:∀b u,b≠p->s.heap.get? b=some u->h'.get? b=some u) (L:h'.get? p=some { cls:=.none,data:=.fields (ps++J) }) :
  Inv X pins σ (upd H p (.tbl (ps++J))) { s with heap:=h',toks:=t' }:=by
 have G:∀b,H b=none->b≠p:=λb z q=>(by rw[q,e]at z;cases z);refine I.step (g':=s.gens) (d':=s.drawn) (ch:=[]) (λ_ z=>nomatch z) (λb o _ _ _ q z=>k b o (G b z) q) (λb o _ _ _ q z=>⟨o.slots,k b o (G b z) q⟩) (λb o _ _ z=>by rw[ah (G b z)];exact z) (λb o _ q=>?_) (λb xs q=>?_) (λb o u q=>?_) (λb qs q=>?_) (λm N=>?_) (λb u q=>?_) I.bare
 .by_cases z:b=p
  .rw[z];exact⟨_,L⟩
  .exact⟨o,k b o z q⟩
 .rw[ah (λz=>by rw[z,e]at q;cases q)];exact q
 .rw[ah (λz=>by rw[z,e]at q;cases q)];exact q
 .by_cases z:b=p
  .rw[z,e]at q;cases q;rw[z,ae];exact⟨J,rfl⟩
  .rw[ah z,q];exact⟨#[],by simp⟩
 .obtain⟨o,es,ep,O,r⟩:=N;exact⟨o,es,ep,k _ o (G _ I.free) O,r⟩
 .by_cases z:b=p
  .rw[z,ae]at q;cases q;rw[z];exact L
  .rw[ah z]at q;refine(I.bE b u q).lQ (λc v R y=>k c v (λw=>?_) y) (λc y=>by rw[ah (λw=>by rw[w,e]at y;cases y)];exact y) λc xs y=>(by rw[ah (λw=>by rw[w,e]at y;cases y)];exact y);rcases R with y|y
   .exact z (y.symm.trans w)
   .rw[w,e]at y;cases y
theorem Inv.Hq {a:Addr}{o:HO}{t':Nat}{mL:Str->Option Value}(I:Inv X pins σ H s) (k:∀b u,b≠X.env.locals->s.heap.get? b=some u->h'.get? b=some u) (R:s.heap.Ns X.env.locals mL) (O:h'.Ns X.env.locals mL) (N:s.heap.objs.size<=a) (new:bS X.prog X.w (upd H a o) h' a o) :
  Inv X pins σ (upd H a o) { s with heap:=h',toks:=t' }:=by
 have G:=I.bE.fresh N;have lt:∀b u,s.heap.get? b=some u->b≠a:=λb u q=>KN (Kw (Heap.lt_size q) N);have L:∀b u,H b=some u->b≠X.env.locals:=λb u q z=>(by rw[z,I.free]at q;cases q);refine I.step (g':=s.gens) (d':=s.drawn) (ch:=[]) (λ_ z=>nomatch z) (λb o J _ _ q _=>k b o J q) (λb o J _ _ q _=>⟨o.slots,k b o J q⟩) (λb o _ q z=>by rw[ah (lt b o q)];exact z) (λb o _ q=>?_) (λb xs q=>by rw[ah (au q G)];exact q) (λb o u q=>by rw[ah (au q G)];exact q) (λb qs q=>⟨#[],by rw[ah (au q G),q];simp⟩) (λm h=>?_) (λb u q=>?_) I.bare
 .by_cases z:b=X.env.locals
  .rw[z];obtain⟨o',_,_,e,_⟩:=O;exact⟨o',e⟩
  .exact⟨o,k b o z q⟩
 .rw[h.eq_nsMap, <-R.eq_nsMap];exact O
 .by_cases z:b=a
  .rw[z,ae]at q;cases q;rw[z];exact new
  .rw[ah z]at q;refine(I.bE b u q).lQ (λc v S y=>k c v ?_ y) (λc y=>by rw[ah (au y G)];exact y) λc xs y=>(by rw[ah (au y G)];exact y);rcases S with w|w
   .rw[w];exact L b u q
   .exact L c _ w
end
structure FW (X:Cx) (params:Qp) (body:KJ) (scope:N3) (o y:Str) (cm c p:Addr) (im:Nat):Prop where
 df:defaultsOf params X.env=([],[])
 cl:closureFor scope X.env=pure [(y,cm)]
 JS:X.env.cells.lookup y=some cm
 kd:X.env.kindOf y=some .cell
 at_:X.N[im]?=some y
 code:X.env.code=.ref c
 hd:Qn X.K c p=true
 bm:X.base.BuiltinsAt X.mg p
 co:scope.isCoroutine=false
 gen:scope.isGenerator=false
 kind:scope.kind=.function
 nm:scope.names=[(o,.local),(y,.free)]
 oy:o≠y
 bind:∀name qual pm cdv ct u,Pj (kla_fn name qual params body scope [(y,cm)] pm cdv ct) ⟨[u],[]⟩=pure [(o,u)]
 d1:(o==("__debug__" : Str))=false
 d2:(y==("__debug__" : Str))=false
 d3:(y==("__classdict__" : Str))=false
inductive FI (im:Nat) (p:Addr) (σ:St) (Q:VK) (x:V) (H1:Hp):Prop
 |mk (a:Addr) (kvs:List (Key×V)) (ns:List Int) (m:Int) (_:x=.ref a) (_:H1 a=some (.dK kvs)) (_:kvs.map (·.1)=ns.map vu) (_:ns.length<64) (_:σ[im]?=some (some (.int m))) (_:H1 p=some (.tbl #[])) (_:∀(l:Addr) (ns':List Int) (more:Array Value),H1 l=none->ns'.Perm ns->Q (.ref l) (upd (upd H1 p (.tbl more)) l (.lst (ns'.map V.int)))):FI im p σ Q x H1
def Kg (im:Nat) (p:Addr) (td:TE):TE:=λσ H Q=>td σ H λx H1=>FI im p σ Q x H1
section
variable {X:Cx}
theorem wA {e:KJ}{td:TE}{im i1 R:Nat}{c cm p:Addr}{o y:Str}{a b:Int}{Y p2 p3 p4 U p6 O pp lp kp cpos:Nj}{S:Qp}{scope:N3}(he:PE X e td) (hc:X.calm=true) (hg:Gl X "sorted") (hm:X.mg "sorted" = none)
  (L:FW X S (tY o y a b i1 R Y p2 p3 p4 U p6 O) scope o y cm c p im) (bv:X.A.depth<Ox) (ha : -(2^64)<a/\a<2^64) (hb:0<b) (ap:backTo cpos (starEach [e] X.env)=[(false,eval e X.env)]:=by rfl) :
  PE X (.Call (.Name "sorted" pp) [e] [⟨some "key",.Lambda S (tY o y a b i1 R Y p2 p3 p4 U p6 O) scope lp,kp⟩] cpos) (Kg im p td):=by
 intro pins s σ H Q I h;refine L4 (gE I hg hm gc ?_ av av);refine callWith_kw ?_ ap (by rw[ap];rfl);rw[ap];refine Calls.spliced_cons (bT (he pins s σ H _ I h) λu J hz=>?_);obtain⟨x,H1,G,rx,d,kvs,ns,m,rfl,hd,hk,hn,bx,hP,k⟩:=hz;obtain rfl:u=Value.ref d:=rx;refine Calls.spliced_nil (kws_cons (PySem.W.kla_eval L.df ?_));have bl:J.heap.get? p=some (NO #[]):=G.bE p _ hP;have hG:J.heap.Ns KP X.mg:=G.mod.glob.keeps G.bk;have gP:KP≠p:=λz=>by
  obtain⟨ob,_,_,e1,_⟩:=G.mod.glob;have:=(G.bs _ _ e1).2;rw[z,hP]at this;cases this
 have bA:J.heap.BuiltinsAt X.mg p:=by
  obtain⟨bm,ob,b1,b2,b3,b4,b5,b6⟩:=L.bm;exact⟨bm,ob,b1,b2,b3,b4,G.bk _ _ b5,b6⟩
 refine PySem.W.kla_makeFunction (mg:=X.mg) L.cl G.ok.glob hG L.code (codeHd_of_K G.jW L.hd) bl trivial rfl gP bA λN ac h2 tk hx aT b7 ba bc=>?_;refine kws_nil ?_;have I2:Inv X pins σ (upd H1 p (.tbl (#[] ++ #[Sz lp.line,Sz lp.col,.ref N]))) { J with heap:=h2,toks:=tk }:=G.grow hP (λb u nb q=>hx b u nb q) bc;have I3:=I2.kept (h':=h2.push (RB "<lambda>" (X.env.qual ++ "<lambda>") S (tY o y a b i1 R Y p2 p3 p4 U p6 O) scope [(y,cm)] ((X.mg "__name__").getD .none) N ac)) (t':=tk) λb u q=>Heap.get?_push_of_some _ q;have dp:d≠p:=λz=>(by rw[z,hP]at hd;cases hd);generalize (#[] ++ #[Sz lp.line,Sz lp.col,.ref N]:Array Value)=ab at *;have a3:upd H1 p (.tbl ab) d=some (.dK kvs):=(by rw[ah dp];exact hd);obtain⟨_,a6,vs,a5,dd⟩:=fU I3.bE a3;obtain⟨ep,b0⟩:=dd.dictAt;have el:vs.map (·.1)=ns.map vu:=(by rw[<-a5.keys];exact hk);have ll:ns.length=vs.length:=by
  have:=congrArg LI el;simpa using this.symm
 obtain⟨mL,aB,bd⟩:=id I3.loc;obtain⟨u,ru,lu⟩:=bd im y (.int m) L.at_ bx (.inr (.inl L.kd));obtain⟨tm,rfl⟩:=ru;have b8:(h2.push (RB "<lambda>" (X.env.qual ++ "<lambda>") S (tY o y a b i1 R Y p2 p3 p4 U p6 O) scope [(y,cm)] ((X.mg "__name__").getD .none) N ac)).IsCell cm (some (.int m tm)):=by
  rcases lu with⟨z,_⟩|⟨_,c2,e2,z⟩
  .rw[L.kd]at z;cases z
  .rw[L.JS]at e2;cases e2;exact z
 have a4:cm≠X.env.locals:=I3.Dv _ _ L.JS;have Lc:X.env.locals<J.heap.objs.size:=G.lt;have hs:=BY;have bz:J.heap.objs.size<=h2.objs.size:=Ko aT (QN b7);have ho:=Heap.get?_push_size h2 (o:=RB "<lambda>" (X.env.qual ++ "<lambda>") S (tY o y a b i1 R Y p2 p3 p4 U p6 O) scope [(y,cm)] ((X.mg "__name__").getD .none) N ac) rfl;generalize hH:h2.push (RB "<lambda>" (X.env.qual ++ "<lambda>") S (tY o y a b i1 R Y p2 p3 p4 U p6 O) scope [(y,cm)] ((X.mg "__name__").getD .none) N ac)=h3 at *;refine Srt.uM (s:={ J with heap:=h3,toks:=tk }) (g:=λn=>(n*a+m)%b) (L:=X.env.locals) (mL:=mL) (kdl_dict (knd:=br X.prog X.w) (kvs:=vs) (ep:=ep) (d:=d) a6) (G.ok.hd hc) b0 (ns:=ns) (λi w' hw=>?_) ll af aB ?_ ?_
 .obtain⟨k,x,e1,e2⟩:=hw;have e3:(vs.map (·.1))[i]?=some k:=(by rw[wh,e1];rfl);rw[el,wh]at e3;cases e4:ns[i]? with
  |none=>rw[e4]at e3;cases e3
  |some m =>
   rw[e4]at e3;obtain rfl:vu m=k:=ro e3;obtain⟨t,rfl⟩:=ml e2;exact⟨m,t,rfl,rfl⟩
 .intro h am n t Q' ca kp as kk;have bb:h.NoLimit:=G.ok.mod.nolimit.keeps λb u q=>kp b u (KN (Kw (Heap.lt_size q) (Ko G.ok.AE G.ok.above))) (I3.bk b u q);obtain⟨cc,oc,a2,tq,bI,be,bi,hq⟩:=ba;cases bI;have a1:h.CodeRec (.ref N) (X.env.qual ++ "<lambda>"):=⟨N,oc,a2,tq,rfl,kp _ _ (Pf (Kw Lc aT)) (by rw[<-hH];exact Heap.get?_push_of_some _ be),bi,hq⟩;refine Cj (tm:=tm) (s:={ J with heap:=h,toks:=am }) (kp _ _ (Pf (Kw Lc bz)) ho) a1 bb bv L.co L.gen L.kind L.nm L.oy (L.bind _ _) L.d1 L.d2 L.d3 ?_ (.inr ha) hb λh4 a0 t4 k4=>kk h4 a0 t4 k4;obtain⟨oo,a7,bY⟩:=b8;exact⟨oo,kp _ _ a4 a7,bY⟩
 .intro h1 h' am out ns' ee k1 k2 as he ai pm;have I4:Inv X pins σ (upd H1 p (.tbl ab)) { J with heap:=h1,toks:=tk }:=I3.kept k1;have fr:upd H1 p (.tbl ab) h1.objs.size=none:=I4.bE.fresh (sS _);have bn:h1.Ns X.env.locals mL:=aB.keeps k1;refine⟨.ref h1.objs.size,_,I4.Hq (t':=am) (a:=h1.objs.size) (o:=.lst (ns'.map V.int)) k2 bn as (sS _) (show bS X.prog X.w _ _ _ (.lst (ns'.map V.int))from⟨by rw[nq,pm.length_eq];omega,out.toList,ee,fZ ai,by simpa using he⟩),rfl,k _ ns' ab ?_ pm⟩;by_cases z:h1.objs.size=p
  .rw[z,ae]at fr;cases fr
  .rw[ah z]at fr;exact fr
end
section
variable {P:ti}{w:Kl}{K:Kq}{mg:Str->Option Value}{base:Heap}
theorem cD.HZ {x I:Str}{st:KO}{f:Addr}{fd:rn}{N ps:List Str}{k:Nat}{sp:Sp}(F:cD K x I st f fd) (S:aD N ps (aw st)) (len:∀vs H Q E,sp vs H Q E->vs.length=ps.length)
  (U:∀(G:Value) (A:KA) (outer:List Ss) (s:mu) (H:Hp) (vs:List V) (Q:VK) (E:XK),G=fd.code->dn k (A.deeper (OY I (aw st) s.heap.objs.size f G))->sp vs H Q E ->
   ∃t,uc (rW aS P w K mg base N I (aw st) f G A outer s H E).Bz (dh st) t/\t { nx:=λ_ H'=>Q .non H',rt:=Q } (start N vs) H):aZ P w K mg base aS (k+1) f fd ps sp:=by
 obtain⟨oc,od,kV,Y,pm,an,G,ct,ab,rfl,L,R⟩:=F.ex;refine Dt L R S len λA outer s H vs Q E O J=>?_;obtain⟨t,h,q⟩:=U G A outer s H vs Q E rfl O J;exact⟨t,h.Bz,q⟩
end
end L2
namespace Lw
open PySem L2 St
abbrev m7:KO:=top 49
section
variable {c:CA}{H H':Hp}{M M':Addr->Prop}{a:RA}{m:MA}{nf ns k:Nat}{s s':Pg.PS}{cv cv':Int->Int->List Int}{W W':di}{Z:Zs}{bC pk:Int}{p:Addr}{ps qs:Array Value}
theorem sH (R:aA c H M a s W) (hp:H p=some (.tbl ps)):aA c (upd H p (.tbl qs)) M a s W:=by
 have k:∀{b o},H b=some o->(∀ps,o≠.tbl ps)->upd H p (.tbl qs) b=some o:=λ{b o} e n=>by
  rw[ah (λz=>by rw[z,hp]at e;cases e;exact n _ rfl)];exact e
 have st:∀{C q ow co os pg},aQ C H M q ow co os pg->aQ C (upd H p (.tbl qs)) M q ow co os pg:=λS=>by
  obtain⟨⟨dx,h1⟩,Y,cs,ab,O⟩:=S;refine⟨⟨dx,k h1 nofun⟩,k Y nofun,cs,k ab nofun,Paired.yo O λv x z=>?_⟩;cases v<;>cases x<;>first|exact z|exact⟨z.1,k z.2 nofun⟩
 obtain⟨dx,h1⟩:=R.ob;obtain⟨J,h2⟩:=R.pg.ob;obtain⟨l,hd,nd,I,hl,L⟩:=R.pg.pd;refine⟨⟨dx,k h1 nofun⟩,⟨⟨J,k h2 nofun⟩,st R.pg.fr,st R.pg.sl,k R.pg.il nofun,R.pg.le,⟨l,k hd nofun,nd,λx G=>k (I x G) nofun,hl,L⟩⟩,R.ok,λb mb z=>?_,k R.hd nofun,R.nd,λx G=>⟨?_,(R.tb x G).nd,(R.tb x G).lk⟩,R.dm,R.np,R.dj,R.Dg,R.Bx,R.y4⟩
 .by_cases q:b=p
  .rw[q,ae]at z;cases z
  .rw[ah q]at z;exact R.mt b mb z
 .obtain⟨⟨dx,h1⟩,h2,h3,U,h5,N,h7⟩:=(R.tb x G).at_;exact⟨⟨dx,k h1 nofun⟩,k h2 nofun,λx G=>k (h3 x G) nofun,λx G=>(U x G).keep λb xs e=>k e nofun,h5,N,h7⟩
structure xG (c:CA) (H:Hp) (M:Addr->Prop) (a:RA) (m:MA) (nf ns k:Nat) (s:Pg.PS) (cv:Int->Int->List Int) (W:di) (Z:Zs) (bC pk:Int):Prop where
 R:aA c H M a s W
 ri:Pg.RI s (ents W)
 cv:Cv s W cv
 D:cp H m bC pk Z
 sp:∀b,cM m Z b->M b/\¬ a.own W b
 lf:(s.ow true).length=nf
 ls:(s.ow false).length=ns
 lw:W.length<=k
theorem xG.step (S:xG c H M a m nf ns k s cv W Z bC pk) (R:aA c H' M' a s' W') (I:Pg.RI s' (ents W')) (J:Cv s' W' cv') (st:Step H M (a.own W) H' M' (a.own W')) (G:∀b,(s'.ow b).length=(s.ow b).length) (L:W'.length<=W.length):xG c H' M' a m nf ns k s' cv' W' Z bC pk:=by
 obtain⟨D,sp⟩:=m5 S.D S.sp st;exact⟨R,I,J,D,sp,(G true).trans S.lf,(G false).trans S.ls,Ko L S.lw⟩
theorem xG.same (S:xG c H M a m nf ns k s cv W Z bC pk) (h:bg H H'):xG c H' M a m nf ns k s cv W Z bC pk:=⟨S.R.same h,S.ri,S.cv,S.D.same h,S.sp,S.lf,S.ls,S.lw⟩
theorem xG.kept (S:xG c H M a m nf ns k s cv W Z bC pk) (st:Step H M (a.own W) H' M' (a.own W')) {b:Addr}{o:HO}(G:H b=some o) (I:¬ M b):H' b=some o/\¬ M' b :=
 ⟨st.off _ _ G λw=>I (S.R.dB _ w),λz=>(st.mn _ z).elim I λz=>by rw[G]at z;cases z⟩
end
inductive Iw (c:CA) (a:RA) (m:MA) (nf ns k:Nat) (Z:Zs) (bC pk mm:Int) (l:Addr) (ts:List Int) (i:Nat) (σ:L2.St) (H:Hp):Prop
 |mk (v3 v4 v5:Option V) (M:Addr->Prop) (s:Pg.PS) (cv:Int->Int->List Int) (W:di) (_:σ=[some (.ref a.rp),some (.ref m.md),some (.int mm),v3,v4,v5]) (_:xG c H M a m nf ns k s cv W Z bC pk) (_:H l=some (.lst (ts.map V.int))) (_:¬ M l) (_:∀t∈ts.take i,∀q,eW W t q=none) (_:∀t,t∉ts.take i->(∀q,eW W t q=none↔eZ Z t q=none)/\hW W t=hZ Z t) (_:∀t,hW W t=true->hZ Z t=true):Iw c a m nf ns k Z bC pk mm l ts i σ H
inductive JR (c:CA) (a:RA) (m:MA) (nf ns k:Nat) (Z:Zs) (bC pk mm:Int) (l:Addr) (ts:List Int) (W0:di) (i:Nat) (t:Int) (z:MT) (l2:Addr) (ps:List Int) (j:Nat) (σ:L2.St) (H:Hp):Prop
 |mk (v5:Option V) (M:Addr->Prop) (s:Pg.PS) (cv:Int->Int->List Int) (W:di) (x:TD) (_:σ=[some (.ref a.rp),some (.ref m.md),some (.int mm),some (.int i),some (.int t),v5]) (_:xG c H M a m nf ns k s cv W Z bC pk) (_:H l=some (.lst (ts.map V.int))) (_:¬ M l) (_:H l2=some (.lst (ps.map V.int))) (_:¬ M l2) (_:Tb.look W t=some x) (_:∀q,Tb.look x.t q=none↔(Tb.look z.pl q=none\/q∈ps.take j)) (_:∀t' q,t'≠t->eW W t' q=eW W0 t' q) (_:∀t',hW W t'=hW W0 t'):JR c a m nf ns k Z bC pk mm l ts W0 i t z l2 ps j σ H
inductive JT (c:CA) (a:RA) (m:MA) (nf ns k:Nat) (Z:Zs) (bC pk mm:Int) (l:Addr) (ts:List Int) (W0:di) (i:Nat) (t:Int) (σ:L2.St) (H:Hp):Prop
 |mk (v5:Option V) (M:Addr->Prop) (s:Pg.PS) (cv:Int->Int->List Int) (W:di) (x:TD) (_:σ=[some (.ref a.rp),some (.ref m.md),some (.int mm),some (.int i),some (.int t),v5]) (_:xG c H M a m nf ns k s cv W Z bC pk) (_:H l=some (.lst (ts.map V.int))) (_:¬ M l) (_:Tb.look W t=some x) (_:∀t' q,t'≠t->eW W t' q=eW W0 t' q) (_:∀t',hW W t'=hW W0 t'):JT c a m nf ns k Z bC pk mm l ts W0 i t σ H
theorem mG:∀{ts:List Int},ts.Nodup->∀{i:Nat}{t:Int},ts[i]?=some t->t∉ts.take i
 |_,_,0,_,_=>by rw[Qr];exact Km
 |x::r,G,i+1,t,h=>λz=>by
  have h:r[i]?=some t:=h;rw[List.take_succ_cons]at z;rcases E3.mp z with z|z
  .exact(Ky.mp G).1 (z▸DD h)
  .exact mG (Ky.mp G).2 h z
 | [],_,i+1,_,h=>by cases h
inductive kq (c:CA) (p:Addr) (vs:List V) (H:Hp) (Q:VK) (e3:XK):Prop
 |mk (M:Addr->Prop) (a:RA) (m:MA) (nf ns k:Nat) (s:Pg.PS) (cv:Int->Int->List Int) (pk:Int) (W:di) (Z:Zs) (mm:Int) (_:vs=[.ref a.rp,.ref m.md,.int mm]) (_:BA c H M a m nf ns k s cv pk W Z) (_:k<=63) (_:H p=some (.tbl #[])) (_:∀(H':Hp) (M':Addr->Prop) (s':Pg.PS) (cv':Int->Int->List Int) (W':di),aA c H' M' a s' W'->Pg.RI s' (ents W')->Cv s' W' cv'->ents W'=[]->(∀t,hW W' t=true->hZ Z t=true)->(s'.ow true).length=nf->(s'.ow false).length=ns->W'.length<=k->Q .non H'):kq c p vs H Q e3
theorem AL {W:di}(h:∀x∈W,x.2.t=[]):ents W=[]:=by
 induction W with
 |nil=>rfl
 |cons x W G =>
  show su x.2.t++ents W=[];rw[h x (.head _),G λy I=>h y (.tail _ I)];rfl
section
variable {P:ti}{w:Kl}{K:Kq}{mg:Str->Option Value}{base:Heap}
theorem CJ:aD ["_law_kept","_law_model_here","_law_m","_law_k","_law_task","_law_page"] ["_law_kept","_law_model_here","_law_m"] (aw m7):=L2.bD
theorem vj {f cc p:Addr}{fd:rn}{c:CA}(F:cD K "_law_emptied" "_law_emptied" m7 f fd) (b0:fd.code=.ref cc) (b7:Qn K cc p=true) (BM:base.BuiltinsAt mg p) (T:ke mg) (TR:oV K mg c) (MK:Hv P w K mg base c) :
  aZ P w K mg base aS 7 f fd ["_law_kept","_law_model_here","_law_m"] (kq c p):=by
 refine F.HZ CJ (λvs H Q E h=>?_) (λcC A outer s H vs Q E bx hr h=>?_)
 .obtain⟨M,a,m,nf,ns,k,s',cv,pk,W,Z,mm,rfl,_⟩:=h;rfl
 .obtain⟨M,a,m,nf,ns,k,s',cv,pk,W,Z,mm,rfl,S,hk,hp,q⟩:=h;have hs:=BY;rw[b0]at bx;subst bx;refine⟨_,(ao (cL Kt rfl (wG (by rfl) T.enumerate (aa (wA (im:=2) (o := "_law_one") (y := "_law_m") (cm:=s.heap.objs.size+1) (c:=cc) (p:=p) (bt (bf hr) (pv 1) aN cq) rfl (by rfl) T.sorted (by exact⟨rfl,by kernel_rfl,by kernel_rfl,rfl,rfl,rfl,b7,BM,rfl,rfl,rfl,rfl,av,λ_ _ _ _ _ _=>rfl,av,av,av⟩) (MY (Ko (NV _ _) (NV _ _)) hr.dp) av av) aj)) (dS rfl (bo (gG 3 CJ.nd) (bo (gG 4 CJ.nd) cX))) (ag (aU (aE ij (ay bu (ay bB (pv 2) (ay aV (pv 3) ak)) ak) ak (aI _)) (ag (cL Kt rfl (eK (aP (gB rfl) (by rfl) T.sorted gc (aa (bt (bf hr) (bt (bf hr) (pv 1) aN cq) (pv 4) cq) aj))) (gG 5 CJ.nd) (ao (aL (pm (pv 0) TR.cl MK.JG hr az (aa (pv 4) (aa (pv 5) (aa ak aj)))))))
   (ao (aU (aE bR (ay bu (ay bB (pv 2) (ay aV (pv 3) ak)) ak) ak (aI _)) (ao rS) aH))) aH)
   (ao (aL (pm (pv 0) TR.cl MK.JV hr az (aa (pv 4) aj))))))),?_⟩
  have b4:(Tb.dk jb Z).map (·.1)=(Z.map (·.1)).map vu:=(by unfold Tb.dk;rw[Lx,Lx];rfl);refine⟨_,rfl,m.md,.ref m.lr,rfl,S.D.g (xO _ _ _ _),m.lr,_,Z.map (·.1),mm,rfl,S.D.hr,b4,by rw[nq];have:=S.lz;omega,rfl,hp,λl ts a0 hl pm=>⟨l,rfl,⟨_,bq.of ae⟩,?_⟩⟩;have lp:l≠p:=λz=>(by rw[z,hp]at hl;cases hl);have bv:upd H p (.tbl a0) l=none:=(by rw[ah lp];exact hl);have sl:=Tb.ar (X:=.lst (ts.map V.int)) bv;have oP:Off (· = p) H (upd H p (.tbl a0)):=Off.wr rfl;have zp:∀b,cM m Z b->¬ b=p:=λb z e=>by
   rcases S.D.alive b z with⟨_,h⟩|⟨_,h⟩
   .rw[e,hp]at h;cases h
   .rw[e,hp]at h;cases h
  have E1:xG c (upd (upd H p (.tbl a0)) l (.lst (ts.map V.int))) M a m nf ns k s' cv W Z (bC s') pk:=xG.same ⟨sH S.R hp,S.ri,S.cv,S.D.off oP zp,S.sp,S.lf,S.ls,S.lw⟩ sl;have aT:¬ M l:=λz=>S.R.mt l z hl;have h1:upd (upd H p (.tbl a0)) l (.lst (ts.map V.int)) l=some (.lst (ts.map V.int)):=ae;have ci:ts.Nodup:=pm.nodup_iff.mpr S.D.nd;have cr:ts.length<=63:=(by rw[pm.length_eq,nq];have:=S.lz;omega);have i1:∀t,(∀q,eW W t q=none↔eZ Z t q=none)/\hW W t=hZ Z t:=λt=>by
   refine⟨λq=>?_,S.tw.h t⟩;have:=S.tw.e t q;constructor
   .intro z;rw[z]at this;cases y:eZ Z t q with|none=>rfl|some v=>rw[y]at this;cases this
   .intro z;rw[z]at this;cases y:eW W t q with|none=>rfl|some v=>rw[y]at this;cases this
  have lZ:=S.lz;generalize bC s'=tt at *;generalize upd (upd H p (.tbl a0)) l (.lst (ts.map V.int))=H1 at *;refine tL (K:=K) (a:=l) (xs:=ts.map V.int) (Iw c a m nf ns k Z tt pk mm l ts) ⟨_,_,_,M,s',cv,W,rfl,E1,h1,aT,(λt z=>by simp at z),λt _=>i1 t,λt z=>by rw[<-(i1 t).2];exact z⟩ (λi σ H2 _ z0=>by obtain⟨_,_,_,_,_,_,_,_,_,h,_⟩:=z0;exact bq.of h) ?_ ?_
  .clear E1 h1 aT i1 oP zp hl bv sl lp S hp M s' cv W;rintro i x σ H2 T' O hT ⟨v3,v4,v5,M,s2,cv,W,rfl,L,a7,aT,g1,g2,g3⟩;have hi:i<ts.length:=(by have:=(j1.mp O).1;rwa [nq]at this);rw[wh]at O;obtain⟨t,ht,rfl⟩:=vr.mp O;have tn:=mG ci ht;obtain⟨G,ab,rfl⟩:=rk.mp (pm.mem_iff.mp (DD ht));have ez:Tb.look Z G.1=some G.2:=Tb.bL L.D.nd ab;obtain⟨x,O⟩:∃x,Tb.look W G.1=some x:=by
    have:=(g2 _ tn).2;unfold hW hZ at this;rw[ez]at this;cases e:Tb.look W G.1 with
    |some x=>exact⟨x,rfl⟩
    |none=>rw[e]at this;cases this
   have sT:=Tb.ar (X:=.tup [.int i,.int G.1]) hT;refine⟨T',[.int i,.int G.1],rfl,bZ.of ae,rfl,_,_,rfl,_,_,rfl,rfl,?_⟩;have J:=L.same sT;have bI:=sT _ _ a7;generalize upd H2 T' (.tup [.int i,.int G.1])=H3 at *;clear L a7 sT hT;have bA:∀{H9 M9 s9 bl W9 bE bz ba},xG c H9 M9 a m nf ns k s9 bl W9 Z tt pk->H9 l=some (.lst (ts.map V.int))->¬ M9 l->(∀q,eW W9 G.1 q=none)->(∀t' q,t'≠G.1->eW W9 t' q=eW W t' q)->(∀t',t'≠G.1->hW W9 t'=hW W t')->Iw c a m nf ns k Z tt pk mm l ts (i+1) [some (.ref a.rp),some (.ref m.md),some (.int mm),bE,bz,ba] H9:=λ{H9 M9 s9 bl W9 bE bz ba} a1 a2 a3 a4 a5 a6=>by
    refine⟨_,_,_,M9,s9,bl,W9,rfl,a1,a2,a3,λt' z q=>?_,λt' z=>?_,λt' z=>?_⟩
    .by_cases y:t'=G.1
     .rw[y];exact a4 q
     .rw[a5 t' q y];rw[Lu,ht]at z;rcases pa.mp z with z|z
      .exact g1 t' z q
      .exact absurd (by simpa using z) y
    .rw[Lu,ht]at z;have y:t'≠G.1:=λy=>z (pa.mpr (.inr (by simp[y])));have z':t'∉ts.take i:=λy=>z (pa.mpr (.inl y));exact⟨λq=>by rw[a5 t' q y];exact(g2 t' z').1 q,by rw[a6 t' y];exact(g2 t' z').2⟩
    .by_cases y:t'=G.1
     .unfold hZ;rw[y,ez];rfl
     .rw[a6 t' y]at z;exact g3 t' z
   refine mK (JT c a m nf ns k Z tt pk mm l ts W i G.1) (λbY QQ ji je=>?A) ?B
   case A =>
    refine⟨_,rfl,_,rfl,_,_,rfl,rfl,_,_,rfl,rfl,⟨af,af⟩,_,_,rfl,rfl,DB,_,_,rfl,rfl,_,rfl,?_⟩;refine vD (λ_=>ji _ ?_) (λ_=>je _ ⟨v5,M,s2,cv,W,x,rfl,J,bI,aT,O,λ_ _ _=>rfl,λ_=>rfl⟩);have b1:(Tb.dk gb G.2.pl).map (·.1)=(G.2.pl.map (·.1)).map vu:=(by unfold Tb.dk;rw[Lx,Lx];rfl);have cx:G.2.pl.length<=64:=J.D.len ab;refine⟨_,rfl,m.md,.ref m.lr,rfl,J.D.g (xO _ _ _ _),_,rfl,m.lr,_,rfl,dQ J.D.hr ez,G.2.ra,_,G.2.pl.map (·.1),rfl,J.D.rm _ ab,b1,J.D.np _ ab,by rw[nq];omega,λY ps a7 bm _=>⟨Y,rfl,⟨_,bq.of ae⟩,?_⟩⟩;have s4:=Tb.ar (X:=.lst (ps.map V.int)) a7;have E4:=J.same s4;have b6:=s4 _ _ bI;have b2:upd H3 Y (.lst (ps.map V.int)) Y=some (.lst (ps.map V.int)):=ae;have ce:¬ M Y:=λz=>J.R.mt Y z a7;generalize upd H3 Y (.lst (ps.map V.int))=H4 at *;have ca:ps.Nodup:=bm.nodup_iff.mpr (J.D.np _ ab);have b8:∀q,Tb.look x.t q=none↔Tb.look G.2.pl q=none:=λq=>by
     have:=(g2 _ tn).1 q;rw[nc O,sW ez]at this;rw[this];cases Tb.look G.2.pl q with
     |none=>exact⟨λ_=>rfl,λ_=>rfl⟩
     |some _=>exact⟨nofun,nofun⟩
    refine eh (K:=K) (a:=Y) (xs:=ps.map V.int) (JR c a m nf ns k Z tt pk mm l ts W i G.1 G.2 Y ps) ⟨_,M,s2,cv,W,x,rfl,E4,b6,aT,b2,ce,O,λq=>by rw[b8 q];exact⟨.inl,λz=>z.elim id λz=>by simp at z⟩,λ_ _ _=>rfl,λ_=>rfl⟩ (λj σ H5 _ z0=>by obtain⟨_,_,_,_,_,_,_,_,_,_,h,_⟩:=z0;exact bq.of h) ?_ ?_
    .rintro j u σ H5 hu ⟨ba,M5,s5,ap,U,x5,rfl,I,ac,am,b5,ch,N,bb,as,ai⟩;rw[wh]at hu;obtain⟨pg,bc,rfl⟩:=vr.mp hu;obtain⟨y,hy,rfl⟩:=rk.mp (bm.mem_iff.mp (DD bc));obtain⟨y0,y1⟩:=J.D.rg G ab y hy;have ly:Tb.look G.2.pl y.1=some y.2:=Tb.bL (J.D.np _ ab) hy;have pn:=mG ca bc;have bn:Rm.aK y.1 1=[y.1]:=(by unfold Rm.aK;simp);obtain⟨dx,ho⟩:=I.R.ob;refine⟨_,rfl,a.rp,dx,_,rfl,ho,fV _ _ _ aq aq aq,_,rfl,_,rfl,M5,a,s5,U,ap,G.1,y.1,1,x5,rfl,I.R,I.ri,I.cv,N,by unfold Rm.cg;omega,λq hq=>?_,λH6 M6 s6 y6 R6 bi be b3 aB bd=>?_⟩
     .rw[bn]at hq;rw[kQ.mp hq];intro z;rcases(bb y.1).mp z with z|z
      .rw[ly]at z;cases z
      .exact pn z
     .obtain⟨k1,k2⟩:=I.kept aB ac am;obtain⟨k3,k4⟩:=I.kept aB b5 ch;refine⟨_,M6,s6,ap,_,y6,rfl,I.step R6 bi be aB bd (by rw[Tb.ed];exact sS _),k1,k2,k3,k4,by rw[Tb.bO _ N,Th rfl],λq=>?_,λt' q n=>?_,λt'=>?_⟩
      .rw[b3 q,bn,Lu,bc];by_cases z:q=y.1
       .rw[Th (by simp[z])];exact⟨λ_=>.inr (pa.mpr (.inr (by simp[z]))),λ_=>rfl⟩
       .rw[Tg (by simpa using z),bb q];refine⟨λh=>h.imp id λh=>pa.mpr (.inl h),λh=>h.imp id λh=>?_⟩;rcases pa.mp h with h|h
        .exact h
        .exact absurd (by simpa using h) z
      .rw[rA N,Tg n];exact as t' q n
      .rw[pZ N];exact ai t'
    .rintro σ H5 ⟨ba,M5,s5,ap,U,x5,rfl,I,ac,am,_,_,N,bb,as,ai⟩;rw[nq,LC]at bb;have all:∀q,eW U G.1 q=none:=λq=>by
      rw[nc N];refine(bb q).mpr ?_;cases e:Tb.look G.2.pl q with
      |none=>exact .inl rfl
      |some u=>exact .inr (bm.mem_iff.mpr (rk.mpr ⟨_,Tb.aC e,rfl⟩))
     dsimp only;refine wC λQQ ji je=>?_;refine⟨_,rfl,_,rfl,_,_,rfl,rfl,_,_,rfl,rfl,⟨af,af⟩,_,_,rfl,rfl,DB,rfl,_,rfl,?_⟩;refine vD (λ_=>ji _ ?_) (λ_=>je _ ?_)
     .exact bA I ac am all as λt' _=>ai t'
     .exact bY _ _ ⟨_,M5,s5,ap,U,x5,rfl,I,ac,am,N,as,ai⟩
   case B =>
    rintro σ H5 ⟨ba,M5,s5,ap,U,x5,rfl,I,ac,am,N,as,ai⟩;obtain⟨dx,ho⟩:=I.R.ob;refine⟨_,rfl,a.rp,dx,_,rfl,ho,fV _ _ _ aq aq aq,_,rfl,M5,a,s5,U,ap,G.1,x5,rfl,I.R,I.ri,I.cv,N,λH6 M6 s6 R6 bi be aB bd=>?_⟩;obtain⟨k1,k2⟩:=I.kept aB ac am;have el:∀t' q,eW (Tb.a8 U G.1) t' q=if t'=G.1 then none else eW U t' q:=λt' q=>by
     unfold eW;rw[Tb.cf];split<;>rfl
    refine bA (I.step R6 bi be aB bd (Ng _ _)) k1 k2 (λq=>by rw[el,Th rfl]) (λt' q n=>by rw[el,Tg n];exact as t' q n) λt' n=>?_;unfold hW;rw[Tb.cf,Tg n];exact ai t'
  .rintro σ H2 ⟨v3,v4,v5,M,s2,cv,W,rfl,L,_,_,g1,g2,g3⟩;rw[nq,LC]at g1;refine q _ M s2 cv W L.R L.ri L.cv (AL λx O=>?_) g3 L.lf L.ls L.lw;have lx:Tb.look W x.1=some x.2:=Tb.bL L.R.nd O;have:hZ Z x.1=true:=g3 x.1 (by unfold hW;rw[lx];rfl);have mt:x.1∈ts:=by
    unfold hZ at this;obtain⟨z,hz⟩:=Nl.mp this;exact pm.mem_iff.mpr (rk.mpr ⟨_,Tb.aC hz,rfl⟩)
   cases e:x.2.t with
   |nil=>rfl
   |cons y r =>
    have:=g1 x.1 mt y.1;rw[nc lx,e,Tb.aO,Th rfl]at this;cases this
end
theorem De:∀{L:List (List Int)}{i o:Nat},(∀r∈L,r.length=8)->o<8->L.flatten[8*i+o]?=(L[i]?).bind (·[o]?)
 | [],i,o,_,_=>by simp
 |r::L,0,o,h,G=>by
  have:=h r KW;rw[Ml,Lm af];simp
 |r::L,i+1,o,h,G=>by
  have:=h r KW;rw[Ml,Lj af,show 8*(i+1)+o-r.length=8*i+o by omega,De (λx I=>h x (KD _ I)) G];simp
theorem xC {ad:Int}{n:Nat}{i:Nat}(h:i<(Rm.ax ad n).length):(Rm.ax ad n)[i]?=some (ad/8+i):=by
 unfold Rm.ax at h ⊢;by_cases e:((n:Nat):Int)=0
 .rw[Th e]at h;cases h
 .rw[Tg e]at h ⊢;unfold Rm.aK at h ⊢;rw[nq,Lg]at h;rw[wh,NP h];rfl
theorem Ee {ad:Int}{n:Nat}{j:Nat}(h:j<n):((ad+j)/8-ad/8).toNat<(Rm.ax ad n).length:=by
 unfold Rm.ax;rw[Tg af];unfold Rm.aK;rw[nq,Lg];show _<((ad+n-1)/8-ad/8+1).toNat;omega
variable {F:Int->List Int}{ad:Int}{n:Nat}
theorem zV (G:∀q∈Rm.ax ad n,(F q).length=8) {i o:Nat}(hi:i<(Rm.ax ad n).length) (I:o<8):(bM F (Rm.ax ad n))[8*i+o]?=(F (ad/8+i))[o]?:=by
 unfold bM;rw[De (λr J=>by obtain⟨q,L,rfl⟩:=rk.mp J;exact G q L) I,wh,xC hi];rfl
def xA (F:Int->List Int) (ad:Int) (n:Nat):List Int:=(Kx n).map λj:Nat=>(F ((ad+(j:Int))/8)).getD ((ad+(j:Int))%8).toNat 0
theorem xn (I:∀q∈Rm.ax ad n,(F q).length=8):((bM F (Rm.ax ad n)).drop (ad%8).toNat).take n=xA F ad n:=by
 refine NK λj=>?_;unfold xA;rw[OZ,O0,wh];by_cases G:j<n
 .rw[Th G,NP G];have hi:=Ee (ad:=ad) G;have e:(ad%8).toNat+j=8*((ad+j)/8-ad/8).toNat+((ad+j)%8).toNat:=af;have J:ad/8+(((ad+j)/8-ad/8).toNat:Int)=(ad+j)/8:=af;rw[e,zV I hi af,J];have L:(ad+(j:Int))/8∈Rm.ax ad n:=by
   have:=DD (xC hi);rw[J]at this;exact this
  have:=I _ L;show _=some ((F ((ad+(j:Int))/8)).getD ((ad+(j:Int))%8).toNat 0);rw[LN,IF af];rfl
 .rw[Tg G,L3 (by rw[Lg];omega)];rfl
def tj (r:List Int) (ad:Int) (cs:List Int) (q:Int):List Int:=(Kx 8).map λo:Nat=>if ad<=8*q+(o:Int)/\8*q+(o:Int)<ad+cs.length then cs.getD (8*q+(o:Int)-ad).toNat 0 else r.getD o 0
theorem sZ {r:List Int}{cs:List Int}{q:Int}:(tj r ad cs q).length=8:=by unfold tj;rw[nq,Lg]
theorem wK {r:List Int}{cs:List Int}{q:Int}{o:Nat}(h:o<8):(tj r ad cs q)[o]?=some (if ad<=8*q+(o:Int)/\8*q+(o:Int)<ad+cs.length then cs.getD (8*q+(o:Int)-ad).toNat 0 else r.getD o 0):=by
 unfold tj;rw[wh,NP h];rfl
theorem zY {cs:List Int}(G:∀q∈Rm.ax ad cs.length,(F q).length=8) {i:Nat}(hi:i<(Rm.ax ad cs.length).length) (N:(Rm.dX (bM F (Rm.ax ad cs.length)) (ad%8).toNat cs).length=8*(Rm.ax ad cs.length).length):(eJ F ad cs)[i]?=some (tj (F (ad/8+i)) ad cs (ad/8+i)):=by
 unfold eJ Rm.fC;rw[wh,NP hi];show some _=some _;congr 1;have wl:(bM F (Rm.ax ad cs.length)).length=8*(Rm.ax ad cs.length).length:=by
  unfold bM;have:∀(L:List (List Int)),(∀r∈L,r.length=8)->L.flatten.length=8*L.length:=λL=>by
   induction L with
   |nil=>intro _;rfl
   |cons r L U=>intro h;rw[Ml,E2,h r KW,U λx Y=>h x (KD _ Y),Kp];omega
  rw[this _ (λr R=>by obtain⟨q,I,rfl⟩:=rk.mp R;exact G q I),nq]
 refine NK λo=>?_;by_cases J:o<8
 .rw[OZ,Th J,O0,wK J];have I:ad/8+(i:Int)∈Rm.ax ad cs.length:=DD (xC hi);have R:=G _ I;have O:(bM F (Rm.ax ad cs.length))[8*i+o]?=some ((F (ad/8+i)).getD o 0):=by
   rw[zV G hi J,LN,IF af];rfl
  unfold Rm.dX at N ⊢;rw[E2,E2,Kv,LV]at N;by_cases S:8*i+o<(ad%8).toNat
  .rw[Tg af,KU,Lm (by rw[Kv];omega),OZ,Th S,O]
  .by_cases c2:8*i+o<(ad%8).toNat+cs.length
   .rw[Th af,KU,Lj (by rw[Kv];omega),Kv,Lm af,LN,show 8*i+o-min (ad%8).toNat (bM F (Rm.ax ad cs.length)).length=(8*(ad/8+(i:Int))+(o:Int)-ad).toNat by omega,IF af];rfl
   .rw[Tg af,Lj (by rw[E2,Kv];omega),O0,E2,Kv,show(ad%8).toNat+cs.length+(8*i+o-(min (ad%8).toNat (bM F (Rm.ax ad cs.length)).length+cs.length))=8*i+o by omega,O]
 .rw[L3 (by rw[Kv];omega),L3 (by rw[sZ];omega)]
theorem HJ {s:Pg.PS}{W:di}{cv:Int->Int->List Int}{t:Int}{x:TD}(G:Pg.RI s (ents W)) (I:Cv s W cv) (L:Tb.look W t=some x) (J:¬ Rm.cA ad n (x.t.map (·.1))):∀q∈Rm.ax ad n,(cv t q).length=8:=λq O=>by
 have h:=(Rm.gF J).2 q O;cases e:Tb.look x.t q with
 |none=>exact absurd h (Tb.bV e)
 |some N=>exact yi.len G.good (I t x L q N e)
theorem CH (G:∀q∈Rm.ax ad n,(F q).length=8):(bM F (Rm.ax ad n)).length=8*(Rm.ax ad n).length:=by
 have:∀(L:List (List Int)),(∀r∈L,r.length=8)->L.flatten.length=8*L.length:=λL=>by
  induction L with
  |nil=>intro _;rfl
  |cons r L I=>intro h;rw[Ml,E2,h r KW,I λx N=>h x (KD _ N),Kp];omega
 unfold bM;rw[this _ (λr J=>by obtain⟨q,O,rfl⟩:=rk.mp J;exact G q O),nq]
def xf (cv:Int->Int->List Int) (t ad:Int) (cs:List Int):Int->Int->List Int:=λt' q=>if t'=t/\q∈Rm.ax ad cs.length then tj (cv t q) ad cs q else cv t' q
theorem u7 {cv:Int->Int->List Int}{t:Int}{cs:List Int}{O:List Int}(R:¬ Rm.cA ad cs.length O) (G:∀q∈Rm.ax ad cs.length,(cv t q).length=8):fN cv t (((Rm.ax ad cs.length).zip (eJ (cv t) ad cs)).reverse)=xf cv t ad cs:=by
 have J:=Rm.mJ R (ws:=bM (cv t) (Rm.ax ad cs.length)) (CH G);have S:(eJ (cv t) ad cs).length=(Rm.ax ad cs.length).length:=(by unfold eJ Rm.fC;rw[nq,Lg]);have kz:((Rm.ax ad cs.length).zip (eJ (cv t) ad cs)).map (·.1)=Rm.ax ad cs.length:=Rf af;have L:((((Rm.ax ad cs.length).zip (eJ (cv t) ad cs)).reverse).map (·.1)).Nodup:=by
  rw[List.map_reverse,kz];exact((List.reverse_perm _).nodup_iff).mpr (jF _ _)
 funext t' q;unfold fN xf;by_cases c:t'=t
 .rw[Th c];by_cases m:q∈Rm.ax ad cs.length
  .rw[Th ⟨c,m⟩];obtain⟨i,hi,e⟩:=Mc m;have I:=xC hi;rw[IF hi,e]at I;have N:=ro I;rw[Tb.bL L (Ls.mpr (DD (i:=i) (a:=(q,tj (cv t q) ad cs q)) (by rw[OJ];exact⟨by rw[IF hi,e],by rw[N];exact zY G hi J⟩)))];rfl
  .rw[Tg (λh=>m h.2)];have:Tb.look (((Rm.ax ad cs.length).zip (eJ (cv t) ad cs)).reverse) q=none:=by
    cases e:Tb.look (((Rm.ax ad cs.length).zip (eJ (cv t) ad cs)).reverse) q with
    |none=>rfl
    |some r=>exact absurd (by rw[<-kz];exact rk.mpr ⟨_,Ls.mp (Tb.aC e),rfl⟩) m
   rw[this];rfl
 .rw[Tg c,Tg (λh=>c h.1)]
abbrev mC:KO:=top 45
abbrev m9:KO:=inClass (top 14) 13
abbrev mT:KO:=inClass (top 33) 10
abbrev nv:KO:=top 50
inductive kL (vs:List V) (H:Hp) (Q:VK) (e3:XK):Prop
 |mk (p q:Addr) (xs:List Int) (_:vs=[.ref p,.ref q]) (_:H p=some (.lst (xs.map V.int))) (_:H q=some (.lst (xs.map V.int))) (_:xs.length<=100) (_:∀H',bg H H'->Q (.bl true) H'):kL vs H Q e3
theorem oT {F:Int->List Int}{q:Int}(h:(F q).length=8):xA F (8*q) 8=F q:=by
 refine NK λj=>?_;unfold xA;rw[wh];by_cases G:j<8
 .rw[NP G];show some ((F ((8*q+(j:Int))/8)).getD ((8*q+(j:Int))%8).toNat 0)=_;rw[show(8*q+(j:Int))/8=q by omega,show((8*q+(j:Int))%8).toNat=j by omega,LN,IF af];rfl
 .rw[L3 (by rw[Lg];omega),L3 af];rfl
structure FH (H H':Hp) (s:Pg.PS) (p l1 l2:Addr):Prop where
 sm:bg H H'
 f1:H l1=none
 f2:H l2=none
 fp:H p=none
 n:l1≠l2
 h1:H' l1=some (.lst ((s.ow true).map V.int))
 h2:H' l2=some (.lst ((s.ow false).map V.int))
 hp:H' p=some (.tup [.ref l1,.ref l2])
inductive jX (C CS:Addr) (vs:List V) (H:Hp) (Q:VK) (e3:XK):Prop
 |mk (M:Addr->Prop) (A:PA) (s:Pg.PS) (_:vs=[.ref A.pg]) (_:bH C CS H M A s) (_:∀H' p l1 l2,FH H H' s p l1 l2->Q (.ref p) H'):jX C CS vs H Q e3
inductive iH (c:CA) (vs:List V) (H:Hp) (Q:VK) (e3:XK):Prop
 |mk (M:Addr->Prop) (a:RA) (s:Pg.PS) (W:di) (_:vs=[.ref a.rp]) (_:aA c H M a s W) (_:∀H' p l1 l2,FH H H' s p l1 l2->Q (.ref p) H'):iH c vs H Q e3
theorem w6 {s:Pg.PS}(R:Pg.RI s []) (b:Bool):s.ow b=replicate (s.ow b).length 0:=by
 refine List.eq_replicate_iff.mpr ⟨rfl,λc J=>?_⟩;obtain⟨n,L⟩:=Oa J;rcases R.good.on b n c L with h|⟨k,G⟩
 .exact h
 .obtain⟨cs,I,h1,h2,N,_⟩:=R.good.va k b n G;have h:I=0:=R.ct k cs I ⟨b,n,G,h1,h2⟩;omega
theorem tN {q:Int}{n:Nat}(h1:1<=n) (G:n<=8):Rm.ax (8*q) n=[q]:=by
 unfold Rm.ax;rw[Tg af];unfold Rm.aK;have e:(Rm.hV (8*q) n).toNat=1:=by
  show((8*q+n-1)/8-8*q/8+1).toNat=1;omega
 rw[e];show[8*q/8+((0:Nat):Int)]=[q];congr 1;omega
theorem wq {q:Int}{n:Nat}{G:List Int}(h1:1<=n) (I:n<=8) (N:0<=q) (L:q<64) (m:q∈G):¬ Rm.cA (8*q) n G:=by
 have e:=tN (q:=q) h1 I;unfold Rm.ax at e;rw[Tg af]at e;rintro(w|⟨w,w|w⟩)
 .omega
 .rcases w with w|w|w
  .have w:(8*q+(n:Int)-1)/8-8*q/8+1<1:=w;omega
  .have w:8*q/8<0:=w;omega
  .have w:64<8*q/8+((8*q+(n:Int)-1)/8-8*q/8+1):=w;omega
 .rw[e]at w;exact w λp J=>by rw[kQ.mp J];exact m
theorem B9 {q v:Int}{n:Nat}(I:n<=8):tj (replicate 8 0) (8*q) (replicate n v) q=replicate n v++replicate (8-n) 0:=by
 refine NK λo=>?_;by_cases G:o<8
 .rw[wK G,Kn,LN,LN,Mv,Mv];by_cases c:o<n
  .rw[Th af,Th af,Lm (by rw[Kn];exact c),Mv,Th c];rfl
  .rw[Tg af,Th G,Lj (by rw[Kn];omega),Kn,Mv,Th af];rfl
 .rw[L3 (by rw[sZ];omega),L3 (by rw[E2,Kn,Kn];omega)]
abbrev tU:Int:=10^Na 59+1
def qp (m q:Int):List Int:=replicate (1+m%8).toNat ((m+q)%256)++replicate (7-m%8).toNat 0
structure t5 (c:CA) (H:Hp) (M:Addr->Prop) (a:RA) (f n:Int) (s:Pg.PS) (cv:Int->Int->List Int) (W:di) (x:TD):Prop where
 R:aA c H M a s W
 ri:Pg.RI s (ents W)
 cv:Cv s W cv
 hx:Tb.look W tU=some x
 nl:ents (Tb.a8 W tU)=[]
 pg:∀q,Tb.look x.t q≠none↔q∈Rm.aK f n
 lw:W.length<=1000
inductive IY (c:CA) (a:RA) (tt mm f n:Int) (i:Nat) (σ:L2.St) (H:Hp):Prop
 |mk (v5 v6:Option V) (M:Addr->Prop) (s:Pg.PS) (cv:Int->Int->List Int) (W:di) (x:TD) (_:σ=[some (.ref a.rp),some (.int tt),some (.int mm),some (.int n),some (.int f),v5,v6]) (_:t5 c H M a f n s cv W x) (_:∀q,f<=q->q<f+i->cv tU q=qp mm q/\∃k,Tb.look x.t q=some (some k)) (_:∀q,f+i<=q->q<f+n->cv tU q=replicate 8 0):IY c a tt mm f n i σ H
theorem ix {f n q:Int}:q∈Rm.aK f n↔f<=q/\q<f+n:=by
 unfold Rm.aK;rw[rk];constructor
 .rintro⟨k,G,rfl⟩;have:=KZ.mp G;omega
 .rintro⟨h1,h2⟩;exact⟨(q-f).toNat,KZ.mpr af,af⟩
section
variable {c:CA}{H H':Hp}{M:Addr->Prop}{a:RA}{f n:Int}{s:Pg.PS}{cv:Int->Int->List Int}{W:di}{x:TD}
theorem t5.same (S:t5 c H M a f n s cv W x) (h:bg H H'):t5 c H' M a f n s cv W x:=⟨S.R.same h,S.ri,S.cv,S.hx,S.nl,S.pg,S.lw⟩
theorem t5.mem (S:t5 c H M a f n s cv W x) {q:Int}(h:q∈Rm.aK f n):q∈x.t.map (·.1):=by
 cases e:Tb.look x.t q with
 |none=>exact absurd e ((S.pg q).mpr h)
 |some y=>exact rk.mpr ⟨_,Tb.aC e,rfl⟩
theorem t5.held (S:t5 c H M a f n s cv W x) (J:0<=n):((ents W).length:Int)=n:=by
 have p:=eT S.R.nd S.hx;rw[S.nl,PJ]at p;have I:(x.t.map (·.1)).Nodup:=(S.R.tb _ (Tb.aC S.hx)).nd;have G:(Rm.aK f n).Nodup:=by
  unfold Rm.aK;refine Tf _ ?_ Py;intro x y h z;exact h af
 have e:(x.t.map (·.1)).Perm (Rm.aK f n):=by
  rw[MZ I G];intro q;rw[<-S.pg q];exact⟨λh z=>Tb.bV z h,λh=>S.mem ((S.pg q).mp h)⟩
 have e:=e.length_eq;rw[nq]at e;rw[p.length_eq];show((x.t.map _).length:Int)=n;rw[nq,e];unfold Rm.aK;rw[nq,Lg];omega
theorem t5.sum (S:t5 c H M a f n s cv W x) (I:0<=n) (h:∀q,f<=q->q<f+n->∃k,Tb.look x.t q=some (some k)):(s.ow true).sum+(s.ow false).sum=n:=by
 have J:=S.held I;have p:=eT S.R.nd S.hx;rw[S.nl,PJ]at p;have N:(x.t.map (·.1)).Nodup:=(S.R.tb _ (Tb.aC S.hx)).nd;refine(show Pg.all s=n from ?_);rw[S.ri.al, <-J];unfold Pg.full;rw[p.countP_eq,p.length_eq,List.countP_eq_length.mpr];intro e O;obtain⟨y,L,rfl⟩:=rk.mp O;have e:=Tb.bL N L;obtain⟨h1,h2⟩:=ix.mp ((S.pg y.1).mp (by rw[e];nofun));obtain⟨k,G⟩:=h _ h1 h2;rw[e]at G;show y.2.isSome=true;rw[ro G];rfl
end
inductive kI (c:CA) (vs:List V) (H:Hp) (Q:VK) (e3:XK):Prop
 |mk (M:Addr->Prop) (a:RA) (s:Pg.PS) (cv:Int->Int->List Int) (W:di) (mm:Int) (_:vs=[.ref a.rp,.int (bC s),.int mm]) (_:aA c H M a s W) (_:Pg.RI s (ents W)) (_:Cv s W cv) (_:ents W=[]) (_:Tb.look W tU=none) (_:W.length<=100) (_:0<bC s) (_:∀H',Q (.bl true) H'):kI c vs H Q e3
section
variable {P:ti}{w:Kl}{K:Kq}{mg:Str->Option Value}{base:Heap}
theorem IE:aD ["_law_found","_law_due_here"] ["_law_found","_law_due_here"] (aw mC):=L2.bD
theorem vv {f:Addr}{fd:rn}(F:cD K "_law_numbers" "_law_numbers" mC f fd) (T:ke mg) (N:Df P w K mg base aS 1 "_law_whole" pK) :
  aZ P w K mg base aS 2 f fd ["_law_found","_law_due_here"] kL:=by
 refine F.dg IE (λU A outer s H vs Q E J h=>?_);obtain⟨p,q,xs,rfl,G,R,I,k⟩:=h;have hs:=BY;refine⟨_,(ag (aU (PW.pt (gL (Bp (gA (aP dU (by rfl) T.BB bW (aa (pv 0) (aa (eM (v:=.ty "list") (by rfl) T.list dv rfl) aj))))) (fK (aE (AV J.gv) (pv 0) (pv 1) (aI _))))) (ao (aG pA)) aH)
  (ao (aG (aP (j6 rfl) (by rfl) T.all uq (aa (gD (cl:=[]) (caps:=[]) ⟨rfl,aq,aq,rfl,by kernel_rfl,by intro p G;simp at G,by kernel_rfl,by intro p G;simp at G,aq⟩ rfl (eK (pv 0)) (λ_ _ _ _=>fj) (λ_ _ _ _=>(pc N J az (aa (pv 0) aj)))) aj))))),?_⟩
 refine⟨_,rfl,.ref p,"list",_,true,rfl,.lst G,Ei _,true,rfl,bU ?_⟩;refine⟨_,rfl,_,rfl,p,q,_,_,rfl,rfl,bq.of G,bq.of R,dF _,dF _,_,rfl,?_⟩;rw[ku,decide_eq_true rfl];refine bU ?_;refine⟨_,rfl,p,rfl,⟨_,bq.of G⟩,?_⟩;refine uZ (K:=K) (a:=p) (xs:=xs.map V.int) (λi ys H2=>i<=xs.length/\ys=(replicate i true).map V.bl/\H2=H) ⟨KI _,rfl,rfl⟩ (λi ys H2 _ z=>by rw[z.2.2];exact bq.of G) ?_ ?_
 .rintro i x ys H2 L ⟨hi,rfl,rfl⟩;rw[wh]at L;obtain⟨n,O,rfl⟩:=vr.mp L;refine⟨_,rfl,n,rfl,?_,(j1.mp O).1,?_,rfl⟩
  .rw[nq,Kn];omega
  .rw[List.replicate_succ',Kr];rfl
 .rintro ys H2 ⟨_,rfl,rfl⟩ l I;refine⟨l,_,rfl,bq.of ae,?_⟩;rw[show(replicate (S0 V.int xs).length true).all id=true from KH.mpr λb S=>(QL.mp S).2];exact k _ (Tb.ar I)
theorem rE:aD ["self"] ["self"] (aw m9):=L2.bD
theorem wt {f C CS:Addr}{fd:rn}(F:cD K "counts" "Paging.counts" m9 f fd) (T:nN K mg C) (TS:Txt K mg CS):aZ P w K mg base aS 1 f fd ["self"] (jX C CS):=by
 refine F.dg rE (λab A outer s H vs Q E hr h=>?_);obtain⟨M,J,s',rfl,G,k⟩:=h;obtain⟨dx,U⟩:=G.ob;obtain⟨d1,hf⟩:=G.fr.ob;refine⟨_,(ao (aG (cO (aa (bG cB (by rfl) T.list dv (aa (aM (aM (pv 0) rfl) rfl) aj)) (aa (bG cB (by rfl) T.list dv (aa (aM (aM (pv 0) rfl) rfl) aj)) aj))))),?_⟩;refine⟨_,rfl,J.pg,C,dx,_,_,rfl,U,T.cl,T.nF,mq _ _,J.fp,CS,d1,_,_,rfl,hf,TS.cl,TS.nO,d9 _ _,J.fo,_,rfl,.inl (bq.of G.fr.hw),λR S=>?_⟩;have I:=Tb.ar (X:=.lst ((s'.ow true).map V.int)) S;obtain⟨d2,hg⟩:=G.sl.ob;refine⟨_,rfl,J.pg,C,dx,_,_,rfl,I _ _ U,T.cl,T.nS,tu _ _,J.sp,CS,d2,_,_,rfl,I _ _ hg,TS.cl,TS.nO,d9 _ _,J.so,_,rfl,.inl (bq.of (I _ _ G.sl.hw)),λY L=>?_⟩;have N:=Tb.ar (X:=.lst ((s'.ow false).map V.int)) L;refine⟨fE,λp hp=>?_⟩;have O:=Tb.ar (X:=.tup [.ref R,.ref Y]) hp;exact k _ p R Y ⟨I.trans (N.trans O),S,I.free L,I.free (N.free hp),(λz=>by rw[z,ae]at L;cases L),O _ _ (N _ _ ae),O _ _ ae,ae⟩
theorem Jf:aD ["self"] ["self"] (aw mT):=L2.bD
theorem vC {f:Addr}{fd:rn}{c:CA}(F:cD K "counts" "Rooms.counts" mT f fd) (T:oV K mg c) (TP:nN K mg c.P) (I:Md P w K mg base aS 1 c.P "counts" (jX c.P c.S)) :
  aZ P w K mg base aS 2 f fd ["self"] (iH c):=by
 refine F.dg Jf (λN A outer s H vs Q E L h=>?_);obtain⟨M,a,s',W,rfl,R,k⟩:=h;obtain⟨dx,J⟩:=R.ob;obtain⟨G,h2⟩:=R.pg.ob;refine⟨_,(ao (aG (qz (aM (pv 0) rfl) TP.cl I L az))),?_⟩;exact⟨_,rfl,a.rp,c.C,dx,_,_,rfl,J,T.cl,T.nP,kN _ _ _,a.A.pg,G,_,rfl,h2,cF _ _ aq aq aq aq aq,M,a.A,s',rfl,R.pg,k⟩
end
theorem tE (m q:Int):(qp m q).length=8:=by
 unfold qp;have G:=Ld m (show(8:Int)≠0 by decide);have I:=KQ m (show(0:Int)<8 by decide);rw[E2,Kn,Kn];omega
inductive JZ (c:CA) (a:RA) (tt mm f n:Int) (cv:Int->Int->List Int) (W:di) (x:TD) (i:Nat) (σ:L2.St) (H:Hp):Prop
 |mk (v5 v6:Option V) (M:Addr->Prop) (s:Pg.PS) (_:σ=[some (.ref a.rp),some (.int tt),some (.int mm),some (.int n),some (.int f),v5,v6]) (_:t5 c H M a f n s cv W x):JZ c a tt mm f n cv W x i σ H
section
variable {P:ti}{w:Kl}{K:Kq}{mg:Str->Option Value}{base:Heap}
theorem yO:aD ["_law_kept","_law_total","_law_m","_law_many","_law_first","_law_page","_law_due_here"] ["_law_kept","_law_total","_law_m"] (aw nv):=L2.bD
theorem rR {f:Addr}{fd:rn}{c:CA}(F:cD K "_law_all_used" "_law_all_used" nv f fd) (T:ke mg) (TR:oV K mg c) (MK:Hv P w K mg base c) (b7:Df P w K mg base aS 2 "_law_numbers" kL) (b4:Md P w K mg base aS 2 c.C "held" (iD c)) (a5:Md P w K mg base aS 2 c.C "counts" (iH c)) :
  aZ P w K mg base aS 11 f fd ["_law_kept","_law_total","_law_m"] (kI c):=by
 refine F.dg yO (λch A outer s H vs Q E O h=>?_);obtain⟨M,a,s',cv,W,G,rfl,R,ri,bv,en,nt,lw,tp,k⟩:=h;have hs:=BY;have Y:∀{s:Pg.PS}{G:Str},¬ G = "rooms" -> ¬ G = "total" -> ¬ G = "paging" -> (dZ a.A.pg (bC s) a.rd).lookup G=none:=λ{s G}=>fV _ _ _;refine⟨_,(ag (dA 3 yO.nd (aP (pb rfl) (by rfl) T.min zc (aa ak (aa (pv 1) aj))))
  (ag (dA 4 yO.nd (ay bu (pv 2) (ay kl ak (pv 3))))
  (ag (aL (pm (pv 0) TR.cl MK.Je O az (aa (ay aV (ay gQ ak ak) ak) aj)))
  (ag (aL (pm (pv 0) TR.cl MK.JW O az (aa (ay aV (ay gQ ak ak) ak) (aa (pv 4) (aa (pv 3) aj)))))
  (ag (cL Kt rfl (dH (by rfl) T.range (aa (pv 4) (aa (ay aV (pv 4) (pv 3)) aj))) (gG 5 yO.nd) (ag (aU (aE (AV O.gv) (pm (pv 0) TR.cl MK.Gy O az (aa (ay aV (ay gQ ak ak) ak) (aa (ay dR ak (pv 5)) (aa ak aj)))) (ay ff (bN (aa ak aj)) ak) (aI _)) (ao (aG pA)) aH)
  (ao (aL (pm (pv 0) TR.cl MK.JM O az (aa (ay aV (ay gQ ak ak) ak) (aa (ay dR ak (pv 5)) (aa (ay ff (bN (aa (ay bu (ay aV (pv 2) (pv 5)) ak) aj)) (ay aV ak (ay bu (pv 2) ak))) aj))))))))
  (ag (cL Kt rfl (dH (by rfl) T.range (aa (pv 4) (aa (ay aV (pv 4) (pv 3)) aj))) (gG 5 yO.nd) (ag (dA 6 yO.nd (ay pL (ay ff (bN (aa (ay bu (ay aV (pv 2) (pv 5)) ak) aj)) (ay aV ak (ay bu (pv 2) ak))) (ay ff (bN (aa ak aj)) (ay kl ak (ay bu (pv 2) ak)))))
  (ao (aU (Bp (gA (pc b7 O az (aa (pm (pv 0) TR.cl MK.Gy O az (aa (ay aV (ay gQ ak ak) ak) (aa (ay dR ak (pv 5)) (aa ak aj)))) (aa (pv 6) aj))))) (ao (aG pA)) aH))))
  (ao (aG (zd (jM bR (qz (pv 0) TR.cl b4 O az) (pv 3) (aI _)) (vK (jM bR (ay aV (aP (ie rfl) (by rfl) T.sum m4 (aa (a9 bh (qz (pv 0) TR.cl a5 O az) ak cq) aj)) (aP (ie rfl) (by rfl) T.sum m4 (aa (a9 bh (qz (pv 0) TR.cl a5 O az) ak cq) aj))) (pv 3) (aI _)))))))))))),?_⟩
 refine gn λ_ I=>?_;refine⟨_,rfl,_,_,rfl,I _ _ ?_⟩;clear I;have hn:∃n,(if bC s'<64 then bC s' else 64)=n/\1<=n/\n<=64/\n<=bC s':=⟨_,rfl,by split<;>omega,by split<;>omega,by split<;>omega⟩;obtain⟨n,e,n1,n2,n3⟩:=hn;rw[e];clear e;refine gn λ_ I=>?_;refine⟨_,rfl,_,rfl,_,_,rfl,rfl,_,_,rfl,rfl,(by show 0<65-n;omega),I _ _ ?_⟩;clear I;have f0:=Ld G (show(65-n:Int)≠0 by omega);have f1:=KQ G (show(0:Int)<65-n by omega);generalize G%(65-n)=f at *;generalize et:bC s'=tt at *;obtain⟨dx,ho⟩:=R.ob;refine CQ λ_ I=>?_;refine⟨_,rfl,a.rp,dx,_,rfl,ho,Y aq aq aq,_,_,rfl,rfl,⟨av,av,av⟩,_,_,rfl,rfl,M,a,s',W,tU,rfl,R,nt,af,λH1 M1 y ey R1 bE=>I _ _ ?_⟩;clear I ho;have e1:ents (W++[(tU,y)])=[]:=(by rw[nJ,en,ey];rfl);have a4:Pg.RI s' (ents (W++[(tU,y)])):=(by rw[e1, <-en];exact ri);have ap:Tb.look (W++[(tU,y)]) tU=some y:=(by rw[Tb.bF _ nt,Th rfl]);have bx:Cv s' (W++[(tU,y)]) cv:=λt x h q e he=>by
  rw[Tb.bF t nt]at h;by_cases z:t=tU
  .rw[Th z]at h;rw[<-ro h,ey]at he;cases he
  .rw[Tg z]at h;exact bv t x h q e he
 have bn:ents (Tb.a8 (W++[(tU,y)]) tU)=[]:=by
  have:=(eT R1.nd ap).length_eq;rw[e1,ey]at this;exact K8.mp this.symm
 have a0:(W++[(tU,y)]).length<=1000:=(by rw[E2];exact Ko (N5 lw 1) av);obtain⟨as,a6⟩:=R1.ob;have ly:∀q,Tb.look y.t q=none:=λq=>(by rw[ey];rfl);clear R ri bv en nt lw bE dx ey;generalize W++[(tU,y)]=W1 at *;refine CQ λ_ I=>?_;refine⟨_,rfl,a.rp,as,_,rfl,a6,Y aq aq aq,_,_,rfl,rfl,⟨av,av,av⟩,_,_,rfl,rfl,_,rfl,_,rfl,M1,a,s',W1,cv,tU,f,n,y,rfl,R1,a4,bx,a0,ap,(λz=>by rcases z with z|z|z<;>omega),(λq _=>ly q),(by rw[e1,et];show(0:Int)+n<=tt;omega),λH2 M2 y2 R2 bc ba ac b2=>I _ _ ?_⟩;clear I;have S2:t5 c H2 M2 a f n s' (hJ cv tU (Rm.aK f n)) (Tb.aY W1 tU y2) y2:=⟨R2,bc,ba,eX ap,by rw[Tb.lj];exact bn,λq=>by
  rw[ac q];by_cases z:q∈Rm.aK f n
  .rw[Th z];exact⟨λ_=>z,λ_=>nofun⟩
  .rw[Tg z,ly q];exact⟨λh=>absurd rfl h,λh=>absurd h z⟩,by rw[Tb.ed];exact a0⟩
 have I2:∀v5 v6,IY c a tt G f n 0 [some (.ref a.rp),some (.int tt),some (.int G),some (.int n),some (.int f),v5,v6] H2:=λv5 v6=>⟨v5,v6,M2,s',_,_,y2,rfl,S2,λq h1 h2=>by omega,λq h1 h2=>by
  unfold hJ;rw[Th ⟨rfl,ix.mpr af⟩]⟩
 clear S2 ac b2 R2 bc ba bn e1 a0 ap bx a4 R1 ly a6 et;refine⟨_,rfl,_,rfl,_,rfl,_,_,rfl,rfl,_,_,rfl,⟨af,af,af,af⟩,?_⟩;refine eY (lo:=f) (n:=(f+n-f).toNat) (IY c a tt G f n) (I2 _ _) ?_ ?_
 .clear I2 M2 y2 y M1 H1 as W1 cv s' M;rintro i σ H3 hi ⟨v5,v6,M,N,cv,W,x,rfl,S,g1,g2⟩;have hi:(i:Int)<n:=af;have hq:f+i∈Rm.aK f n:=ix.mpr af;have hm:=S.mem hq;obtain⟨ai,am⟩:=S.R.ob;have q0:0<=f+i:=af;have q1:f+i<64:=af;have hz:=g2 (f+i) af af;generalize eq:f+(i:Int)=q at *;have hb:=wq (n:=8) av av q0 q1 hm;refine C4 λQQ ji je=>?_;refine⟨_,rfl,a.rp,ai,_,rfl,am,Y aq aq aq,_,_,rfl,rfl,⟨av,av,av⟩,_,_,rfl,rfl,_,rfl,_,_,rfl,rfl,.inl ⟨av,av⟩,M,a,N,W,cv,tU,8*q,8,x,rfl,S.R,S.ri,S.cv,S.hx,av,af,af,hb,λH5 M5 s5 l R5 bl be b6 ci fl hl=>?_⟩;rw[xn (HJ S.ri S.cv S.hx hb),oT (by rw[hz];rfl),hz]at hl;refine⟨ur,λp hp=>⟨p,_,_,rfl,rfl,ae,av,av,by show 1*8<=sizeLine;decide,λp2 ab=>?_⟩⟩;rw[rep1];have sp:=Tb.ar (X:=.lst [V.int 0]) hp;have aT:=Tb.ar (X:=.lst (replicate (8:Int).toNat (V.int 0))) ab;have S6:t5 c _ M5 a f n s5 cv W x:=t5.same ⟨R5,bl,be,S.hx,S.nl,S.pg,S.lw⟩ (sp.trans aT);refine⟨l,p2,_,_,rfl,rfl,bq.of (aT _ _ (sp _ _ hl)),bq.of (xs:=(replicate 8 (0:Int)).map V.int) ae,dF _,dF _,_,rfl,?_⟩;rw[ku,decide_eq_true rfl];refine je _ ?_;clear ji je hp ab sp aT hl fl b6 R5 bl be;generalize upd (upd H5 p _) p2 _=H6 at *;obtain⟨bI,bY⟩:=S6.R.ob;have w0:=Ld G (show(8:Int)≠0 by decide);have w1:=KQ G (show(0:Int)<8 by decide);refine Dm λ_ I=>?_;refine⟨_,rfl,a.rp,bI,_,rfl,bY,Y aq aq aq,_,_,rfl,rfl,⟨av,av,av⟩,_,_,rfl,rfl,_,rfl,_,_,rfl,rfl,.inl ⟨av,av⟩,_,rfl,_,rfl,_,_,rfl,rfl,_,_,rfl,rfl,(by show(0:Int)<256;decide),ur,λp hp=>⟨_,rfl,_,_,rfl,rfl,nV,_,_,rfl,rfl,p,_,_,rfl,rfl,ae,af,af,by show 1*_<=_;omega,λp2 ab=>?_⟩⟩;rw[rep1];generalize en:(1+G%8).toNat=U at *;have S7:=S6.same ((Tb.ar (X:=.lst [V.int ((G+q)%256)]) hp).trans (Tb.ar (X:=.lst (replicate U (V.int ((G+q)%256)))) ab));have bm:1<=U:=af;have a3:U<=8:=af;have ln:(replicate U ((G+q)%256)).length=U:=Kn;have aB:¬ Rm.cA (8*q) (replicate U ((G+q)%256)).length (x.t.map (·.1)):=(by rw[ln];exact wq bm a3 q0 q1 hm);have op:=tN (q:=q) bm a3;refine⟨M5,a,s5,W,cv,tU,8*q,p2,replicate U ((G+q)%256),x,rfl,S7.R,S7.ri,S7.cv,S7.hx,bq.of (by rw[ae,N2]),af,af,af,aB,λH8 M8 s8 y R8 bA bd hy ac ce b8=>I _ _ ?_⟩;rw[u7 aB (HJ S7.ri S7.cv S7.hx aB)]at bd;rw[ln,op]at hy ac;have e8:∀J,xf cv tU (8*q) (replicate U ((G+q)%256)) tU J=if J=q then qp G q else cv tU J:=λJ=>by
   unfold xf;rw[ln,op];by_cases z:J=q
   .rw[Th ⟨rfl,kQ.mpr z⟩,Th z,z,hz,B9 a3];unfold qp;rw[en,show(7-G%8).toNat=8-U by omega]
   .rw[Tg (λh=>z (kQ.mp h.2)),Tg z]
  refine⟨_,_,M8,s8,_,_,y,rfl,⟨R8,bA,bd,eX S.hx,by rw[Tb.lj];exact S.nl,λJ=>?_,by rw[Tb.ed];exact S.lw⟩,λJ h1 h2=>?_,λJ h1 h2=>?_⟩
  .by_cases z:J=q
   .obtain⟨k1,hk⟩:=ac q (kQ.mpr rfl);rw[z,hk];exact⟨λ_=>hq,λ_=>nofun⟩
   .rw[hy J (λh=>z (kQ.mp h)),S.pg J]
  .rw[e8];by_cases z:J=q
   .rw[Th z,z];exact⟨rfl,ac q (kQ.mpr rfl)⟩
   .rw[Tg z,hy J (λh=>z (kQ.mp h))];exact g1 J h1 af
  .rw[e8,Tg af];exact g2 J af h2
 .clear I2 M2 y2 y M1 H1 as W1 cv s' M;rintro σ H3 ⟨v5,v6,M,N,cv,W,x,rfl,S,g1,g2⟩;clear g2;have g1:∀q,f<=q->q<f+n->cv tU q=qp G q/\∃k,Tb.look x.t q=some (some k):=λq h1 h2=>g1 q h1 af;refine⟨_,rfl,_,rfl,_,rfl,_,_,rfl,rfl,_,_,rfl,⟨af,af,af,af⟩,?_⟩;refine eY (lo:=f) (n:=(f+n-f).toNat) (JZ c a tt G f n cv W x) ⟨_,_,M,N,rfl,S⟩ ?_ ?_
  .clear S N M;rintro i σ H3 hi ⟨v5,v6,M,N,rfl,S⟩;have w0:=Ld G (show(8:Int)≠0 by decide);have w1:=KQ G (show(0:Int)<8 by decide);have hq:f+i∈Rm.aK f n:=ix.mpr af;have hm:=S.mem hq;have q0:0<=f+i:=af;have q1:f+i<64:=af;have hz:=(g1 (f+i) af af).1;generalize eq:f+(i:Int)=q at *;have hb:=wq (n:=8) av av q0 q1 hm;refine gn λQQ I=>?_;have b3:∀{H5:Hp}{p5:Addr},t5 c H5 M a f n N cv W x->¬ M p5->H5 p5=some (.lst ((qp G q).map V.int))->QQ (.ref p5) H5:=λ{H5 p5} L nM h5=>I _ _ (by
    clear I;obtain⟨ai,am⟩:=L.R.ob;refine wC λQQ ji je=>?_;refine⟨_,rfl,a.rp,ai,_,rfl,am,Y aq aq aq,_,_,rfl,rfl,⟨av,av,av⟩,_,_,rfl,rfl,_,rfl,_,_,rfl,rfl,.inl ⟨av,av⟩,M,a,N,W,cv,tU,8*q,8,x,rfl,L.R,L.ri,L.cv,L.hx,av,af,af,hb,λH6 M6 s6 l R6 b1 b0 b5 cc fl hl=>?_⟩;rw[xn (HJ L.ri L.cv L.hx hb),oT (by rw[hz];exact tE _ _),hz]at hl;have h6:=b5.off _ _ h5 (λz=>nM (L.R.dB _ z));exact⟨_,rfl,l,p5,qp G q,rfl,hl,h6,by rw[tE];decide,λH7 s7=>⟨true,rfl,je _ ⟨_,_,M6,s6,rfl,t5.same ⟨R6,b1,b0,L.hx,L.nl,L.pg,L.lw⟩ s7⟩⟩⟩)
   clear I;refine⟨_,rfl,_,rfl,_,_,rfl,rfl,_,_,rfl,rfl,(by show(0:Int)<256;decide),ur,λp hp=>⟨_,rfl,_,_,rfl,rfl,nV,_,_,rfl,rfl,p,_,_,rfl,rfl,ae,af,af,by show 1*_<=_;omega,λp2 ab=>⟨ur,λp3 a1=>⟨_,rfl,_,_,rfl,rfl,nV,_,_,rfl,rfl,p3,_,_,rfl,rfl,ae,af,af,by show 1*_<=_;omega,λp4 a2=>⟨p2,p4,_,_,rfl,rfl,Tb.ar a2 _ _ (Tb.ar a1 _ _ ae),ae,?_,λp5 bi=>b3 (S.same ((Tb.ar hp).trans ((Tb.ar ab).trans ((Tb.ar a1).trans ((Tb.ar a2).trans (Tb.ar bi)))))) (λz=>S.R.mt p5 z (((Tb.ar hp).trans ((Tb.ar ab).trans ((Tb.ar a1).trans (Tb.ar a2)))).free bi)) ?_⟩⟩⟩⟩⟩
   .rw[rep1,rep1,Kn,Kn];omega
   .rw[ae,rep1,rep1];unfold qp;rw[Kr,N2,N2]
  .clear S N M;rintro σ H3 ⟨v5,v6,M,N,rfl,S⟩;obtain⟨ai,am⟩:=S.R.ob;have hh:=S.held af;have hu:=S.sum af λq h1 h2=>(g1 q h1 h2).2;refine⟨_,rfl,a.rp,ai,_,rfl,am,Y aq aq aq,M,a,N,W,rfl,S.R,S.lw,λH4 s4=>⟨_,rfl,rfl,_,rfl,?_⟩⟩;rw[hh,decide_eq_true rfl];refine eI ?_;have R4:=S.R.same s4;obtain⟨bb,bz⟩:=R4.ob;refine⟨_,rfl,a.rp,bb,_,rfl,bz,Y aq aq aq,M,a,N,W,rfl,R4,λH5 p l1 l2 C=>⟨p,_,_,.ref l1,rfl,rfl,bZ.of C.hp,rfl,l1,_,rfl,bq.of C.h1,?_⟩⟩;refine⟨_,rfl,a.rp,bb,_,rfl,C.sm _ _ bz,Y aq aq aq,M,a,N,W,rfl,R4.same C.sm,λH6 p' ca a7 C'=>⟨p',_,_,.ref a7,rfl,rfl,bZ.of C'.hp,rfl,a7,_,rfl,bq.of C'.h2,?_⟩⟩;refine⟨_,_,rfl,rfl,_,rfl,rfl,?_⟩;rw[hu,decide_eq_true rfl];exact k _
end
abbrev DL:KO:=top 51
def xh (K:Kq) (p:Addr):Sp:=λvs H Q _=>∃(a:Addr) (ns:List Int),vs=[.ref a]/\bq K H a (ns.map V.int)/\ns.length<=63/\H p=some (.tbl #[])/\∀H',Q (.bl true) H'
theorem kA {K:Kq}{H:Hp}:∀xs:List Int,Paired (sN K H 0) (xs.map V.int) (xs.map V.int)
 | []=>.nil
 |x::xs=>.cons ⟨rfl,rfl⟩ (kA xs)
structure Lv (c:CA) (H0:Hp) (a:RA) (m:MA) (nf ns:Nat) (tl:Addr) (tv:HO) (k:Nat) (H:Hp) (M:Addr->Prop) (s:Pg.PS) (cv:Int->Int->List Int) (pk:Int) (W:di) (Z:Zs):Prop where
 S:BA c H M a m nf ns k s cv pk W Z
 sm:bg H0 H
 fr:∀b,M b->H0 b=none
 ht:H tl=some tv
 nt:¬ M tl
section
variable {c:CA}{H0 H H':Hp}{M M':Addr->Prop}{a:RA}{m:MA}{nf ns k:Nat}{tl:Addr}{tv:HO}{s s':Pg.PS}{cv cv':Int->Int->List Int}{pk:Int}{W W':di}{Z:Zs}
theorem Lv.same (L:Lv c H0 a m nf ns tl tv k H M s cv pk W Z) (h:bg H H'):Lv c H0 a m nf ns tl tv k H' M s cv pk W Z:=⟨L.S.same h,L.sm.trans h,L.fr,h _ _ L.ht,L.nt⟩
theorem BA.up (S:BA c H M a m nf ns k s cv pk W Z) {j:Nat}(h:k<=j):BA c H M a m nf ns j s cv pk W Z:=⟨S.R,S.ri,S.cv,S.D,S.p0,S.sp,S.tw,S.lf,S.ls,S.zn,Ko S.lw h,Ko S.lz h⟩
theorem Lv.up (L:Lv c H0 a m nf ns tl tv k H M s cv pk W Z) {j:Nat}(h:k<=j):Lv c H0 a m nf ns tl tv j H M s cv pk W Z:=⟨L.S.up h,L.sm,L.fr,L.ht,L.nt⟩
theorem BW {D:Dd}{L:Zs}(R:Z≠[]) (h:q8 D (hZ Z) (hZ L)) (Y:∀o,D=.close o->∃t,t≠o/\∃z,Tb.look Z t=some z):L≠[]:=λe=>by
 have I:∀t,hZ L t=false:=λt=>(by rw[e];rfl);obtain⟨G,J⟩:∃G,hZ Z G=true:=by
  cases O:Z with
  |nil=>exact absurd O R
  |cons x r =>
   refine⟨x.1,?_⟩;unfold hZ;rw[Tb.aO,Th rfl];rfl
 cases D with
 |begin t=>have:=h G;rw[I G,J]at this;simp at this
 |close o =>
  obtain⟨N,S,z1,U⟩:=Y o rfl;have:=h N;rw[I N,decide_eq_true S]at this;unfold hZ at this;rw[U]at this;cases this
 |copy t o=>have:=h G;rw[I G,J]at this;simp at this
 |map t p q=>have:=h G;rw[I G,J]at this;cases this
 |drop t p q=>have:=h G;rw[I G,J]at this;cases this
 |peek t p q=>have:=h G;rw[I G,J]at this;cases this
 |poke t p q r=>have:=h G;rw[I G,J]at this;cases this
theorem Lv.EI (L:Lv c H0 a m nf ns tl tv k H M s cv pk W Z) {d:Addr}{D:Dd}(hd:rP H d D) (J:∀t ad cc cs,D=.poke t ad cc cs->¬ M cc) {H2:Hp}{I:Zs}(G:tQ m H Z H2 I):rP H2 d D:=by
 refine⟨G.1 _ _ hd.1 λw=>?_,λt ad cc cs e=>G.1 _ _ (hd.2 t ad cc cs e) λw=>J t ad cc cs e (L.S.sp _ w).1⟩;rcases L.S.D.alive _ w with⟨_,h⟩|⟨_,h⟩
 .rw[hd.1]at h;cases h
 .rw[hd.1]at h;cases h
theorem Lv.IT (L:Lv c H0 a m nf ns tl tv k H M s cv pk W Z) {D:Dd}(a4:∀o,D=.close o->∃t,t≠o/\∃z,Tb.look Z t=some z)
  {H2:Hp}{ab:Int}{I:Zs}(D2:cp H2 m (bC s) ab I) (p2:0<=ab) (O:tQ m H Z H2 I) (l2:I.length<=Z.length+1) (h2:q8 D (hZ Z) (hZ I)) (e2:vI 0 (λv=>v≠0) D (eZ Z) (eZ I))
  {Y:Hp}{N:Addr->Prop}{U:Pg.PS}{J:di}{am:Int->Int->List Int}(R3:aA c Y N a U J) (a3:Pg.RI U (ents J)) (c3:Cv U J am) (st:Step H2 (λb=>(M b/\¬ cM m Z b)\/cM m I b) (a.own W) Y N (a.own J)) (ln:∀b,(U.ow b).length=(s.ow b).length) (lw:J.length<=W.length+1) (h3:q8 D (hW W) (hW J)) (e3:vI none (λx=>∃k,x=some k) D (eW W) (eW J)) :
  Lv c H0 a m nf ns tl tv (k+1) Y N U am ab J I:=by
 have G:=L.S;obtain⟨as,a5⟩:=wo G.R G.D G.sp D2 O;have ai:bg H0 H2:=λb u e=>O.1 b u (L.sm _ _ e) λw=>(by rw[L.fr b (G.sp b w).1]at e;cases e);have ap:∀b,((M b/\¬ cM m Z b)\/cM m I b)->H0 b=none:=λb z=>by
  rcases z with z|z
  .exact L.fr b z.1
  .rcases O.2 b z with z|z
   .exact L.fr b (G.sp b z).1
   .exact L.sm.free z
 have aB:=O.1 _ _ L.ht λw=>L.nt (G.sp _ w).1;have ac:¬ ((M tl/\¬ cM m Z tl)\/cM m I tl):=λz=>by
  rcases z with z|z
  .exact L.nt z.1
  .rcases O.2 _ z with z|z
   .exact L.nt (G.sp _ z).1
   .rw[L.ht]at z;cases z
 obtain⟨ba,a0⟩:=m5 D2 a5 st;have a2:=G.tw.next h3 h2 e3 e2;have aT:bg H0 Y:=λb u e=>st.off b u (ai _ _ e) λw=>(by rw[ap b (as.dB b w)]at e;cases e);have a1:∀b,N b->H0 b=none:=λb z=>(st.mn b z).elim (ap b) λz=>ai.free z;have a6:=st.off _ _ aB λw=>ac (as.dB _ w);have a7:¬ N tl:=λz=>(st.mn _ z).elim ac λz=>(by rw[aB]at z;cases z);refine⟨⟨R3,a3,c3,?_,p2,a0,a2,(ln true).trans G.lf,(ln false).trans G.ls,BW G.zn h2 a4,?_,?_⟩,aT,a1,a6,a7⟩
 .rw[zw ln];exact ba
 .have:=G.lw;omega
 .have:=G.lz;omega
theorem BO {D:Dd}{ts:List Int}{I:Zs}(ok:zD D) (h:q8 D (hZ Z) (hZ I)) (J:∀t o,D=.copy t o->o∈ts) (hi:∀t,hZ Z t=true->t∈ts) (t:Int) (G:hZ I t=true):t∈ts:=by
 cases D with
 |begin t=>exact absurd ok id
 |close o =>
  rw[h t]at G;exact hi t (N9.mp G).2
 |copy t' o =>
  rw[h t]at G;rcases Bool.or_eq_true_iff.mp G with e|e
  .rw[of_decide_eq_true e];exact J _ _ rfl
  .exact hi t e
 |map t' p q=>rw[h t]at G;exact hi t G
 |drop t' p q=>rw[h t]at G;exact hi t G
 |peek t' p q=>rw[h t]at G;exact hi t G
 |poke t' p q r=>rw[h t]at G;exact hi t G
end
inductive JN (c:CA) (H0:Hp) (a:RA) (m:MA) (sc tl:Addr) (n0 lo:Int) (ts:List Int) (i:Nat) (σ:L2.St) (H:Hp):Prop
 |mk (v8 v9:Option V) (M:Addr->Prop) (s:Pg.PS) (cv:Int->Int->List Int) (pk:Int) (W:di) (Z:Zs) (_:σ=[some (.ref sc),some (.int n0),some (.int (kW n0)),some (.int (nQ n0)),some (.ref a.rp),some (.ref m.md),some (.int lo),some (.ref tl),v8,v9]) (_:Lv c H0 a m (kW n0) (nQ n0) tl (.lst (ts.map V.int)) (i+1) H M s cv pk W Z) (_:∀t,hZ Z t=true->t∈ts):JN c H0 a m sc tl n0 lo ts i σ H
section
variable {P:ti}{w:Kl}{K:Kq}{mg:Str->Option Value}{base:Heap}
theorem iQ:aD ["_law_script","_law_m","_law_frames","_law_slots","_law_kept","_law_model_here","_law_low","_law_tasks","_law_k","_law_deed"] ["_law_script"] (aw DL):=L2.bD
theorem Es {f p:Addr}{fd:rn}{c:CA}(F:cD K "law" "law" DL f fd) (T:ke mg) (TR:oV K mg c) (ba:Df P w K mg base aS 2 "_law_number" (mD K)) (b6:Df P w K mg base aS 1 "_law_sizes" lG) (c2:Df P w K mg base aS 7 "_law_begun" (qg c)) (c5:Df P w K mg base aS 2 "_law_busy" ui) (cP:Df P w K mg base aS 2 "_law_due" Aw) (b7:Df P w K mg base aS 1 "_law_done" qo) (ce:Df P w K mg base aS 11 "_law_called" (mz c)) (cC:Df P w K mg base aS 7 "_law_emptied" (kq c p)) (bY:Df P w K mg base aS 11 "_law_all_used" (kI c)) (cm:Md P w K mg base aS 2 c.C "held" (iD c)) (b8:Md P w K mg base aS 2 c.C "counts" (iH c)) :
  aZ P w K mg base aS 12 f fd ["_law_script"] (xh K p):=by
 refine F.ok iQ (λvs H Q E h=>?_) (λdp A outer s H vs Q E L h=>?_)
 .obtain⟨a,ns,rfl,_⟩:=h;rfl
 .obtain⟨sc,ns,rfl,am,db,hp,k⟩:=h;have hs:=BY;refine⟨_,(ag (dA 1 iQ.nd (pc ba L az (aa (pv 0) (aa ak aj))))
   (ag (cK (pc b6 L az (aa (pv 1) aj)) (dS rfl (bo (gG 2 iQ.nd) (bo (gG 3 iQ.nd) cX))))
   (ag (cK (pc c2 L az (aa (pv 1) aj)) (dS rfl (bo (gG 4 iQ.nd) (bo (gG 5 iQ.nd) cX))))
   (ag (dA 6 iQ.nd (a9 cz (bN (aa ak (aa (ay kl (FK D0 ak) (ay bu (ay bB (pv 1) ak) (ay gQ ak ak))) aj))) (ay bu (ay bB (pv 1) ak) ak) cq))
   (ag (dA 7 iQ.nd (bN (aa ak (aa ak (aa (ay aV (ay bu (ay bB (pv 1) ak) (ay gQ ak ak)) ak) (aa (pv 6) (aa ak aj)))))))
   (ag (cL Kt rfl (dH (by rfl) T.range (aa ak (aa (aP (pB rfl) (by rfl) T.max Ak (aa ak (aa (aP bJ (by rfl) T.len boot_len (aa (cZ gk (pv 0) fB (cW ak)) aj)) aj))) aj))) (gG 8 iQ.nd) (ag (dA 9 iQ.nd (pc c5 L az (aa (pc ba L az (aa (pv 0) (aa (pv 8) aj))) (aa (pv 5) (aa (pv 7) aj)))))
   (ao (aU (aE bR (pc cP L az (aa (pv 5) (aa (pv 9) aj))) aN (aI _)) (ag (aL (pc b7 L az (aa (pv 5) (aa (pv 9) aj))))
   (ao (aL (pc ce L az (aa (pv 4) (aa (pv 9) aj)))))) aH))))
   (ag (aL (pc cC L az (aa (pv 4) (aa (pv 5) (aa (ay bB (pv 1) ak) aj)))))
   (ag (aU (PW.pt (gL (aE C9 (qz (pv 4) TR.cl cm L az) ak (aI _)) (fK (aE (EX 1 (MY (Qu (by decide:2<=64) _) L.units)) (bG cB (by rfl) T.list dv (aa (qz (pv 4) TR.cl b8 L az) aj)) (bN (aa (ay ff (bN (aa ak aj)) (pv 2)) (aa (ay ff (bN (aa ak aj)) (pv 3)) aj))) (aI _))))) (ao (aG pA)) aH)
   (ao (aG (pc bY L az (aa (pv 4) (aa (ay aV (pv 2) (pv 3)) (aa (ay bB (pv 1) ak) aj)))))))))))))),?_⟩
  refine gn λ_ I=>?_;refine⟨_,rfl,sc,ns,0,rfl,am,af,af,λG H1 s1 aT=>I _ _ ?_⟩;clear I;refine⟨_,rfl,G,rfl,λH2 t2 s2 _ h2=>⟨t2,_,rfl,bZ.of h2,rfl,_,_,rfl,_,_,rfl,rfl,?_⟩⟩;refine⟨_,rfl,G,rfl,λH3 t3 M a m O cv pk W Z s3 S3 bn be h3=>⟨t3,_,rfl,bZ.of h3,rfl,_,_,rfl,_,_,rfl,rfl,?_⟩⟩;have fr:∀b,M b->H b=none:=λb z=>s1.free (s2.free (be b z));have bx:=s1.trans (s2.trans s3);clear be h3 h2 s1 s2 s3
  try dsimp only
  refine gn λ_ I=>?_;have w0:=Ld (G/20000) (show(2:Int)≠0 by decide);have w1:=KQ (G/20000) (show(0:Int)<2 by decide);obtain⟨b1,ai⟩:=at_of (xs:=[0, -1-G/20000%10^Na 59]) (i:=G/20000%2) (n:=2) w0 w1 rfl;generalize c4:([0, -1-G/20000%10^Na 59]:List Int).getD (G/20000%2).toNat 0=lo at b1;rw[c4]at ai;refine⟨_,rfl,_,rfl,_,_,rfl,rfl,⟨av,av⟩,_,_,rfl,rfl,⟨av,av,av⟩,_,_,rfl,rfl,(by show(0:Int)<10^Na 59;decide),_,_,rfl,rfl,fE,λl0 bm=>⟨_,rfl,_,_,rfl,rfl,⟨av,av⟩,_,_,rfl,rfl,F7,l0,_,_,.int lo,rfl,rfl,bq.of ae,b1,I _ _ ?_⟩⟩;clear I;have s4:=Tb.ar (X:=.lst ([0, -1-G/20000%10^Na 59].map V.int)) bm;refine gn λ_ I=>?_;refine⟨_,rfl,_,_,rfl,rfl,⟨av,av⟩,_,_,rfl,rfl,⟨av,av,av⟩,_,_,rfl,rfl,(by show(0:Int)<10^Na 59;decide),_,_,rfl,rfl,_,rfl,Jl,λtl a2=>I _ _ ?_⟩;clear I;have s5:=Tb.ar (X:=.lst ([1,2,G/20000%10^Na 59+3,lo,12].map V.int)) a2;have hU:tU∉([1,2,G/20000%10^Na 59+3,lo,12]:List Int):=by
   have u0:0<=G/20000:=Int.ediv_nonneg aT.1 av;have u1:G/20000<10^40:=Ny (Int.ediv_le_self _ aT.1) aT.2;have u2:G/20000%10^Na 59=G/20000:=Int.emod_eq_of_lt u0 (Int.lt_trans u1 av);have u3:tU=100000000000000000000000000000000000000000000000000000000001:=av;have u4:(10:Int)^40=10000000000000000000000000000000000000000:=av;have u5:lo<=0:=by
    rw[u2]at ai;rcases E3.mp ai with z|z
    .omega
    .rw[kQ.mp z];omega
   rw[u2];intro z;simp only[E3,Km,or_false]at z;omega
  have a4:(1:Int)∈([1,2,G/20000%10^Na 59+3,lo,12]:List Int):=.head _;generalize a7:([1,2,G/20000%10^Na 59+3,lo,12]:List Int)=ts at s5 hU a4;have l5:ts.length=5:=(by rw[<-a7];rfl);have a5:¬ M tl:=λz=>S3.R.mt tl z (s4.free a2);have L5:Lv c H a m (kW G) (nQ G) tl (.lst (ts.map V.int)) 1 (upd (upd H3 l0 (.lst ([0, -1-G/20000%10^Na 59].map V.int))) tl (.lst (ts.map V.int))) M O cv pk W Z:=⟨S3.same (s4.trans s5),bx.trans (s4.trans s5),fr,ae,a5⟩;have i5:∀t,hZ Z t=true->t∈ts:=λt ht=>by
   rw[bn t]at ht;rw[of_decide_eq_true ht];exact a4
  subst a7;show iZ _ _ _ _ (upd (upd H3 l0 (.lst ([0, -1-G/20000%10^Na 59].map V.int))) tl (.lst ([1,2,G/20000%10^Na 59+3,lo,12].map V.int)));clear s4 s5 ai a4;generalize ([1,2,G/20000%10^Na 59+3,lo,12]:List Int)=ts at *;clear bm a2 S3 bx a5 fr bn;generalize upd (upd H3 l0 (.lst ([0, -1-G/20000%10^Na 59].map V.int))) tl (.lst (ts.map V.int))=H5 at *;have as:=Rm.er am (L5.sm _);have ec:fg (ns.map V.int) none (some (63:Int))=(ns.take 63).map V.int:=Rm.wy (s:=63);refine⟨_,rfl,_,rfl,sc,_,rfl,as,λp6 aB=>?_⟩;have s6:=Tb.ar (X:=.lst (fg (ns.map V.int) none (some (63:Int)))) aB;refine⟨p6,_,rfl,.inl (bq.of ae),_,_,rfl,?_⟩;rw[ec]at s6 ⊢;rw[nq,Kv];generalize eN:(if ((min 63 ns.length:Nat):Int)>6 then((min 63 ns.length:Nat):Int)else 6)=N;have hN:6<=N/\N<=63:=(by rw[<-eN];split<;>omega);refine⟨_,_,rfl,⟨av,av,af,af⟩,?_⟩;refine eY (lo:=1) (n:=(N-1).toNat) (JN c H a m sc tl G lo ts) ⟨_,_,M,O,cv,pk,W,Z,rfl,L5.same s6,i5⟩ ?_ ?_
  .clear aB s6 L5 i5 as ec M O cv pk W Z;rintro i σ H7 hi ⟨v8,v9,M,O,cv,pk,W,Z,rfl,L7,i7⟩;refine gn λ_ I=>?_;refine⟨_,rfl,_,rfl,sc,ns,1+i,by rw[Rv];rfl,Rm.er am (L7.sm _),af,af,λnh H8 Y _=>?_⟩;have L8:=L7.same Y;clear L7 Y;refine⟨_,rfl,_,rfl,nh,m,_,pk,Z,tl,ts,rfl,L8.S.D,L8.S.zn,by have:=L8.S.lz;omega,L8.ht,l5,λH9 d D s9 hd U bz bd=>I _ _ ?_⟩;clear I;have L9:=L8.same s9;have bl:∀t ad cc cs,D=.poke t ad cc cs->¬ M cc:=λt ad cc cs e z=>L8.S.R.mt cc z (bz t ad cc cs e);clear L8 bz s9;refine wC λQQ ji je=>?_;refine⟨_,rfl,_,rfl,m,_,pk,Z,d,D,rfl,L9.S.D,by have:=L9.S.lz;omega,hd,U,λr ac ab bv=>⟨rfl,_,rfl,?_⟩⟩;refine vD (λcr=>ji _ ?_) (λcr=>je _ ⟨_,_,M,O,cv,pk,W,Z,rfl,(L9.same ab).up (Oi _),i7⟩);have fi:CW Z (bC O) D:=bv (V.str.inj (of_decide_eq_true cr));have J:=L9.same ab;have bi:rP ac d D:=⟨ab _ _ hd.1,λt ad cc cs e=>ab _ _ (hd.2 t ad cc cs e)⟩;clear L9 hd ab ji je bv cr;refine CQ λ_ I=>?_;refine⟨_,rfl,_,rfl,m,_,pk,Z,d,D,rfl,J.S.D,J.S.p0,by have:=J.S.lz;omega,bi,fi,(λt ad cc cs e=>?_),(λt ad n e=>?_),λdj b3 Z2 u8 bc c7 a0 cS bb b4=>I _ _ ?_⟩
   .subst e;exact⟨λw=>bl _ _ _ _ rfl (J.S.sp _ w).1,U.1,U.2.1,U.2.2.2⟩
   .subst e;exact⟨U.1,U.2.1,U.2.2.2⟩
   clear I;obtain⟨c1,_⟩:=wo J.S.R J.S.D J.S.sp bc a0;have c0:=J.EI bi bl a0;refine Dm λ_ I=>?_;refine⟨_,rfl,_,rfl,_,a,O,W,cv,d,D,rfl,c1,J.S.ri,J.S.cv,by have:=J.S.lw;omega,c0,F5 J.S.tw J.S.R J.S.D U fi,λdd cT cx ch c9 u9 bE bA b0 b5 bI ci ca da=>I _ _ ?_⟩;exact⟨_,_,cT,cx,c9,b3,ch,Z2,rfl,J.IT bd.1 bc c7 a0 cS bb b4 bE bA b0 b5 bI ci ca da,BO U bb bd.2 i7⟩
  .clear aB s6 L5 i5 as ec M O cv pk W Z;rintro σ H7 ⟨v8,v9,M,O,cv,pk,W,Z,rfl,L7,i7⟩;dsimp only;refine CQ λ_ I=>?_;refine⟨_,rfl,_,rfl,_,rfl,_,_,rfl,rfl,⟨av,av⟩,M,a,m,_,_,_,O,cv,pk,W,Z,G/77,rfl,L7.S,af,L7.sm _ _ hp,λH8 M8 Y HJ W8 R8 ap c8 e8 h8 lf ls lw=>I _ _ ?_⟩;clear I;have nU:Tb.look W8 tU=none:=by
    cases e:Tb.look W8 tU with
    |none=>rfl
    |some x=>exact absurd (i7 _ (h8 tU (by unfold hW;rw[e];rfl))) hU
   have et:bC Y=(kW G:Int)+(nQ G:Int):=(by unfold bC;rw[lf,ls];exact Rv _ _);have dm:W8.length<=63:=af;have a6:Pg.RI Y []:=(by rw[<-e8];exact ap);have o1:=w6 a6 true;have o2:=w6 a6 false;rw[lf]at o1;rw[ls]at o2;have f1:1<=kW G:=by
    rw[<-lf];exact Ni.mpr ap.ne
   clear L7 i7 lw h8 lf ls M O cv pk W Z;have no:∀{mm:Str},¬ mm = "rooms" -> ¬ mm = "total" -> ¬ mm = "paging" -> (dZ a.A.pg (bC Y) a.rd).lookup mm=none:=λ{mm}=>fV _ _ _;obtain⟨dx,ho⟩:=R8.ob;refine C4 λQQ ji je=>?_;refine⟨_,rfl,a.rp,dx,_,rfl,ho,no aq aq aq,M8,a,Y,W8,rfl,R8,af,λH9 s9=>⟨rfl,_,rfl,?_⟩⟩;rw[e8];refine bU ?_;refine⟨_,rfl,a.rp,dx,_,rfl,s9 _ _ ho,no aq aq aq,M8,a,Y,W8,rfl,R8.same s9,λac p1 l1 l2 C=>⟨p1,_,rfl,.inr (bZ.of C.hp),λll c3=>?_⟩⟩;have hF:=(vZ G).2.2;have hS:=(wm G).2;refine⟨ur,λq1 h1=>⟨_,rfl,q1,_,_,rfl,rfl,ae,af,af,by show 1*_<=_;omega,λk1 a3=>⟨ur,λq2 h2=>⟨_,rfl,q2,_,_,rfl,rfl,ae,af,af,by show 1*_<=_;omega,λk2 a1=>⟨fE,λdl b2=>?_⟩⟩⟩⟩⟩;have sA:=Tb.ar (X:=.lst [V.ref l1,V.ref l2]) c3;have sB:=Tb.ar (X:=.lst [V.int 0]) h1;have sC:=Tb.ar (X:=.lst (replicate (Na (kW G)) [V.int 0]).flatten) a3;have sD:=Tb.ar (X:=.lst [V.int 0]) h2;have sE:=Tb.ar (X:=.lst (replicate (Na (nQ G)) [V.int 0]).flatten) a1;have sF:=Tb.ar (X:=.lst [V.ref k1,V.ref k2]) b2;have n1:l1≠k1:=λz=>(by rw[<-z,sB _ _ (sA _ _ C.h1)]at a3;cases a3);have n2:l2≠k2:=λz=>(by rw[<-z,sD _ _ (sC _ _ (sB _ _ (sA _ _ C.h2)))]at a1;cases a1);have g1:=sF _ _ (sE _ _ (sD _ _ (sC _ _ (sB _ _ (sA _ _ C.h1)))));have g2:=sF _ _ (sE _ _ (sD _ _ (sC _ _ (sB _ _ (sA _ _ C.h2)))));have g3:=sF _ _ (sE _ _ (sD _ _ (ae (H:=upd (upd ac ll (.lst [V.ref l1,V.ref l2])) q1 (.lst [V.int 0])) (a:=k1) (o:=.lst (replicate (Na (kW G)) [V.int 0]).flatten))));have g4:=sF _ _ (ae (H:=upd (upd (upd (upd ac ll (.lst [V.ref l1,V.ref l2])) q1 (.lst [V.int 0])) k1 (.lst (replicate (Na (kW G)) [V.int 0]).flatten)) q2 (.lst [V.int 0])) (a:=k2) (o:=.lst (replicate (Na (nQ G)) [V.int 0]).flatten));have g0:=sF _ _ (sE _ _ (sD _ _ (sC _ _ (sB _ _ (ae (H:=ac) (a:=ll) (o:=.lst [V.ref l1,V.ref l2]))))));have rr:∀n:Nat,(replicate (Na n) [V.int 0]).flatten=(replicate n (0:Int)).map V.int:=λn=>(by rw[rep1,L1,N2]);have g3:=g3.trans (congrArg (λz=>some (HO.lst z)) (rr _));have g4:=g4.trans (congrArg (λz=>some (HO.lst z)) (rr _));rw[o1]at g1;rw[o2]at g2;refine⟨ll,dl,_,_,rfl,rfl,bq.of g0,bq.of ae,.cons (.inr ⟨l1,k1,_,_,rfl,rfl,n1,.inl ⟨bq.of g1,bq.of g3⟩,kA _⟩) (.cons (.inr ⟨l2,k2,_,_,rfl,rfl,n2,.inl ⟨bq.of g2,bq.of g4⟩,kA _⟩) .nil),false,rfl,je _ ?_⟩;have sm:=s9.trans (C.sm.trans (sA.trans (sB.trans (sC.trans (sD.trans (sE.trans sF))))));exact⟨_,rfl,_,rfl,_,rfl,_,_,rfl,rfl,_,rfl,_,_,rfl,rfl,⟨av,av⟩,M8,a,Y,HJ,W8,G/5,by rw[et];rfl,R8.same sm,ap,c8,e8,nU,af,by rw[et];omega,k⟩
end
end Lw
namespace L2
open PySem PySem.Spec PyProof.Rows
theorem xT {P:ti}{w:Kl}{K:Kq}{mg U:Str->Option Value}{CX:uO}{k:Nat}{fa a p cc:Addr}{fd:rn}{x:Str}{sp:Sp}{G:mu}{vs:List Value}{ns:List Int}
  (KX:K.In G.heap) (ab:G.heap.Ns KP mg) (hb:G.heap.Ns RC U) (a5:∀x:Str,x ≠ "__name__" -> U x=KS x) (a4:G.heap.NoLimit) (hg:G.gens = #[])
  (I:G.heap.get? a=some { cls:=.type "list",data:=.seq vs.toArray }) (hi:LY vs ns) (hl:ns.length<=sizeLine) (hr:dn k Qq)
  (J:G.heap.get? p=some (NO #[])) (a1:K.lookup p=none) (a3:Qn K cc p=true) (aT:G.heap.BuiltinsAt mg p)
  (F:∀base:Heap,K.In base->base.Ns KP mg->base.BuiltinsAt mg p->aZ P w K mg base CX k fa fd [x] sp) (a6:∀(s:mu) (u:Value),QY s fd ⟨[u],[]⟩ [(x,u)])
  (as:∀H:Hp,bq K H a (ns.map V.int)->H p=some (.tbl #[])->sp [.ref a] H (λv _=>v=.bl true) λ_ _ _=>False)
  (a0:∀H e s',CX [] H G (λ_ _ _=>False) e s'->False) :
  Oh (model P w) Qq (.call (.ref fa) ⟨[.ref a],[]⟩) (λr s'=>r=.ok (.ret (.bool true))/\OldK G.heap s'.heap/\s'.os=G.os/\OL s'.gens) G:=by
 have rv:=fZ hi;have a2:=hi.length;have N:p≠a:=λz=>(by rw[z,I]at J;cases J);have ai:∀H:Hp,H p=some (.tbl #[])->(∀b,H b≠none->b=p\/b=a)->(H a=none\/H a=some (.frz { cls:=.type "list",data:=.seq vs.toArray } (.lst (ns.map V.int))))->bq K H a (ns.map V.int)->(H a≠none->K.lookup a=none) ->
   Oh (model P w) Qq (.call (.ref fa) ⟨[.ref a],[]⟩) (λr s'=>r=.ok (.ret (.bool true))/\OldK G.heap s'.heap/\s'.os=G.os/\OL s'.gens) G:=by
  intro H hP L hA hS hK;have bE:iS P w H G.heap:=λb u e=>by
   rcases L b (by rw[e];simp)with z|z
   .rw[z,hP]at e;cases e;rw[z];exact J
   .subst z;rcases hA with z|z
    .rw[z]at e;cases e
    .rw[z]at e;cases e;exact⟨I,by rw[nq];exact hl,vs,_,rv,I⟩
  have no:∀{b:Addr}{o:Obj},G.heap.get? b=some o->o.cls≠.none->(b=a->H a=none)->H b=none:=λ{b o} e n n2=>by
   cases q:H b with
   |none=>rfl
   |some u =>
    rcases L b (by rw[q];simp)with z|z
    .rw[z,J]at e;cases e;exact absurd rfl n
    .rw[z,n2 z]at q;cases q
  have Y:∀{b:Addr}{o:Obj},G.heap.get? b=some o->H b=none->(ou G.heap H).get? b=some o:=λe n=>An e n;have O:∀{b:Addr}{m:Str->Option Value},G.heap.Ns b m->(ou G.heap H).Ns b m:=λ{b m} z=>by
   obtain⟨o,es,ep,e,d,r⟩:=z;refine⟨o,es,ep,Y e ?_,d,r⟩;cases q:H b with
   |none=>rfl
   |some u =>
    rcases L b (by rw[q];simp)with z|z
    .rw[z,J]at e;cases e;cases d
    .rw[z,I]at e;cases e;cases d
  have am:K.In (ou G.heap H):=λb o e=>Y (KX b o e) (by
   cases q:H b with
   |none=>rfl
   |some u =>
    rcases L b (by rw[q];simp)with z|z
    .rw[z,a1]at e;cases e
    .rw[z,hK (by rw[<-z,q];simp)]at e;cases e)
  have hB:(ou G.heap H).BuiltinsAt mg p:=by
   obtain⟨bm,ob,b1,b2,b3,b4,R,b6,b7,b8⟩:=aT;refine⟨bm,ob,b1,b2,b3,b4,Y R (no R (by rw[b6];exact λz=>by cases z) λz=>?_),b6,b7,b8⟩;rw[z,I]at R;cases R;cases b8
  have hM:Mod K mg (ou G.heap H):=⟨am,O ab,⟨U,O hb,a5⟩,let ⟨mc,h1,h2⟩:=a4;⟨mc,O h1,h2⟩⟩;have e0:vM P w K mg (ou G.heap H) Qq [] G H:=⟨rfl,hM,λb o e=>B8 e,QV (xX _ _),trivial,λb hb=>absurd (show b∈([]:List Addr)from hb) (by simp),bE,.of_eq hg⟩;refine PK ((F _ am (O ab) hB).run Qq [] G H ⟨[.ref a],[]⟩ [.ref a] [.ref a] _ _ hr e0 (a6 G (.ref a)) (.cons rfl .nil) (as H hS hP)) λr s' h=>?_;cases r with
  |error e=>exact(a0 H e s' h).elim
  |ok fl =>
   cases fl with
   |next=>exact LO h
   |brk=>exact LO h
   |cont=>exact LO h
   |ret u =>
    obtain⟨v,H',os,bare,un,ap,r',q⟩:=h;have q':v=.bl true:=q;subst q';obtain rfl:u=Value.bool true:=r';obtain⟨ac,aB⟩:=un.oe p _ hP;have ep:s'.heap.get? p=some (NO (#[]++ac)):=ap p _ aB;have keep:∀b o,b≠p->G.heap.get? b=some o->s'.heap.get? b=some o:=λb o n e=>by
     cases q:H b with
     |none=>exact un.keep b o e q (by intro z;exact absurd (show b∈([]:List Addr)from z) (by simp)) (by simp)
     |some u =>
      rcases L b (by rw[q];simp)with z|z
      .exact absurd z n
      .subst z;rcases hA with z|z
       .rw[z]at q;cases q
       .have z2:=un.oq b _ _ z;obtain⟨e2,_⟩:=ap b _ z2;rw[I]at e;cases e;exact e2
    refine⟨rfl,⟨λb o e=>?_,λb o e=>?_⟩,os,bare⟩
    .by_cases z:b=p
     .subst z;rw[J]at e;cases e;refine .inr (.inl ⟨?_,rfl, #[],ac,rfl,ep⟩);obtain⟨o,vs,_,_,_,_,_,_,_,c1,c2,c3,c4,_⟩:=codeHd_of_K KX a3;exact⟨cc,o,vs,c1,c2,c3,c4⟩
     .exact .inl (keep b o z e)
    .by_cases z:b=p
     .rw[z];exact⟨_,ep⟩
     .exact⟨o,keep b o z e⟩
 cases S:K.lookup a with
 |some o =>
  have e:=KX a o S;rw[I]at e;cases e;refine ai (λb=>if b=p then some (.tbl #[])else none) (Th rfl) (λb z=>?_) (.inl (Tg (qw N))) (.inr ⟨_,vs.toArray,_,S,rfl,rfl,rfl,by rw[qj,a2];exact hl,by simpa using rv⟩) λz=>absurd (Tg (qw N)) z;by_cases q:b=p
  .exact .inl q
  .exact absurd (Tg q) z
 |none =>
  refine ai (λb=>if b=p then some (.tbl #[])else if b=a then some (.frz { cls:=.type "list",data:=.seq vs.toArray } (.lst (ns.map V.int)))else none) (Th rfl) (λb z=>?_) (.inr (by rw[Tg (qw N),Th rfl])) (.inl (.inr ⟨{ cls:=.type "list",data:=.seq vs.toArray },by dsimp only;rw[Tg (qw N),Th rfl]⟩)) λ_=>S;by_cases q:b=p
  .exact .inl q
  .rw[Tg q]at z;by_cases q2:b=a
   .exact .inr q2
   .exact absurd (Tg q2) z
theorem z8 {l:N6}{n k:Nat}{q:ti}{loose:List Str}{XP:(Str->Option Value)->Heap->Prop}{N:Kl->Heap->Prop}{d:DefRec}{K:Params->Kq}{sp:Kl->Sp}{x:Str}{p cc:Addr}
  (hn:l.most=some n) (as:n<=sizeLine) (am:d.params.defaults=[]) (hr:dn k Qq)
  (hY:∀(w:Kl) (h:Heap),N w h->(K w.params).In h/\h.get? p=some (NO #[])) (aT:∀w:Kl,(K w.params).lookup p=none) (ai:∀w:Kl,Qn (K w.params) cc p=true)
  (F:∀(w:Kl) (mg:Str->Option Value) (J:Addr) (h:Heap),(K w.params).In h->h.Ns KP mg->mg d.name=some (.ref J) ->
   ∃fd:rn,(∀(s:mu) (u:Value),QY s fd ⟨[u],[]⟩ [(x,u)]) /\
    ∀base:Heap,(K w.params).In base->base.Ns KP mg->base.BuiltinsAt mg p->aZ l.prog w (K w.params) mg base aS k J fd [x] (sp w))
  (ac:∀(w:Kl) (H:Hp) (a:Addr) (ns:List Int),ns.length<=n->bq (K w.params) H a (ns.map V.int)->H p=some (.tbl #[])->sp w [.ref a] H (λv _=>v=.bl true) λ_ _ _=>False) :
  Ry q loose XP N l.row.toRowW d [] (λf vs=>RQ f vs):=by
 refine Att.tK hn am λw s₀ a1 mg mb J o pm cd a0 a vs ns G Y ho hd a2 ab ap aB U hg=>?_;obtain⟨O,S⟩:=hY w _ Y;obtain⟨fd,hb,hF⟩:=F w mg J _ O G.T.g ab;obtain⟨bm,ob,b1,b2,I,R,b5,L⟩:=G.T.bmain;refine xT O G.T.g G.T.b G.T.builtins G.T.nolimit hg ap aB (Ko U as) hr S (aT w) (ai w) ⟨bm,ob,b1,b2,λz=>?_,λz=>?_,I,R,b5,L⟩ hF hb (λH hS hP=>ac w H a ns U hS hP) λ_ _ _ z=>z
 .obtain⟨o,es,ep,e,hd,_⟩:=G.T.g;rw[z,e]at I;cases I;rw[hd]at L;cases L
 .rw[z,S]at I;cases I;cases R
end L2
namespace Hd
open PySem PySem.W PyProof.Rows
def p9:List Obj->List Obj×List Obj
 | []=>([],[])
 | [a]=>([a],[])
 |a::b::r=>(a::(p9 r).1,b::(p9 r).2)
def build:Nat->List Obj->BT
 |0,_=>.nil
 |_+1,[]=>.nil
 |f+1,o::r=>.node o (build f (p9 r).1) (build f (p9 r).2)
def topT (tb:String->Option Builtin) (p:Program) (w:World) (m:Nat) (an:Option Value):Nat->SharedT->Thread->Option SharedT
 |0,_,_=>none
 |k+1,x,t=>match through t with
  |true=>some x
  |false=>match stepOk m an t with
   |false=>none
   |true=>match stepT (denote tb) p w x t with
    |some (y,u)=>topT tb p w m an k y u
    |none=>none
theorem topT_of {tb:String->Option Builtin}{p:Program}{w:World}{m:Nat}{an:Option Value}:∀{k:Nat}{x z:SharedT}{t:Thread},topT tb p w m an k x t=some z->topRun tb p w m an k x.abs t=some z.abs:=by
 intro k
 induction k with
 |zero=>intro x z t e;cases e
 |succ k G =>
  intro x z t e;unfold topT at e;unfold topRun;cases a:through t with
  |true=>rw[a]at e;cases e;rfl
  |false =>
   rw[a]at e;cases b:stepOk m an t with
   |false=>rw[b]at e;cases e
   |true =>
    rw[b]at e;cases c:stepT (denote tb) p w x t with
    |none=>rw[c]at e;cases e
    |some r =>
     obtain⟨y,u⟩:=r;rw[c]at e;rw[stepT_spec c];exact G e
def AB (p q:Program) (loose:List Str) (I:Shared->Bool) (G:Bool) (h:Heap) (s:Shared):=
 (staticsOk (importedModules p.main.body) h s.heap&&namesBound p s.heap&&gensDone s&&laidKept h s.heap,openSeen q loose (importedModules p.main.body) I G s)
theorem Ck {p q:Program}{loose:List Str}{J:Shared->Bool}{α:Type}{O:Shared->α}{L:World->α}{N M m:Nat}{R:Bool}{H:Params->Heap}{T:Params->BT}{life:Life}{gs:Array GenState}{d:Drawn}{k:Nat}{an:Option Value}
  (S:∀w:World,(fencedOpening treeTable p w N).map (λs=>(s.heap,s.gens,s.drawn,s.toks))=some (H w.params,gs,d,k))
  (hT:∀P,absHeap (T P) m life=H P)
  (hS:∀w:World,((H w.params).isNs mainGlobals&&gs.size==0,(H w.params).objs.size,(H w.params).nsMap mainGlobals "__annotations__")=(true,m,an))
  (le:Nat.ble M N=true)
  (run:∀(w:World) (os:OsState),(topT treeTable p w m an M ⟨T w.params,m,life,gs,d,k,os⟩ (topStub p)).map (λs=>(AB p q loose J R (H w.params) s.abs,O s.abs))=some ((true,openGood q loose),L w)) :
  LeftO p q loose J O L N R:=by
 intro w;obtain⟨s,a,b⟩:=Option.map_eq_some_iff.mp (S w);obtain⟨h,I,d',G,os⟩:=s;simp only[Prod.mk.injEq]at b;obtain⟨rfl,rfl,rfl,rfl⟩:=b;have z:=hS w;simp only[Prod.mk.injEq]at z;obtain⟨U,z2,z3⟩:=z;obtain⟨x,c,e⟩:=Option.map_eq_some_iff.mp (run w os);have r:=topT_of c;have ab:(SharedT.mk (T w.params) m life I d' G os).abs=⟨H w.params,I,d',G,os⟩:=by
  unfold SharedT.abs;rw[hT]
 rw[ab]at r;have r:=topRun_mono (N-M) _ _ _ _ r;rw[show M+(N-M)=N from Nat.add_sub_cancel' (Nat.le_of_ble_eq_true le)]at r;simp only[AB,Prod.mk.injEq]at e;obtain⟨⟨e1,Y⟩,e3⟩:=e;have t:topFrom treeTable p w N ⟨H w.params,I,d',G,os⟩=some x.abs:=by
  unfold topFrom;dsimp only;rw[U,z2,z3,r];simp only[bind_some,e1]
 unfold openEnds;rw[a];simp only[bind_some,t,Option.map_some,Y,e3]
theorem both {r:OpenRow}{q:Program}{loose:List Str}{d:DefRec}{G:List (Str×Expr)}{N:Nat}(H:Hook)
  (h1:defOf q r.name=some (d,G)) (h2:r.prog.theDef r.name=some (d.params,d.body,d.scope)) (S:kwWritten? d.params.kwonlyargs d.params.kw_defaults=some G) (L:(!r.writes||r.records.isEmpty)=true)
  (O:r.wellSaid=true) (J:(chainsOk q&&opensWell r.prog&&(frees r.toRowW&&r.within.isEmpty))=true) (R:r.prog.bare) (I:r.toRowW.promised)
  (h:LeftO r.prog q loose (λs=>xlAt q [] s&&recOk r.records s) H.obs H.val N/\WalkO q loose (XL q []) H.says r.toRowW d G λf vs=>PySem.call f vs):r.Holds :=
 holds_open h.1 H.of H.keeps (λs e=>xl_of s (Bool.and_eq_true_iff.mp e).1) XL.keeps h1 h2 S (λs e=>recFacts_of (Bool.and_eq_true_iff.mp e).2) L O J R I h.2
noncomputable def Di (P:Params):BT:=build 12 (boot_heap P).objs.toList
def q:Program:=PySem.W.view PySem.Challenge.pw_ownroom_k17_all_free_at_the_end [51]
def loose:List Str:=[Str.ofString "_wall",Str.ofString "__name__",Str.ofString "KernelError",Str.ofString "ValueError",Str.ofString "NoOwner",Str.ofString "NoTask",Str.ofString "NoPage",Str.ofString "NoRoom",Str.ofString "Taken",Str.ofString "PAGE_CELLS",Str.ofString "Store",Str.ofString "lift",Str.ofString "settle",Str.ofString "Paging",Str.ofString "ROOM_PAGES",Str.ofString "room_of",Str.ofString "refuse_second_room",Str.ofString "refuse_above",Str.ofString "pages_from",Str.ofString "refuse_unmapped",Str.ofString "pages_to_map",Str.ofString "pages_to_drop",Str.ofString "pages_of_cells",Str.ofString "run_within",Str.ofString "pages_with",Str.ofString "STEP_PAGES",Str.ofString "own_copy",Str.ofString "Table",Str.ofString "BLANK",Str.ofString "Rooms",Str.ofString "_law_mixed",Str.ofString "_law_number",Str.ofString "_law_whole",Str.ofString "_law_cells",Str.ofString "_law_model",Str.ofString "_law_held",Str.ofString "_law_stretch",Str.ofString "_law_due",Str.ofString "_law_done",Str.ofString "_law_called",Str.ofString "_law_numbers",Str.ofString "_law_sizes",Str.ofString "_law_busy",Str.ofString "_law_begun",Str.ofString "_law_emptied",Str.ofString "_law_all_used"]
local macro_rules | `(tactic| o_head $H) => `(tactic| refine Hd.both (q:=Hd.q) (loose:=Hd.loose) (N:=100000) $H (by rfl) (by rfl) (by rfl) (by rfl) (by assumption) aq ⟨rfl,rfl,rfl,rfl,rfl,aq⟩ ?$(Lean.mkIdent `hw):ident ?$(Lean.mkIdent `hc):ident)
open_top top for PySem.Challenge.rw_ownroom_k17_all_free_at_the_end
def at_:List Addr:=[2,3,15,17,18,20,21,22,29,30,31,32,35,42,43,44,47,54,55,56,59,66,67,68,71,78,79,80,83,90,91,92,102,104,105,107,108,109,111,112,114,115,116,118,119,121,122,123,125,126,128,129,130,132,133,135,136,137,139,140,142,143,144,146,147,149,150,151,153,154,156,157,158,160,161,163,164,165,166,167,168,169,172,174,175,177,178,179,181,182,184,185,193,195,196,198,199,200,202,203,205,206,207,209,210,212,213,214,216,217,219,220,221,223,224,226,227,228,230,231,233,234,235,237,238,240,241,242,244,245,247,248,249,251,252,254,255,256,258,259,261,262,263,265,266,268,269,270,272,273,275,276,277,279,280,282,283,284,286,287,289,290,291,292,293,294,295,298,300,301,303,304,305,307,308,310,311,312,314,315,317,318,319,321,322,324,325,326,328,329,331,332,333,335,336,338,339,340,342,343,345,346,347,349,350,352,353,354,356,357,359,360,361,364,365,366,369,370,378,380,381,383,384,385,387,388,390,391,392,394,395,397,398,399,401,402,404,405,406,408,409,411,412,413,415,416,418,419,420,421,422,423,424,427,435,437,438,440,441,442,444,445,447,448,449,451,452,454,455,456,458,459,461,462,463,465,466,468,469,470,472,473,475,476,477,479,480,482,483,484,486,487,489,490,491,494,495,496,498,499,501,502,503,505,506,508,509,510,512,513,515,516,517,519,520,522,523,524,526,527,529,530,531,532,533,534,535,538,540,541,543,544,545,547,548,550,551,552,554,555,557,558,559,561,562,564,565,566,568,569,571,572,573,576,577,578,581,582,583,586,587,588,591,592,593,595,596,598,599,600,603,604,605,607,608,610,611,612,614,615,617,618,619,621,622,624,625,626,628,629,631,632,633,635,636,638,639,640,642,643,645,646]
def Iz:List Addr:=[627]
noncomputable def lhs (w:World) (os:OsState):=
 (topT treeTable PySem.Challenge.pw_ownroom_k17_all_free_at_the_end w 11 (some (.ref 6)) 100000 ⟨Di w.params,11, {},Array.mk [],boot_drawn,boot_toks,os⟩ (topStub PySem.Challenge.pw_ownroom_k17_all_free_at_the_end)).map
  λs=>(AB PySem.Challenge.pw_ownroom_k17_all_free_at_the_end q loose (λs=>xlAt q [] s&&recOk PySem.Challenge.rw_ownroom_k17_all_free_at_the_end.row.records s) true (boot_heap w.params) s.abs,(at_.map s.abs.heap.get?,Iz.map s.abs.heap.get?))
noncomputable def IB (K:Frag):=some ((true,openGood q loose),(K.map (λp=>some p.2),Iz.map λ_=>some (tabObj #[])))
theorem lhs_self:lhs=lhs:=rfl
theorem zW:IB=IB:=rfl
name_quick hdL for Hd.lhs by Hd.lhs_self
name_quick hdR for Hd.IB by Hd.zW
noncomputable def rhs (w:World):=some ((true,openGood q loose),(((Hd.top.heap_39 w.params).map λp=>some p.2),Iz.map λ_=>some (tabObj #[])))
theorem same_ (w:World) (os:OsState):PySem.W.Fast.hdL w os=PySem.W.Fast.hdR (Hd.top.heap_39 w.params):=by kernel_rfl
theorem run_ (w:World) (os:OsState):lhs w os=rhs w:=((congrFun (congrFun PySem.W.Fast.hdL_eq w) os).trans (same_ w os)).trans (congrFun PySem.W.Fast.hdR_eq (Hd.top.heap_39 w.params)).symm
end Hd
namespace Lw
open PySem L2
def Al:Nat->(List Value->Prop)->Prop
 |0,p=>p []
 |n+1,p=>∀a,Al n λl=>p (a::l)
theorem al:∀{n:Nat}{p:List Value->Prop},Al n p->∀us:List Value,us.length=n->p us
 |0,_,h,us,e=>by cases List.eq_nil_of_length_eq_zero e;exact h
 |n+1,_,h,us,e=>by
  cases us with
  |nil=>cases e
  |cons a us=>exact al (h a) us (Nat.succ.inj e)
inductive MI (K:Kq) (C:Addr) (m q:Str) (st:KO) (ps:List Str):Prop
 |mk (f:Addr) (fd:rn) (_:cD K m q st f fd) (_:Binds K fd ps []) (_:Meth K C m f):MI K C m q st ps
inductive DI (K:Kq) (x:Str) (st:KO) (ps:List Str):Prop
 |mk (f:Addr) (fd:rn) (_:cD K x x st f fd) (_:Binds K fd ps []) (_:SH K KP x=some (some (.ref f))):DI K x st ps
section
variable {K:Kq}{C f:Addr}{m q:Str}{st:KO}{ps:List Str}{od an:Option Addr}{sl:Array (Option Value)}{oc kV dc pm cd ct:Value}
theorem MI.of (a:Ow K (.ref C) m=some (some (.ref f))) (i:isFn K (.ref f)=true) (l:K.lookup f=some ⟨oc,od,.func (RM m q (eg st) (dh st) (aw st) .none kV dc pm an cd ct),sl⟩) (c:RN K cd q=true) (k:PH K (.ref f)=true)
  (b:∀kV G pm an I ct,Al ps.length λus=>Pj (RM m q (eg st) (dh st) (aw st) .none kV G pm an I ct) ⟨us,[]⟩=pure (ps.zip us)):MI K C m q st ps :=
 ⟨_,_,kC l c k,(kC l c k).binds λ_ _ _ _ _ _=>al (b _ _ _ _ _ _),a,i,k⟩
theorem DI.of (a:SH K KP m=some (some (.ref f))) (l:K.lookup f=some ⟨oc,od,.func (RM m m (eg st) (dh st) (aw st) .none kV dc pm an cd ct),sl⟩) (c:RN K cd m=true) (k:PH K (.ref f)=true)
  (b:∀kV G pm an I ct,Al ps.length λus=>Pj (RM m m (eg st) (dh st) (aw st) .none kV G pm an I ct) ⟨us,[]⟩=pure (ps.zip us)):DI K m st ps :=
 ⟨_,_,kC l c k,(kC l c k).binds λ_ _ _ _ _ _=>al (b _ _ _ _ _ _),a⟩
inductive TI (K:Kq) (x:Str) (st:KO) (ps:List Str) (cc:Addr):Prop
 |mk (f:Addr) (fd:rn) (_:cD K x x st f fd) (_:Binds K fd ps []) (_:SH K KP x=some (some (.ref f))) (_:fd.code=.ref cc):TI K x st ps cc
theorem TI.of {cc:Addr}(a:SH K KP m=some (some (.ref f))) (l:K.lookup f=some ⟨oc,od,.func (RM m m (eg st) (dh st) (aw st) .none kV dc pm an (.ref cc) ct),sl⟩) (c:RN K (.ref cc) m=true) (k:PH K (.ref f)=true)
  (b:∀kV G pm an I ct,Al ps.length λus=>Pj (RM m m (eg st) (dh st) (aw st) .none kV G pm an I ct) ⟨us,[]⟩=pure (ps.zip us)):TI K m st ps cc :=
 ⟨_,_,kC l c k,(kC l c k).binds λ_ _ _ _ _ _=>al (b _ _ _ _ _ _),a,rfl⟩
inductive CI (K:Kq) (C:Addr) (x:Str):Prop
 |mk (_:SH K KP x=some (some (.ref C))) (_:rG K C) (_:makesIn K C=true) (_:PH K (.ref C)=true):CI K C x
end
theorem MI.md {P:ti}{w:Kl}{K:Kq}{mg:Str->Option Value}{base:Heap}{CX:uO}{n:Nat}{C:Addr}{m q:Str}{st:KO}{ps:List Str}{sp:Sp}(h:MI K C m q st ps) (k:∀{f fd},cD K m q st f fd->aZ P w K mg base CX n f fd ps sp):Md P w K mg base CX n C m sp:=by
 obtain⟨f,fd,F,b,M⟩:=h;exact Md.mk _ _ _ (k F) b M
theorem DI.df {P:ti}{w:Kl}{K:Kq}{mg:Str->Option Value}{base H:Heap}{CX:uO}{n:Nat}{x:Str}{st:KO}{ps:List Str}{sp:Sp}(h:DI K x st ps) (X:K.In H) (G:H.Ns KP mg) (k:∀{f fd},cD K x x st f fd->aZ P w K mg base CX n f fd ps sp):Df P w K mg base CX n x sp:=by
 obtain⟨f,fd,F,b,a⟩:=h;exact Df.mk _ _ _ (k F) b (Pz X G a) F.kp
def NI (K:Kq):List Str->Prop
 | []=>True
 |x::l=>SH K KP x=some none/\NI K l
def AI (K:Kq) (C:Addr):List Str->Prop
 | []=>True
 |x::l=>Ow K (.ref C) x=some none/\AI K C l
theorem all_mk {l:N6}{w:Kl}{K:Kq}{h:Heap}{mg:Str->Option Value}{fa L I N J aB cc pt:Addr}{f2 t8 t9:SK}{bi:Value}{fe:Option Addr}{ft:Array (Option Value)}{a1:Array Value}{nB:Nat}(X:K.In h) (G:h.Ns KP mg) (hO:mg "law" = some (.ref fa)) :
  CI K L "Store" -> AI K L ["owners","contents"]->MI K L "__init__" "Store.__init__" St.mQ ["self","many"]->MI K L "take" "Store.take" St.za ["self"]->MI K L "less" "Store.less" St.AJ ["self","n"]->MI K L "more" "Store.more" St.Ap ["self","n"]->MI K L "free" "Store.free" St.zF ["self"]->MI K L "count" "Store.count" St.vd ["self","n"]->MI K L "cells" "Store.cells" St.vR ["self","n"]->MI K L "put" "Store.put" St.Fi ["self","n","cells"]->MI K L "refuse_free" "Store.refuse_free" St.qu ["self","n"]->CI K I "Paging" -> AI K I ["frames","slots","places","last_sheet","in_frames"]->MI K I "__init__" "Paging.__init__" St.ue ["self","frames","slots"]->MI K I "new_sheet" "Paging.new_sheet" St.kE ["self","cells"]->MI K I "share" "Paging.share" St.wj ["self","sheet"]->MI K I "leave" "Paging.leave" St.uQ ["self","sheet"]->MI K I "cells" "Paging.cells" St.qQ ["self","sheet"]->MI K I "change" "Paging.change" St.pW ["self","sheet","cells"]->MI K I "fetch" "Paging.fetch" St.ve ["self","sheet"]->MI K I "bring_in" "Paging.bring_in" St.m6 ["self","sheet","moved"]->MI K I "put_out" "Paging.put_out" St.qc ["self","sheet"]->MI K I "place" "Paging.place" St.uT ["self","sheet"]->MI K I "number_of" "Paging.number_of" St.j0 ["self","sheet"]->MI K I "store_of" "Paging.store_of" St.mE ["self","sheet"]->MI K I "count" "Paging.count" St.pQ ["self","sheet"]->MI K I "counts" "Paging.counts" Lw.m9 ["self"]->CI K N "Table" -> AI K N ["first_step"]->MI K N "__init__" "Table.__init__" Tb.mQ ["self"]->MI K N "get" "Table.get" Tb.Ek ["self","page"]->MI K N "lay" "Table.lay" Tb.EV ["self","page","entry"]->MI K N "clear" "Table.clear" Tb.uv ["self","page"]->MI K N "pages" "Table.pages" Tb.vq ["self"]->CI K J "Rooms" -> AI K J ["paging","total","rooms"]->MI K J "__init__" "Rooms.__init__" St.vT ["self","frames","slots"]->MI K J "begin" "Rooms.begin" St.qh ["self","task"]->MI K J "close" "Rooms.close" St.qt ["self","task"]->MI K J "map" "Rooms.map" St.Ah ["self","task","page","many"]->MI K J "drop" "Rooms.drop" St.vb ["self","task","page","many"]->MI K J "peek" "Rooms.peek" St.uK ["self","task","address","many"]->MI K J "poke" "Rooms.poke" St.vL ["self","task","address","cells"]->MI K J "copy" "Rooms.copy" St.vh ["self","task","other"]->MI K J "held" "Rooms.held" St.um ["self"]->MI K J "counts" "Rooms.counts" Lw.mT ["self"]->MI K J "place" "Rooms.place" St.qZ ["self","task","page"]->MI K J "leave_pages" "Rooms.leave_pages" St.rD ["self","table","pages"]->MI K J "cells_of" "Rooms.cells_of" St.qm ["self","entry"]->MI K J "sheet_with" "Rooms.sheet_with" St.qy ["self","entry","cells"]->DI K "lift" St.Bh ["store","n"]->DI K "settle" St.rC ["store","moved"]->DI K "own_copy" Tb.xb ["value"]->DI K "room_of" St.qI ["rooms","task"]->DI K "refuse_second_room" St.qT ["rooms","task"]->DI K "refuse_above" St.uW ["held","total"]->DI K "pages_from" Rm.jf ["page","many"]->DI K "refuse_unmapped" Rm.km ["mapped","pages"]->DI K "pages_to_map" Rm.uY ["mapped","page","many"]->DI K "pages_to_drop" Rm.qv ["mapped","page","many"]->DI K "pages_of_cells" Rm.lV ["mapped","address","many"]->DI K "run_within" Rm.pU ["whole","address","many"]->DI K "pages_with" Rm.zr ["whole","address","cells"]->DI K "_law_mixed" Lw.vP ["_law_cell","_law_k"]->DI K "_law_number" Lw.qM ["_law_script","_law_k"]->DI K "_law_whole" Lw.vA ["_law_found"]->DI K "_law_cells" Lw.nG ["_law_m","_law_many"]->DI K "_law_model" Lw.vE ["_law_total"]->DI K "_law_held" Lw.vg ["_law_model_here"]->DI K "_law_stretch" Lw.lT ["_law_room","_law_address","_law_many"]->DI K "_law_due" Lw.Ez ["_law_model_here","_law_deed"]->DI K "_law_done" Lw.AH ["_law_model_here","_law_deed"]->DI K "_law_called" Lw.pJ ["_law_kept","_law_deed"]->DI K "_law_numbers" Lw.mC ["_law_found","_law_due_here"]->DI K "_law_sizes" Lw.vU ["_law_m"]->DI K "_law_busy" Lw.AY ["_law_m","_law_model_here","_law_tasks"]->DI K "_law_begun" Lw.uP ["_law_m"]->TI K "_law_emptied" Lw.m7 ["_law_kept","_law_model_here","_law_m"] cc->DI K "_law_all_used" Lw.nv ["_law_kept","_law_total","_law_m"]->DI K "law" Lw.DL ["_law_script"]->SH K KP "ROOM_PAGES" = some (some (.int 64 f2))->SH K KP "PAGE_CELLS" = some (some (.int 8 t8))->SH K KP "STEP_PAGES" = some (some (.int 8 t9))->NI K ["range","enumerate","sum","int","isinstance","min","max","list","len","dict","bool","tuple","sorted","all","any","zip"]->SH K KP "BLANK" = some (some (.ref aB))->K.lookup aB=some ⟨bi,fe,.seq a1 nB,ft⟩->bi=.type "tuple" -> Vals [V.str "blank"] a1.toList->a1.size<=1->Qn K cc pt=true ->
  ∃fd:rn,(∀(s:mu) (v:Value),QY s fd ⟨[v],[]⟩ [("_law_script",v)])/\∀base:Heap,K.In base->base.Ns KP mg->base.BuiltinsAt mg pt->aZ l.prog w K mg base aS 12 fa fd ["_law_script"] (xh K pt):=by
 intro h0 h1 h2 h3 h4 h5 h6 h7 h8 h9 d7 dM eo fk g2 fy hq eN ez ej ge hz c3 hj fi hn dL c8 da hP dp fc e1 c9 hc f7 ht e8 fH dV fl hQ e9 d5 hR g6 eH fD hD gd hh fo bn cx hb c1 e5 g8 ee hr eC gK dl hE hx gs ef f3 c0 hw e6 ep dz c5 hy c2 hG ew g7 gP q0 q1 q2 dj yB lB oB vB wB e2;obtain⟨f0,ei,eq,ey⟩:=h0;obtain⟨g1,fz,_⟩:=h1;obtain⟨f1,d1,F1,b1,M1⟩:=h2;obtain⟨dy,hF,dd,f8⟩:=dM;obtain⟨dI,hM,d6,hg,ec,_⟩:=eo;obtain⟨ia,hU,c4,ha,b2⟩:=fk;obtain⟨a4,hK,ba,a5⟩:=c8;obtain⟨en,_⟩:=da;obtain⟨hY,ik,gm,bm,ap⟩:=hP;obtain⟨fI,el,em,eP⟩:=hc;obtain⟨hA,d8,dO,_⟩:=f7;obtain⟨iF,ii,f4,hf,be⟩:=ht;obtain⟨il,ib,a6,ek,d2,dT⟩:=ew;obtain⟨ih,e4,a3,io,hC⟩:=gP;obtain⟨b0,hv,bv,eA,bY,g3,fv,ac,ai,ch,eb,cm,ci,hk,g0,e0,_⟩:=dj;have e:=hO.symm.trans (Pz X G hC);cases e;refine⟨e4,λs v=>?_,λbase _ _ db=>?_⟩
 .obtain⟨oc,od,kV,it,pm,an,im,ct,iv,rfl,lk,iN⟩:=a3.ex;exact .of_eq rfl
 have TS:St.Txt K mg L:=⟨ei,g1,fz,KG X G ai,KG X G ac,⟨_,Pz X G q1,⟨_,rfl⟩⟩⟩;have TT:Tb.Txt K mg N:=⟨hK,en,⟨_,Pz X G q2,⟨_,rfl⟩⟩⟩;have TQ:Tb.Bd mg:=⟨KG X G bY,KG X G cm,KG X G ac,KG X G ch,KG X G ai,KG X G ci⟩;have SX:Rm.zu mg:=⟨⟨_,Pz X G q0,⟨_,rfl⟩⟩,⟨_,Pz X G q1,⟨_,rfl⟩⟩,KG X G ac,KG X G b0,KG X G ai⟩;have TP:St.nN K mg I:=⟨hF,dI,hM,d6,hg,ec,KG X G ac⟩;have O:St.oV K mg ⟨J,I,L,N⟩:=⟨el,hA,d8,dO,⟨aB,Pz X G yB,.inr ⟨_,a1,nB,lB,oB,rfl,Ko wB av,vB⟩⟩,⟨_,Pz X G q1,⟨_,rfl⟩⟩,KG X G ai,KG X G bv,KG X G e0⟩;have MT:Lw.ke mg:=⟨KG X G b0,KG X G hv,KG X G bv,KG X G eA,KG X G bY,KG X G g3,KG X G fv,KG X G ac,KG X G ai,KG X G ch,KG X G eb,KG X G cm,KG X G ci,KG X G hk,KG X G g0⟩;have ho:=St.qB (P:=l.prog) (w:=w) (base:=base) F1 TS;have Y:=h7.md λF=>St.Bl (P:=l.prog) (w:=w) (base:=base) F TS;have aT:=d7.md λF=>St.yR F TS Y;have bA:=h4.md λF=>St.Cc F TS aT;have bc:=h8.md λF=>St.zv F TS aT;have b8:=h9.md λF=>St.DG F TS aT;have a7:=h5.md λF=>St.CK F TS aT;have g4:=h3.md λF=>St.Ct (P:=l.prog) (w:=w) (base:=base) F TS;have bI:=h6.md λF=>St.CO (P:=l.prog) (w:=w) (base:=base) F TS;have g9:=bn.df X G λF=>Tb.Ao (P:=l.prog) (w:=w) (base:=base) F TQ;have GC:=bn.df X G λF=>Tb.Cn F TQ g9;have b5:=Tb.qB (P:=l.prog) (w:=w) (base:=base) gm TT;have ab:=dp.md λF=>Tb.DC F TT GC;have a2:=fc.md λF=>Tb.DH F TT GC;have gl:=e1.md λF=>Tb.Bk (P:=l.prog) (w:=w) (base:=base) F TT TQ;have R:=c9.md λF=>Tb.Bu (P:=l.prog) (w:=w) (base:=base) F TT TQ;have GP:=e5.df X G λF=>Rm.qk (P:=l.prog) (w:=w) (base:=base) F SX;have GU:=g8.df X G λF=>Rm.tX (P:=l.prog) (w:=w) (base:=base) (mg:=mg) F;have GM:=ee.df X G λF=>Rm.Ay F GP;have GD:=hr.df X G λF=>Rm.yE F GP GU;have GO:=eC.df X G λF=>Rm.uJ F SX GP GU;have c7:=gK.df X G λF=>Rm.yr (P:=l.prog) (w:=w) (base:=base) F SX;have go:=dl.df X G λF=>Rm.CG (P:=l.prog) (w:=w) (base:=base) F SX;have b4:=hh.df X G λF=>St.Cp F TS bc Y bA;have b6:=fo.df X G λF=>St.yX F TS g4 b8 Y a7;have am:=c3.md λF=>St.Ar (CS:=L) (P:=l.prog) (w:=w) (base:=base) F TP;have U:=hj.md λF=>St.rQ F TP am;have a0:=fi.md λF=>St.vG F TP am;have hT:=hn.md λF=>St.x8 F TP TS a0 U Y;have e3:=eN.md λF=>St.yP F TP TS a0 U bc;have e7:=hz.md λF=>St.uN F TP b4 b6 U;have ce:=ge.md λF=>St.sf F TP TS bI e7 b6;have bE:=g2.md λF=>St.qP F TP TS bI ce;have bb:=ej.md λF=>St.zH F TP am ce b4;have hu:=fy.md λF=>St.AD F TP TS a0 U a7;have ca:=hq.md λF=>St.Az F TP TS a0 U bA Y;have fT:=ez.md λF=>St.yT F TP TS hT bE ca bb U b8;have hm:=St.zA c4 TP ⟨eq,M1.at_,M1.fn,ey⟩ (Pz X G f0) ho b1;have S:=cx.df X G λF=>St.xV (P:=l.prog) (w:=w) (base:=base) (mg:=mg) F;have GS:=hb.df X G λF=>St.yL (P:=l.prog) (w:=w) (base:=base) (mg:=mg) F;have GA:=c1.df X G λF=>St.Bv (P:=l.prog) (w:=w) (base:=base) (mg:=mg) F;have fu:=St.Bc (c:=⟨J,I,L,N⟩) f4 O ⟨dd,b2.at_,b2.fn,f8⟩ (Pz X G dy) hm ha;have b3:=fD.md λF=>St.oa (c:=⟨J,I,L,N⟩) F O TT TP ab gl ca;have ev:=fl.md λF=>St.BG (c:=⟨J,I,L,N⟩) F O TT S GD R b3;have hH:=fH.md λF=>St.xK (c:=⟨J,I,L,N⟩) F O TT S R b3;have hd:=e8.md λF=>St.yw (c:=⟨J,I,L,N⟩) F O ⟨ba,ap.at_,ap.fn,a5⟩ (Pz X G a4) GS b5 bm;have b7:=hD.md λF=>St.uo (c:=⟨J,I,L,N⟩) F O TP e3;have d3:=gd.md λF=>St.qR (c:=⟨J,I,L,N⟩) F O TP bE fT;have as:=hR.md λF=>St.Ab (c:=⟨J,I,L,N⟩) F O TT R;have hB:=dV.md λF=>St.CC (c:=⟨J,I,L,N⟩) F O TT S GM GA R as a2;have et:=hQ.md λF=>St.Aq (c:=⟨J,I,L,N⟩) F O TT TP S GO c7 R ab bb b7;have cr:=e9.md λF=>St.zP (c:=⟨J,I,L,N⟩) F O TT S GO go R ab a2 b7 d3;have fx:=d5.md λF=>St.ze (c:=⟨J,I,L,N⟩) F O TT TP ⟨ba,ap.at_,ap.fn,a5⟩ (Pz X G a4) S GS GA b5 bm R as ab a2 hu;have hS:=eH.md λF=>St.x9 (c:=⟨J,I,L,N⟩) F O TT TP S ab am;have KT:Lw.Hv l.prog w K mg base ⟨J,I,L,N⟩:=⟨hd,hH,hB,ev,fx,et,cr,hS⟩;have he:=hE.df X G λF=>Lw.zT (P:=l.prog) (w:=w) (base:=base) (mg:=mg) F;have d4:=hx.df X G λF=>Lw.yl F MT he;have bd:=hy.df X G λF=>Lw.zZ (P:=l.prog) (w:=w) (base:=base) (mg:=mg) F;have ea:=f3.df X G λF=>Lw.zf (P:=l.prog) (w:=w) (base:=base) (mg:=mg) F;have bz:=c0.df X G λF=>Lw.Be (P:=l.prog) (w:=w) (base:=base) F MT;have f5:=hw.df X G λF=>Lw.vm (P:=l.prog) (w:=w) (base:=base) F MT;have g5:=e6.df X G λF=>Lw.ET F MT bz f5;have bx:=ep.df X G λF=>Lw.BX (P:=l.prog) (w:=w) (base:=base) F MT;have fr:=dz.df X G λF=>Lw.yI F O KT;have ga:=gs.df X G λF=>Lw.AR (P:=l.prog) (w:=w) (base:=base) F MT;have hL:=c5.df X G λF=>Lw.vv F MT ga;have hl:=ef.df X G λF=>Lw.uH (P:=l.prog) (w:=w) (base:=base) F MT;have hI:=c2.df X G λF=>Lw.BH F MT bz hl;have hN:=dL.md λF=>Lw.wt (P:=l.prog) (w:=w) (base:=base) F TP TS;have bl:=g6.md λF=>Lw.vC (c:=⟨J,I,L,N⟩) F O TP hN;have gt:=Df.mk _ _ _ (Lw.vj a6 dT e2 db MT O KT) ek (Pz X G d2) a6.kp;have dm:=g7.df X G λF=>Lw.rR F MT O KT hL as bl;have hp:=hG.df X G λF=>Lw.Ac F O KT ⟨em,be.at_,be.fn,eP⟩ (Pz X G fI) bd fu hf ea bx;exact Lw.Es a3 MT O d4 bd hp hI g5 bx fr gt dm as bl
theorem walk {l:N6}{q:ti}{loose:List Str}{U:(Str->Option Value)->Heap->Prop}{G:Kl->Heap->Prop}{d:DefRec}{K:Params->Kq}{pt cc:Addr}(R:l.most=some 63) (L:d.params.defaults=[])
  (O:∀(w:Kl) (h:Heap),G w h->(K w.params).In h/\h.get? pt=some (NO #[])) (Y:∀w:Kl,(K w.params).lookup pt=none) (J:∀w:Kl,Qn (K w.params) cc pt=true)
  (F:∀(w:Kl) (mg:Str->Option Value) (I:Addr) (h:Heap),(K w.params).In h->h.Ns KP mg->mg d.name=some (.ref I) ->
   ∃fd:rn,(∀(s:mu) (u:Value),QY s fd ⟨[u],[]⟩ [("_law_script",u)])/\∀base:Heap,(K w.params).In base->base.Ns KP mg->base.BuiltinsAt mg pt->aZ l.prog w (K w.params) mg base aS 12 I fd ["_law_script"] (xh (K w.params) pt)) :
  Ry q loose U G l.row.toRowW d [] (λf vs=>RQ f vs):=
 L2.z8 (n:=63) (k:=12) (x := "_law_script") (sp:=λw=>xh (K w.params) pt) R av L ⟨rfl,av,av⟩ O Y J F (λ_ _ a ns S hS N=>⟨a,ns,rfl,hS,S,N,λ_=>rfl⟩)
end Lw
open PySem PySem.W PyProof.Rows
theorem PySem.Challenge.cw_ownroom_k17_all_free_at_the_end_holds : PySem.Challenge.rw_ownroom_k17_all_free_at_the_end.Holds := by
 refine Hd.top ⟨Hd.Ck (H:=boot_heap) (T:=Hd.Di) (life:={}) (m:=11) (M:=100000) (gs:=Array.mk []) (d:=boot_drawn) (k:=boot_toks) (an:=some (.ref 6)) (boot_open (by kernel_rfl) av (λs=>by kernel_rfl)) (λP=>by kernel_rfl) (λw=>by kernel_rfl) av (λw os=>Hd.run_ w os),?_⟩
 k_fill
 refine Lw.walk (l:=PySem.Challenge.rw_ownroom_k17_all_free_at_the_end) (pt:=627) (cc:=631) rfl rfl (λw h Y=>⟨Y.1,Y.2 627 (.head _)⟩) (λw=>by kernel_rfl) (λw=>by kernel_rfl) ?F
 case F =>
  intro w mg fa h KX G hmg;apply Lw.all_mk KX G hmg
  all_goals first
   |(apply Lw.MI.of<;>first|k_is|(first|exact λ_ _ _ _ _ _ _=>rfl|exact λ_ _ _ _ _ _ _ _=>rfl|exact λ_ _ _ _ _ _ _ _ _=>rfl|exact λ_ _ _ _ _ _ _ _ _ _=>rfl|exact λ_ _ _ _ _ _ _ _ _ _ _=>rfl))
   |(apply Lw.TI.of (cc:=631)<;>first|k_is|(first|exact λ_ _ _ _ _ _ _ _ _=>rfl))
   |(apply Lw.DI.of<;>first|k_is|(first|exact λ_ _ _ _ _ _ _=>rfl|exact λ_ _ _ _ _ _ _ _=>rfl|exact λ_ _ _ _ _ _ _ _ _=>rfl|exact λ_ _ _ _ _ _ _ _ _ _=>rfl|exact λ_ _ _ _ _ _ _ _ _ _ _=>rfl))
   |(apply Lw.CI.mk;k_is;(constructor<;>k_is);k_is;k_is)
   |(unfold Lw.NI;repeat' first|apply And.intro|exact trivial|k_is|unfold Lw.NI)
   |(unfold Lw.AI;repeat' first|apply And.intro|exact trivial|k_is|unfold Lw.AI)
   |k_is|(show codeHdIn _ _ 627=true;kernel_rfl)|rfl|exact .cons ⟨_,rfl⟩ .nil|exact le_refl 1
